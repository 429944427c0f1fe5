import Derived.Lib.BufferWrite
import Derived.Test.YtoehnnefaeoeoaaGreatPAD
import Derived.Test.YtoehnnefaeoeoaaGreatPAE
set_option linter.all false
set_option maxRecDepth 100000
set_option maxHeartbeats 16000000
namespace Go.Proofs.YtoehnnefaeoeoaaGreat
open Go.Proofs.Tryz
namespace cA
open RowKit az
def CR(ok:Nat->Bool)(n:Nat):Option Nat:=(List.range n).find? (fun i=> !ok i)
variable {n:Nat}
theorem XN{ok:Nat->Bool}(h:∀j,j<n->ok j=true):CR ok n=none:=by grind[CR]
variable {k:Nat}
theorem XO{ok:Nat->Bool}(a:k<n)(h:∀j,j<k->ok j=true)(b:ok k=false):CR ok n=some k:=by unfold CR;simp_all
def QE(o:Option Nat):Int×Bool:=match o with|some k=>((k:Int),true)|none=>(0,false)
def uP(l:List ByteArray):Bool:=l.all fun s=>decide (s.size<=16)
variable {l:List ByteArray}
theorem aiU(b:k<l.length)(h:uP (l.take k)=true)(a:l[k].size<=16):uP (l.take (k+1))=true:=by grind[uP,List.take_succ_eq_append_getElem]
theorem aiV(b:k<l.length)(a:¬l[k].size<=16):uP l=false:=by grind[uP]
theorem aiW(l:List ByteArray)(v:Value)(w:World)(f:Qf w v l):
 Calls (ai prog true) 62 #[v] w fun e w'=>e=.returned (.bool (uP l))/\w'=w:=by
 obtain⟨n,cap,rfl,hl,h⟩:=f;go_enter (bl (upd:=true) func62 AS),ntmps62
 go_wp2
 go_loop [4,7] (fun _ i=>∃k:Nat,k<=l.length/\i=.int .i64 k/\uP (l.take k)=true) (fun _ i=>l.length-(intOf i).toNat)
 case atStart=>exact⟨0,Nat.zero_le _,rfl,rfl⟩
 case round=>
  obtain⟨k,m,rfl,ht⟩:=hrel;have c:Hid _:=ht;clear ht;by_cases a:k<l.length
  ·obtain⟨b,off,rfl,g,j⟩:=h k a;simp at g;by_cases d:l[k].size<=16
   ·go_wp2
    go_round
    case rel=>exact⟨k+1,Ay,by go_num,aiU a c.out d⟩
    case measure=>simp[intOf];omega
   ·go_wp2
    go_ret
    exact⟨by rw[aiV a d];rfl,rfl⟩
  ·go_wp2
   go_ret
   refine⟨?_,rfl⟩;have e:uP l=true:=by have:=c.out;grind
   rw[e];rfl
def If(k s:Int)(mj b3 cf:Nat)(fit:Bool)(rows:Int):Bool:=
 H7 (k,s)&&((cf:Int)==rows&&((mj:Int)==(if k=3 then 0 else rows)&&(b3:Int)==(if k=3 then rows else 0)))&&fit
def xc(c:br)(rows:Int):Bool:=If c.kind c.cE c.jP.length c.hQ.length c.fY.length (uP c.hQ) rows
abbrev aiX(c:br)(bQ vs bo:Value):Value:=.agg #[.int .i64 c.kind,.int .i64 c.cE,bQ,vs,bo]
theorem aiY(k s:Int)(l d an:Option Addr)(b a f ci c n:Nat)(hQ:List ByteArray)(rows:Int)(w:World)(t:a<=9223372036854775807)(p:Qf w (.slice d a c) hQ):
 Calls (ai prog true) 40 #[.agg #[.int .i64 k,.int .i64 s,.slice l b ci,.slice d a c,.slice an f n],.int .i64 rows] w fun e w'=>e=.returned (.bool (If k s b a f (uP hQ) rows))/\Below w.heap.size w w':=by
 go_enter (bl (upd:=true) func40 AS),ntmps40
 go_wp2_with fail
 refine(Xt k s _ _ _ _).mono ?_;rintro e w1 ⟨rfl,g⟩;have cV:=(af.new w #[.int .i64 k,.int .i64 s,.slice l b ci,.slice d a c,.slice an f n] 48).call g;have j:Below w.heap.size w w1:=Below.step g ((Below.refl _ _).alloc Aa _) Aa;clear g;go_wp2_with fail
 refine(aip (k,s) _).mono ?_;rintro e q ⟨rfl,h⟩;have o:=cV.call h;obtain⟨v,u,y⟩:=o.all;have m:Below w.heap.size w q:=Below.step h j (by have:=j.size;omega);have i:=p.mono Xi (bC.cW m);clear h cV o p;by_cases r:H7 (k,s)=true
 ·go_wp2_with (go_at_call 62;refine(aiW hQ _ _ i).mono ?_;rintro e x ⟨rfl,rfl⟩)
  all_goals(go_ret;refine⟨?_,m⟩;go_light;clear v u i;simp_all[If])
 ·go_wp2
  go_ret
  simp_all[If]
theorem aiZ(c:br)(bQ vs b:Value)(rows:Int)(w:World)(d:w6 w bQ vs b c):
 Calls (ai prog true) 40 #[aiX c bQ vs b,.int .i64 rows] w fun e w'=>e=.returned (.bool (xc c rows))/\Below w.heap.size w w':=by
 obtain⟨g,a,f⟩:=d;have i:=a;obtain⟨l,ci,rfl,o,-⟩:=g;obtain⟨k,j,rfl,h,-⟩:=a;obtain⟨an,m,rfl,n,-⟩:=f;exact aiY _ _ _ _ _ _ _ _ _ _ _ c.hQ rows w h i
def FH(t:List br):Nat:=match t with| []=>0|c::_=>c.fY.length
def ml(t:List br):Bool:=decide (1<=t.length)&&decide (t.length<=8)&&decide (FH t<=40)&&t.all (fun c=>xc c (FH t))
variable {t:List br}
theorem ai0{n:Int}(b:k<t.length)(h:((t.take k).all (fun c=>xc c n))=true)(a:xc t[k] n=true):((t.take (k+1)).all (fun c=>xc c n))=true:=by grind[List.take_succ_eq_append_getElem]
theorem ai1{n:Int}(b:k<t.length)(a:xc t[k] n=false):(t.all (fun c=>xc c n))=false:=by grind
theorem ai2(h:0<t.length):FH t=t[0].fY.length:=by cases t with|nil=>grind|cons c r=>rfl
theorem ai3(t:List br)(v:Value)(w:World)(E:lV w v t):
 Calls (ai prog true) 32 #[.agg #[v]] w fun e w'=>e=.returned (.bool (ml t))/\Below w.heap.size w w':=by
 obtain⟨Z,cap,rfl,hl,z⟩:=E;by_cases M:t.length<1
 ·have e:Hid (ml t=false):=by grind[Hid,ml]
  go_enter (bl (upd:=true) func32 AS),ntmps32
  go_wp2
  go_ret
  exact⟨by rw[e.out];rfl,(Below.refl _ _).alloc AU _⟩
 by_cases L:8<t.length
 ·have e:Hid (ml t=false):=by grind[Hid,ml]
  go_enter (bl (upd:=true) func32 AS),ntmps32
  go_wp2
  go_ret
  exact⟨by rw[e.out];rfl,(Below.refl _ _).alloc AU _⟩
 have h0:0<t.length:=Ay;obtain⟨b,off,rfl,bQ,vs,X,cu,c1,bH,eI,g,q⟩:=z 0 h0;simp at cu c1 bH eI g;have cj:=ai2 h0;obtain⟨an,Y,rfl,J,-⟩:=q.fY;rw[<-cj]at g J;clear q cu c1 bH eI;generalize B:FH t=N at *;have n:Hid (FH t=N):=B;clear B cj;have QH:=gX g;by_cases QI:40<N
 ·have e:Hid (ml t=false):=by grind[Hid,ml]
  go_enter (bl (upd:=true) func32 AS),ntmps32
  go_wp2
  go_ret
  exact⟨by rw[e.out];rfl,(Below.refl _ _).alloc AU _⟩
 go_enter (bl (upd:=true) func32 AS),ntmps32
 go_wp2
 go_loopw [27] (fun i W=>∃k:Nat,k<=t.length/\i=.int .i64 k/\((t.take k).all (fun c=>xc c N))=true/\Below w.heap.size w W) (fun i _=>t.length-(intOf i).toNat)
 case atStart=>exact⟨0,Nat.zero_le _,rfl,rfl,(Below.refl _ _).alloc AU _⟩
 case round=>
  obtain⟨k,K,rfl,r,A⟩:=hrel;have u:Hid _:=r;have f:Hid _:=A;clear r A;by_cases a:k<t.length
  ·obtain⟨aD,H8,o,m,l,j,dw,d1,gV,fS,gJ,h⟩:=z k a;simp at o;obtain⟨rfl,rfl⟩:=o;simp at dw;have d:=bC.cW f.out;have F:=d _ _ _ dw;have V:=d _ _ _ d1;have U:=d _ _ _ gV;have T:=d _ _ _ fS;have S:=d _ _ _ gJ;have Q:=gX F;have C:=(h.mono d).mono ((bC.refl _).alloc (.cells #[.int .i64 t[k].kind,.int .i64 t[k].cE,m,l,j] 48));clear d dw d1 gV fS gJ g;obtain⟨R,ci,P,O,I,H,rfl,rfl,rfl⟩:=h.shape;clear h;go_wp2_with fail
   refine(aiZ t[k] _ _ _ N _ C).mono ?_;rintro e w1 ⟨rfl,y⟩;have s:Below w.heap.size w w1:=Below.step y (f.out.alloc (by have:=f.out.size;omega) _) Hx;have x:Hid _:=s;clear s y C;by_cases p:xc t[k] N=true
   ·go_wp2
    go_roundw
    case rel=>exact⟨k+1,Ay,by go_num,ai0 a u.out p,x.out⟩
    case measure=>simp[intOf];omega
   ·have D:xc t[k] N=false:=by grind
    clear p;go_wp2
    go_ret
    refine⟨?_,x.out⟩;have e:ml t=false:=by unfold ml;rw[n.out,ai1 a D];simp
    rw[e];rfl
  ·go_wp2
   go_ret
   refine⟨?_,f.out⟩;have e:ml t=true:=by have:=u.out;rw[List.take_of_length_le Ay]at this;unfold ml;rw[n.out,this];grind
   rw[e];rfl
def zy(bJ:List (List br))(i:Nat):Bool:=decide (i<4)&&ml (bJ.getD i [])
theorem XS{w:World}{c:Option Addr}{a:List (List br)}(d:∀i(h:i<a.length),∃b off,c=some ⟨b,off,none⟩/\Qh w (fun j=>w.cell? ⟨b,off+i*1+j,none⟩) a[i])(e:n<a.length):
 ∃b off v,c=some ⟨b,off,none⟩/\w.cell? ⟨b,off+n,none⟩=some v/\lV w v a[n]:=by
 obtain⟨b,off,g,v,h0,f⟩:=d n e;grind
theorem ai7(a:List (List br))(v:Value)(w:World)(u:CI w v a):
 Calls (ai prog true) 23 #[v] w fun e w'=>e=.returned (.tuple #[.int .i64 (QE (CR (zy a) a.length)).1,.bool (QE (CR (zy a) a.length)).2])/\Below w.heap.size w w':=by
 obtain⟨E,cap,rfl,hl,z⟩:=u;go_enter (bl (upd:=true) func23 AS),ntmps23
 go_wp2
 go_loopw [8] (fun i W=>∃k:Nat,k<=a.length/\i=.int .i64 k/\(∀j,j<k->zy a j=true)/\Below w.heap.size w W) (fun i _=>a.length-(intOf i).toNat)
 case atStart=>exact⟨0,Nat.zero_le _,rfl,AU,Below.refl _ _⟩
 case round=>
  obtain⟨k,B,rfl,p,s⟩:=hrel;have g:Hid _:=p;have d:Hid _:=s;clear p s;by_cases c:k<a.length
  ·obtain⟨b,off,x,rfl,dw,t⟩:=XS z c;have l:=bC.cW d.out;have y:=l _ _ _ dw;have D:=gX y;have m:=t.mono se (l.alloc (.cells #[x] 27));obtain⟨F,ct,rfl,-,-⟩:=t;clear l dw;by_cases C:k<4
   ·go_wp2_with fail
    refine(ai3 a[k] _ _ m).mono ?_;rintro e w1 ⟨rfl,r⟩;have q:Hid (Below w.heap.size w w1):=Below.step r (d.out.alloc Ir _) (by have:=d.out.size;simp;omega);clear r m;have f:Hid (zy a k=ml a[k]):=by grind[Hid,zy]
    by_cases n:ml a[k]=true
    ·go_wp2
     go_roundw
     case rel=>
      refine⟨k+1,Ay,by go_num,fun j o=>?_,q.out⟩;rcases Nat.lt_succ_iff_lt_or_eq.1 o with h|rfl
      ·exact g.out j h
      ·rw[f.out];exact n
     case measure=>simp[intOf];omega
    ·have A:ml a[k]=false:=by grind
     clear n;go_wp2
     go_ret2
     refine⟨?_,q.out⟩;rw[XO c g.out (by rw[f.out];grind)];rfl
   ·have f:Hid (zy a k=false):=by grind[Hid,zy]
    clear m;go_wp2
    go_ret2
    refine⟨?_,d.out.alloc Ir _⟩;rw[XO c g.out f.out];rfl
  ·go_wp2
   go_ret2
   refine⟨?_,d.out⟩;rw[XN (fun j o=>g.out j Ay)];rfl
def qn(t:List br):List (Int×Int):=t.map fun c=>(c.kind,c.cE)
theorem ai8(t:List br)(v:Value)(w:World)(I:lV w v t)(J:t.length<=1000000):
 Calls (ai prog true) 43 #[.agg #[v]] w fun e w'=>∃h,e=.returned h/\fh w' h (qn t)/\fT 115 w' h/\Below w.heap.size w w':=by
 obtain⟨R,cap,rfl,hl,C⟩:=I;have ly:(qn t).length=t.length:=by simp[qn]
 go_enter (bl (upd:=true) func43 AS),ntmps43
 go_wp2_with (at_make;refine LP LG _ rfl _ _ rfl _ _ t.length rfl rfl Ay Ay ?_;intro w1 bp Q o p;have A:=(af.new w #[.slice R t.length cap] 27).call p;obtain⟨Ih,U,T⟩:=A.all)
 have z:Below w.heap.size w w1:=Below.step p ((Below.refl _ _).alloc Aa _) Aa;have E:af w1 (w.heap.size+1) bp 115:=Bp;have F:Hid (af w1 (w.heap.size+1) bp 115):=E;have P:Hid (Below w.heap.size w w1):=z;clear Q E p z A;go_loopw [13] (fun i W=>∃(k:Nat)(cs:Array Value),k<=t.length/\i=.int .i64 k/\af W (w.heap.size+1) cs 115/\cs.size=t.length*2/\FE cs (qn t) k/\Below w.heap.size w W)
  (fun i _=>t.length-(intOf i).toNat)
 case atStart=>exact⟨0,bp,Nat.zero_le _,rfl,F.out,o,fun j _ Z=>AU,P.out⟩
 case round=>
  obtain⟨k,cs,Y,rfl,y,s,u,D⟩:=hrel;have m:Hid (af wr (w.heap.size+1) cs 115):=y;have r:Hid (FE cs (qn t) k):=u;have d:Hid (Below w.heap.size w wr):=D;have g:Hid _:=s;have LU:Hid _:=o;clear y u D s o;by_cases n:k<t.length
  ·obtain⟨b,off,rfl,bQ,vs,bo,dw,d1,gV,fS,gJ,x⟩:=C k n;simp at dw;have a:=bC.cW d.out;have B:=a _ _ _ dw;have O:=a _ _ _ d1;have N:=a _ _ _ gV;have M:=a _ _ _ fS;have L:=a _ _ _ gJ;have gK:=gX B;clear a dw d1 gV fS gJ;obtain⟨fi,ci,gY,gZ,an,bN,rfl,rfl,rfl⟩:=x.shape;clear x C;have X:(0:Int)<=(k:Int):=Ay;have V:(k:Int)<(t.length:Int):=Ay;go_wp2_with fail
   refine(Xt _ _ _ _ _ _).mono ?_;rintro e f ⟨rfl,q⟩;have c:=(m.out.alloc _).call q;have S:Hid (af f (w.heap.size+1) cs 115):=c;have H:Hid (Below w.heap.size w f):=Below.step q (d.out.alloc Ir _) (by have:=d.out.size;simp;omega);have QJ:f.cell? ⟨w.heap.size+1,k*2,none⟩=some (cs[k*2]'F8):=by rw[c.bT.1];simp
   have QK:f.cell? ⟨w.heap.size+1,k*2+1,none⟩=some (cs[k*2+1]'F8):=by rw[c.bT.1];simp
   have QL:=c.bT.2;clear c q B O N M L;go_wp2_with fail
   go_roundw
   case rel=>
    refine⟨k+1,(cs.setIfInBounds (k*2) (.int .i64 t[k].kind)).setIfInBounds (k*2+1) (.int .i64 t[k].cE),Ay,by go_num,(S.out.set _ _).set _ _,by simp;exact g.out,?_,(H.out.setCell Aa _).setCell Aa _⟩;have:=r.out.step AU (by rw[ly];exact g.out);grind[qn]
   case measure=>simp[intOf];omega
  ·have K:k=t.length:=by omega
   go_wp2_with fail
   go_ret
   refine⟨_,rfl,?_,fT.box m.out _ _ _,d.out⟩;have:=fh.LR (l:=qn t) m.out AU (by rw[ly,<-K];exact r.out) t.length;simp_all
@[simp] theorem aCk (a:Array Value) (w:World):Sem.run (ai prog true) (callFunc 59 a) w=.ok (.enter 59 a) w:=c8 (bl (upd:=true) func59 AS) AS a w
@[simp] theorem aCl (a:Array Value) (w:World):Sem.run (ai prog true) (callFunc 39 a) w=.ok (.enter 39 a) w:=c8 (bl (upd:=true) func39 AS) AS a w
theorem ajy(s:ByteArray)(w:World)(D:s.size<=1000000):
 Calls (ai prog true) 59 #[.string s] w fun e w'=>e=.returned (.string s)/\Below w.heap.size w w':=by
 by_cases h0:s.size=0
 ·have m:s=⟨#[]⟩:=ByteArray.ext (Array.eq_empty_of_size_eq_zero h0);subst m;go_enter (bl (upd:=true) func59 AS),ntmps59
  go_wp2
  go_ret
  exact⟨rfl,Below.refl _ _⟩
 obtain⟨i,hi,n,hsz,C⟩:=info_parts (show(prog.info? 5).map (fun i=>(i.zero,i.size,i.bytes))=some (some (.int .u8 0),1,1)from BB);have g:(ai prog true).underlying 208=some (.slice 5):=(Fx _ _ _).trans underlying208;have l:(ai prog true).underlying 209=some (.pointer 5):=(Fx _ _ _).trans underlying209;have b:(ai prog true).info? 5=some i:=hi;obtain⟨A,q,y⟩:∃A:Array Value,A=madeCells (Value.int .u8 0).cells ((s.size:Int).toNat*i.size)/\A.size=s.size:=⟨_,rfl,by grind[size_madeCells]⟩;have z:∀W:World,(Instr.makeSlice 208 (.int .i64 (s.size:Int)) (.int .i64 (s.size:Int))).run (ai prog true) W=.ok (.slice (some ⟨W.heap.size,0,none⟩) s.size s.size) (W.alloc (.cells A 5)):=fun W=>by have:=run_make (P:=ai prog true) W 208 5 i _ g b n .i64 .i64 s.size s.size Ay (Int.le_refl _) AU Ay;grind
 have a:=heap_alloc_new w (.cells A 5);have f:=Lib.run_copy_row_string (P:=ai prog true) (w.alloc (.cells A 5)) 208 9 3 5 w.heap.size 0 s.size s.size s A 5 g AU a Jr Ay;obtain⟨B,h,d⟩:∃B:Array Value,B=(A.toList.take 0++Lib.byteCells s.data.toList++A.toList.drop (0+s.size)).toArray/\B.toList=Lib.byteCells s.data.toList:=⟨_,rfl,by
  simp_all⟩
 rw[<-h]at f;have r:((w.alloc (.cells A 5)).setRow w.heap.size B).heap[w.heap.size]?=some (.cells B 5 (0,0)):=setRow_heap _ _ A _ 5 (0,0) a;have v:B.size=s.size:=by grind[Lib.byteCells_length,Lib.size_eq]
 have c:=Lib.run_unsafeString_row (P:=ai prog true) ((w.alloc (.cells A 5)).setRow w.heap.size B) 209 3 9 5 l (by grind[Program.cellsOf]) w.heap.size B.size (by grind[World.shape?]) s.data.toList (fun e=>h0 (by rw[Lib.size_eq,e];rfl)) Bp (by grind[Lib.size_eq])
  (fun j x o=>Lib.cells_of_row r B.size j _ (by rw[List.take_of_length_le AU,d];simp[Lib.byteCells,o]))
 rw[<-Lib.size_eq]at c;clear q h a;go_enter (bl (upd:=true) func59 AS),ntmps59
 go_wp2
 go_ret
 have t:Below w.heap.size w (w.alloc (.cells A 5)):=(Below.refl _ w).alloc Jr _;have u:Below w.heap.size (w.alloc (.cells A 5)) ((w.alloc (.cells A 5)).setRow w.heap.size B):=⟨rfl,rfl,rfl,Aa,fun k E=>setRow_other _ _ _ _ Ay⟩;exact⟨rfl,Lib.below_freeze (t.trans u) (p:=⟨w.heap.size,0,none⟩) Jr _⟩
theorem ajD(s:ByteArray)(w:World)(a:s.size<=1000000):
 Calls (ai prog true) 39 #[.string s] w fun e w'=>e=.returned (.string s)/\Below w.heap.size w w':=by
 go_enter (bl (upd:=true) func39 AS),ntmps39
 go_wp2
 refine(ajy s w a).mono ?_;rintro e w' ⟨rfl,b⟩;go_wp2
 go_ret
 simp_all
end cA
namespace ba
open Conc RowKit Conc.Lib ConcR.Gen ConcM az bu ab
def GB:Code->Option Code
 | .block _ (.seq (.seq _ (.cond _ x _)) _)=>some x
 | _=>none
def wF(A:e_)(Stop:Bool->ab.av A.ar->a6->Prop)(m:Bool)(mine:Nat->Prop)(b₁:Frame)(a₁:Act)(aG:Array Oper)(i₁:Nat)(aP:List Nat)(k₁:List Item)(cs₁:List Frame)(l:ab.av A.ar)(γ:ab.aT A.aQ)(bX:Int)(sv aw:Bool)(it old:Int)(w:World):Prop:=
 ∀(dn l6 eu d7 ew ey ez eA ld lf eL eB eC eD gx eE fb fc fe m3 m4 m5 m6 m7 m8 m9 m_ na nc nd ne nf ng nh ni nj nk ow ox oy oz oA oB oC oD oE oF oG oH oI oJ oK oL oM oN oO oP oQ oR oS oT oU oV oW oX oY oZ o0 o5 o6 o7 qJ qK qL qM o8 o9 o_ qN qO qP qQ qR qS qT tw qU qV qW qX qY qZ q0 q2 q7 q8 q9 q_ ra rb re rf rg rh ri rj rk rl rm rn rp rq rr ru rx ry rz rA rB rC rD rE rF rG rH rI rJ rK rL rM rN rO rP:Value),bh (ah A) prog Stop m l γ ⟨Conc.G ((base 126).at ⟨#[.pointer (some (ab.fI A)),dn,.int .i64 bX,.bool sv,.bool aw,.int .i64 it,.int .i32 old,l6,eu,d7,ew,ey,ez,eA,ld,lf,eL,eB,eC,eD,gx,eE,fb,fc,fe,m3,m4,m5,m6,m7,m8,m9,m_,na,nc,nd,ne,nf,ng,nh,ni,nj,nk,ow,ox,oy,oz,oA,oB,oC,oD,oE,oF,oG,oH,oI,oJ,oK,oL,oM,oN,oO,oP,oQ,oR,oS,oT,oU,oV,oW,oX,oY,oZ,o0,o5,o6,o7,qJ,qK,qL,qM,o8,o9,o_,qN,qO,qP,qQ,qR,qS,qT,tw,qU,qV,qW,qX,qY,qZ,q0,q2,q7,q8,q9,q_,ra,rb,re,rf,rg,rh,ri,rj,rk,rl,rm,rn,rp,rq,rr,ru,rx,ry,rz,rA,rB,rC,rD,rE,rF,rG,rH,rI,rJ,rK,rL,rM,rN,rO,rP],[]⟩ [.code ((cH 8 ((cS (f126.body.getD .skip)).getD .skip)).getD .skip),.code ((cH 11 ((cS (f126.body.getD .skip)).getD .skip)).getD .skip),.inBlock 1,.inLoop ((cS (f126.body.getD .skip)).getD .skip),.inBlock 0,.code ((iQ (f126.body.getD .skip)).getD .skip)]) (b₁.at a₁ (.inRegion aG (i₁::aP)::k₁)::cs₁),w,mine⟩
def yS(A:e_)(Stop:Bool->ab.av A.ar->a6->Prop)(m:Bool)(mine:Nat->Prop)(b₁:Frame)(a₁:Act)(aG:Array Oper)(i₁:Nat)(aP:List Nat)(k₁:List Item)(cs₁:List Frame)(l:ab.av A.ar)(γ:ab.aT A.aQ)(bX:Int)(sv aw:Bool)(it old:Int)(w:World):Prop:=
 ∀(dn l6 eu d7 ew ey ez eA ld lf eL eB eC eD gx eE fb fc fe m3 m4 m5 m6 m7 m8 m9 m_ na nc nd ne nf ng nh ni nj nk ow ox oy oz oA oB oC oD oE oF oG oH oI oJ oK oL oM oN oO oP oQ oR oS oT oU oV oW oX oY oZ o0 o5 o6 o7 qJ qK qL qM o8 o9 o_ qN qO qP qQ qR qS qT tw qU qV qW qX qY qZ q0 q2 q7 q8 q9 q_ ra rb re rf rg rh ri rj rk rl rm rn rp rq rr ru rx ry rz rA rB rC rD rE rF rG rH rI rJ rK rL rM rN rO rP:Value),bh (ah A) prog Stop m l γ ⟨Conc.G ((base 126).at ⟨#[.pointer (some (ab.fI A)),dn,.int .i64 bX,.bool sv,.bool aw,.int .i64 it,.int .i32 old,l6,eu,d7,ew,ey,ez,eA,ld,lf,eL,eB,eC,eD,gx,eE,fb,fc,fe,m3,m4,m5,m6,m7,m8,m9,m_,na,nc,nd,ne,nf,ng,nh,ni,nj,nk,ow,ox,oy,oz,oA,oB,oC,oD,oE,oF,oG,oH,oI,oJ,oK,oL,oM,oN,oO,oP,oQ,oR,oS,oT,oU,oV,oW,oX,oY,oZ,o0,o5,o6,o7,qJ,qK,qL,qM,o8,o9,o_,qN,qO,qP,qQ,qR,qS,qT,tw,qU,qV,qW,qX,qY,qZ,q0,q2,q7,q8,q9,q_,ra,rb,re,rf,rg,rh,ri,rj,rk,rl,rm,rn,rp,rq,rr,ru,rx,ry,rz,rA,rB,rC,rD,rE,rF,rG,rH,rI,rJ,rK,rL,rM,rN,rO,rP],[]⟩ [.code ((GB ((cS (f126.body.getD .skip)).getD .skip)).getD .skip),.code ((cH 11 ((cS (f126.body.getD .skip)).getD .skip)).getD .skip),.inBlock 1,.inLoop ((cS (f126.body.getD .skip)).getD .skip),.inBlock 0,.code ((iQ (f126.body.getD .skip)).getD .skip)]) (b₁.at a₁ (.inRegion aG (i₁::aP)::k₁)::cs₁),w,mine⟩
variable {bX it old:Int}{w:World}
section
variable {A:e_} {Stop:Bool->ab.av A.ar->a6->Prop} {m:Bool} {mine:Nat->Prop}
variable {b₁:Frame} {a₁:Act} {aG:Array Oper} {i₁:Nat} {aP:List Nat} {k₁:List Item} {cs₁:List Frame}
theorem ap2(G:A.Good){l:ab.av A.ar}{γ:ab.aT A.aQ}{sv aw:Bool}(g:(bits .and .i32 old 5==1)=false)
 (a:∀w' b,(ah A).dN l γ b->U (ah A) mine w w'->nM A Stop m mine b₁ a₁ aG i₁ aP k₁ cs₁ l b bX sv aw it old w'):
 sK A Stop m mine b₁ a₁ aG i₁ aP k₁ cs₁ l γ bX sv aw it old w:=by
 unfold sK;intros
 unfold nM at a;have hF:=U.refl (ah A) mine w;simp only[f126,Option.getD_some,cS,iQ,cH,Nat.reduceBEq,Bool.false_eq_true,↓reduceIte]at a⊢;refine a5 (aN G) Js 300 _ _ γ Jt ?_;u_c stepG_block U.trans hF
 u_c stepG_seq U.trans hF
 u_c stepG_seq U.trans hF
 repeat w_but "code.seq" U.trans
 exact Goes.stop (fun f d=>⟨rfl,fun e c=>a f e c (U.trans hF d) ..⟩)
theorem ap3(G:A.Good){l:ab.av A.ar}{γ:ab.aT A.aQ}{sv aw:Bool}(r:bits .and .i32 old 5=1)
 (f:∀w' d,(ah A).dN l γ d->U (ah A) mine w w'->nM A Stop m mine b₁ a₁ aG i₁ aP k₁ cs₁ l d bX sv aw it old w')
 (hS:it<4->∀w' d,(ah A).dN l γ d->U (ah A) mine w w'->yS A Stop m mine b₁ a₁ aG i₁ aP k₁ cs₁ l d bX sv aw it old w'):
 sK A Stop m mine b₁ a₁ aG i₁ aP k₁ cs₁ l γ bX sv aw it old w:=by
 unfold sK;intros
 unfold nM at f;unfold yS at hS;have hF:=U.refl (ah A) mine w;simp only[f126,Option.getD_some,cS,iQ,cH,GB,Nat.reduceBEq,Bool.false_eq_true,↓reduceIte]at f hS⊢;refine a5 (aN G) Js 300 _ _ γ Jt ?_;repeat w_go U.trans
 refine dj rfl hF fun c a b o i s j p hF=>?_;have g:=(aN G).trans _ _ _ _ o j;by_cases q:it<4
 ·refine k8 (stepG_canSpin_ask rfl rfl Bc rfl func143 aaB aaC aaD aaE (k:=.i64) (n:=it) CX q) rfl rfl (.refl _) rfl rfl ?_;replace hF:=U.trans hF (⟨fun _ _=>rfl,Nat.le_refl _,.refl _,rfl,rfl⟩:U (ah A) mine i i.asked);clear p j o a;cases i.spins with
  |false=>
   refine a5 (aN G) Js 200 _ _ _ Jt ?_;walk_nrm
   repeat w_but "code.seq" U.trans
   exact Goes.stop (fun c a=>⟨rfl,fun b e=>f c b ((aN G).trans _ _ _ _ g e) (U.trans hF a) ..⟩)
  |true=>
   refine a5 (aN G) Js 200 _ _ _ Jt ?_;walk_nrm
   repeat w_but "code.seq" U.trans
   exact Goes.stop (fun c a=>⟨rfl,fun b e=>hS q c b ((aN G).trans _ _ _ _ g e) (U.trans hF a) ..⟩)
 ·refine k8 (stepG_canSpin_no rfl rfl Bc rfl func143 aaB aaC aaD aaE (k:=.i64) (n:=it) CX Ay) rfl rfl (.refl _) rfl rfl ?_;clear p j o a;refine a5 (aN G) Js 200 _ _ _ Jt ?_;walk_nrm
  repeat w_but "code.seq" U.trans
  exact Goes.stop (fun c a=>⟨rfl,fun b e=>f c b ((aN G).trans _ _ _ _ g e) (U.trans hF a) ..⟩)
theorem abk(G:A.Good){l:ab.av A.ar}{γ:ab.aT A.aQ}{sv aw:Bool}(q:0<=it)(p:it<4)
 (f:∀w' c,(c=γ\/c.be<γ.be)->U (ah A) mine w w'->hX (ah A) l c->sK A Stop m mine b₁ a₁ aG i₁ aP k₁ cs₁ l c bX sv aw (it+1) (c.aC.word:Int) w'):
 wF A Stop m mine b₁ a₁ aG i₁ aP k₁ cs₁ l γ bX sv aw it old w:=by
 unfold wF;intros
 unfold sK at f;have hF:=U.refl (ah A) mine w;have u:IntKind.wrap .i64 (it+1)=it+1:=Ct;simp only[f126,Option.getD_some,cS,iQ,cH,Nat.reduceBEq,Bool.false_eq_true,↓reduceIte]at f⊢;refine a5 (aN G) Js 300 _ _ γ Jt ?_;repeat w_go U.trans
 refine dj rfl hF fun i b j e t s d a hF=>?_;have g:=(aN G).trans _ _ _ _ e d;refine k8 (stepG_entry_pure (.tuple #[]) rfl rfl Bc rfl func144 aoN aoO aoP aoQ) rfl rfl (.refl _) rfl rfl ?_;clear a d e b;refine a5 (aN G) Js 200 _ _ _ Jt ?_;walk_nrm
 repeat w_go U.trans
 refine dj rfl hF fun i b j e r o d a hF=>?_;have k:=(aN G).mq _ _ _ ((aN G).trans _ _ _ _ g ((aN G).trans _ _ _ _ e d));have n:=a.sees;refine k8 (BK rfl rfl Bc rfl rfl (ks a.mt.1) Jz) rfl rfl (.refl _) rfl rfl ?_;clear a d e b;refine a5 (aN G) Js 200 _ _ _ Jt ?_;walk_nrm
 repeat w_nl U.trans
 u_c stepG_inLoop U.trans hF
 exact Goes.stop (fun i b=>⟨rfl,fun j g=>(f i o k (U.trans hF b) n ..).k5 (aN G) g⟩)
end
end ba
namespace gi
open RowKit az
@[simp] theorem aGE (a:Array Value) (w:World):Sem.run (ai prog true) (callFunc 15 a) w=.ok (.enter 15 a) w:=c8 (bl (upd:=true) func15 AS) AS a w
@[simp] theorem aGF (a:Array Value) (w:World):Sem.run (ai prog true) (callFunc 12 a) w=.ok (.enter 12 a) w:=c8 (bl (upd:=true) func12 AS) AS a w
@[simp] theorem aGG (a:Array Value) (w:World):Sem.run (ai prog true) (callFunc 11 a) w=.ok (.enter 11 a) w:=c8 (bl (upd:=true) func11 AS) AS a w
@[simp] theorem aGH (a:Array Value) (w:World):Sem.run (ai prog true) (callFunc 10 a) w=.ok (.enter 10 a) w:=c8 (bl (upd:=true) func10 AS) AS a w
@[simp] theorem aGI (a:Array Value) (w:World):Sem.run (ai prog true) (callFunc 13 a) w=.ok (.enter 13 a) w:=c8 (bl (upd:=true) func13 AS) AS a w
@[simp] theorem aGJ (a:Array Value) (w:World):Sem.run (ai prog true) (callFunc 5 a) w=.ok (.enter 5 a) w:=c8 (bl (upd:=true) func5 AS) AS a w
@[simp] theorem aGK (a:Array Value) (w:World):Sem.run (ai prog true) (callFunc 6 a) w=.ok (.enter 6 a) w:=c8 (bl (upd:=true) func6 AS) AS a w
@[simp] theorem aGL (a:Array Value) (w:World):Sem.run (ai prog true) (callFunc 8 a) w=.ok (.enter 8 a) w:=c8 (bl (upd:=true) func8 AS) AS a w
@[simp] theorem aGM (a:Array Value) (w:World):Sem.run (ai prog true) (callFunc 9 a) w=.ok (.enter 9 a) w:=c8 (bl (upd:=true) func9 AS) AS a w
def hM(c:Int):Prop:= -9223372036854775808<=c/\c<=9223372036854775807
def nS(c n:Int):Int:=(if c<0 then -(c+1)else c) % n
def c3(c:Int):Bool:=decide (c<0)&&decide (nS c 3=0)
def dp(c:Int):Int:=if c3 c then 0 else nS c 2001-1000
def jc(c:Int):Int:=if c3 c then 0 else nS c 4
def adE:List String:=["","a","b","ab","ba","aa","c","é","A","0"," ","zz","z"]
def mF(c:Int):ByteArray:=if c3 c then "".toUTF8 else(adE[(nS c 13).toNat]?.getD "").toUTF8
theorem uw(c:Int){n:Int}(a:0<n):0<=nS c n/\nS c n<n:=⟨Int.emod_nonneg _ Ay,Int.emod_lt_of_pos _ a⟩
theorem B4(c:Int): -1000<=dp c/\dp c<=1000:=by
 unfold dp;split
 ·omega
 ·have:=uw c (n:=2001) Ay;omega
theorem adF(c:Int):0<=jc c/\jc c<=3:=by
 unfold jc;split
 ·omega
 ·have:=uw c (n:=4) Ay;omega
theorem GY(c n:Int)(a:hM c)(f:0<n/\n<=1000000)(w:World):Calls (ai prog true) 15 #[.int .i64 c,.int .i64 n] w fun e w'=>e=.returned (.int .i64 (nS c n))/\w'=w:=by
 obtain⟨k,j⟩:=a;obtain⟨b,i⟩:=f;have g:=uw c b;go_enter (bl (upd:=true) func15 AS),ntmps15
 by_cases h:c<0
 ·have d: -(c+1).tmod n=nS c n:=by unfold nS;rw[if_pos h,<-Int.neg_tmod,Int.tmod_eq_emod_of_nonneg Ay]
  go_wp2
  go_ret
  simp_all
 ·have d:c % n=nS c n:=by simp_all[nS,if_neg]
  go_wp2
  go_ret
  simp_all
theorem vW(c:Int)(a:hM c)(w:World):Calls (ai prog true) 12 #[.int .i64 c] w fun e w'=>e=.returned (.bool (c3 c))/\w'=w:=by
 go_enter (bl (upd:=true) func12 AS),ntmps12
 by_cases h:c<0
 ·go_wp2_with (refine(GY c 3 a Ay _).mono ?_;rintro e w' ⟨rfl,rfl⟩)
  go_ret
  refine⟨?_,rfl⟩;unfold c3;simp[h];rfl
 ·go_wp2
  go_ret
  refine⟨?_,rfl⟩;unfold c3;simp[show¬c<0 by omega]
theorem adG(c:Int)(a:hM c)(w:World):Calls (ai prog true) 11 #[.int .i64 c] w fun e w'=>e=.returned (.int .i64 (dp c))/\w'=w:=by
 go_enter (bl (upd:=true) func11 AS),ntmps11
 have b:=uw c (n:=2001) Ay;cases d:c3 c with
 |true=>
  go_wp2_with (refine(vW c a _).mono ?_;rintro e w' ⟨rfl,rfl⟩)
  go_ret
  simp_all[dp]
 |false=>
  go_wp2_with (first|(refine(vW c a _).mono ?_;rintro e w' ⟨rfl,rfl⟩)|(refine(GY c 2001 a Ay _).mono ?_;rintro e w' ⟨rfl,rfl⟩))
  go_ret
  simp_all[dp]
theorem avv(c:Int)(a:hM c)(w:World):Calls (ai prog true) 10 #[.int .i64 c] w fun e w'=>e=.returned (.int .i64 (jc c))/\w'=w:=by
 go_enter (bl (upd:=true) func10 AS),ntmps10
 have b:=uw c (n:=4) Ay;cases d:c3 c with
 |true=>
  go_wp2_with (refine(vW c a _).mono ?_;rintro e w' ⟨rfl,rfl⟩)
  go_ret
  simp_all[jc]
 |false=>
  go_wp2_with (first|(refine(vW c a _).mono ?_;rintro e w' ⟨rfl,rfl⟩)|(refine(GY c 4 a Ay _).mono ?_;rintro e w' ⟨rfl,rfl⟩))
  go_ret
  simp_all[jc]
theorem avw(c:Int)(a:hM c)(w:World):Calls (ai prog true) 13 #[.int .i64 c] w fun e w'=>e=.returned (.string (mF c))/\Below w.heap.size w w':=by
 go_enter (bl (upd:=true) func13 AS),ntmps13
 cases b:c3 c with
 |true=>
  go_wp2_with (refine(vW c a _).mono ?_;rintro e w' ⟨rfl,rfl⟩)
  go_ret
  exact⟨by simp[mF,b];rfl,Below.refl _ _⟩
 |false=>
  obtain⟨k,f,g⟩:∃k:Nat,k<13/\nS c 13=(k:Int):=⟨(nS c 13).toNat,by simp_all[uw],by have:=uw c (n:=13) Ay;omega⟩;have hl:mF c=(adE[k]?.getD "").toUTF8:=by grind[mF]
  go_wp2_with (first|(refine(vW c a _).mono ?_;rintro e w' ⟨rfl,rfl⟩)|(refine(GY c 13 a Ay _).mono ?_;rintro e w' ⟨rfl,rfl⟩))
  go_ret
  refine⟨?_,(Below.refl _ _).alloc Jr _⟩;rw[hl];have d:k=0\/k=1\/k=2\/k=3\/k=4\/k=5\/k=6\/k=7\/k=8\/k=9\/k=10\/k=11\/k=12:=Ay;rcases d with rfl|rfl|rfl|rfl|rfl|rfl|rfl|rfl|rfl|rfl|rfl|rfl|rfl<;>rfl
theorem x5(k:Int)(w:World):Calls (ai prog true) 5 #[.int .i64 k] w fun e w'=>e=.returned (.agg #[.int .i64 1,.int .i64 k,.int .i64 0,.string ⟨#[]⟩])/\Below w.heap.size w w':=by
 go_enter (bl (upd:=true) func5 AS),ntmps5
 go_wp2
 refine bodyPost_ret (v:=.agg #[.int .i64 1,.int .i64 k,.int .i64 0,.string ⟨#[]⟩]) (by simp[results,results5,go_sem]) rfl ?_;exact⟨rfl,(Below.refl _ _).alloc Jr _⟩
theorem Oy(k:Int)(w:World):Calls (ai prog true) 6 #[.int .i64 k] w fun e w'=>e=.returned (.agg #[.int .i64 k,.int .i64 0,.int .i64 0,.string ⟨#[]⟩])/\Below w.heap.size w w':=by
 go_enter (bl (upd:=true) func6 AS),ntmps6
 go_wp2
 refine bodyPost_ret (v:=.agg #[.int .i64 k,.int .i64 0,.int .i64 0,.string ⟨#[]⟩]) (by simp[results,results6,go_sem]) rfl ?_;exact⟨rfl,(Below.refl _ _).alloc Jr _⟩
theorem avx(k:Int)(w:World):Calls (ai prog true) 8 #[.int .i64 k] w fun e w'=>e=.returned (.agg #[.int .i64 1,.int .i64 k,.int .i64 0,.slice none 0 0,.slice none 0 0,.slice none 0 0,.slice none 0 0])/\Below w.heap.size w w':=by
 go_enter (bl (upd:=true) func8 AS),ntmps8
 go_wp2
 refine bodyPost_ret (v:=.agg #[.int .i64 1,.int .i64 k,.int .i64 0,.slice none 0 0,.slice none 0 0,.slice none 0 0,.slice none 0 0]) (by simp[results,results8,go_sem]) rfl ?_;exact⟨rfl,(Below.refl _ _).alloc Jr _⟩
theorem EC(v:Value)(t:List br)(ht:0<t.length)(w:World)(d:lV w v t):Calls (ai prog true) 9 #[.agg #[v]] w fun e w'=>e=.returned (.int .i64 (t[0].fY.length:Int))/\Below w.heap.size w w':=by
 obtain⟨l,cap,rfl,hl,c⟩:=d;obtain⟨b,off,rfl,bQ,vs,j,dw,d1,gV,fS,gJ,a⟩:=c 0 ht;obtain⟨i,ci,g,f,an,k,rfl,rfl,rfl⟩:=a.shape;have h:b<w.heap.size:=gX dw;clear c a dw d1 gV fS;simp at gJ;go_enter (bl (upd:=true) func9 AS),ntmps9
 go_wp2
 go_ret
 exact⟨rfl,(Below.refl _ _).alloc Jr _⟩
end gi
end Go.Proofs.YtoehnnefaeoeoaaGreat
