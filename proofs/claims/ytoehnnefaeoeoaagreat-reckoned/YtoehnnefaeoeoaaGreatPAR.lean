import Derived.Test.YtoehnnefaeoeoaaGreatPAM
import Derived.Test.YtoehnnefaeoeoaaGreatPAN
import Derived.Test.YtoehnnefaeoeoaaGreatPAO
set_option linter.all false
set_option maxRecDepth 100000
set_option maxHeartbeats 16000000
namespace Go.Proofs.YtoehnnefaeoeoaaGreat
open Go.Proofs.Tryz
namespace b_
open Conc ConcM RowKit az bu ab gb iJ gF jn dD
def eX(rs:List dY)(outs:Nat->List bU)(fr aL:Nat):List dY:=(List.range (aL-fr)).map fun k=>((rs[fr+k]?.map (·.1)).getD [],outs (fr+k))
theorem Gt(rs:List dY)(outs:Nat->List bU)(fr aL:Nat):(eX rs outs fr aL).length=aL-fr:=by simp[eX]
def tv(n:Nat)(v:Value):Prop:=∃a c,v=.slice a n c/\n<=c
def yO(es:List (List cd))(rs:List dY)(fr aL:Nat)(w:World)(u:Value):Prop:=
 ∃mo j6 eS ev a9,u=.func (.func 193) #[] #[.pointer (some ⟨mo,0,none⟩),.pointer (some ⟨j6,0,none⟩),.pointer (some ⟨eS,0,none⟩)]/\
  w.cell? ⟨mo,0,none⟩=some ev/\w.cell? ⟨mo,1,none⟩=some a9/\w.cell? ⟨j6,0,none⟩=some (.int .i64 fr)/\w.cell? ⟨eS,0,none⟩=some (.int .i64 aL)/\mP w ev es/\g9 w a9 rs/\tv rs.length a9
theorem tv.cw{ρ:ay}{n:Nat}{v b:Value}(h:tv n v)(e:aA ρ v b):tv n b:=by obtain⟨a,c,rfl,d⟩:=h;cases e with|hA=>exact⟨_,_,rfl,d⟩|slice=>exact⟨_,_,rfl,d⟩
theorem aog(es:List (List cd))(rs:List dY)(fr aL:Nat):Dq (yO es rs fr aL):=by rintro ρ w w' u v a g ⟨f,x,y,ev,a9,rfl,h0,k,j,i,h,r,s⟩;obtain⟨c1,bH,eI,rfl,b,t,q⟩:=Zq g;obtain⟨l,ap,o⟩:=a _ _ _ b h0;obtain⟨p,a1,c⟩:=a ⟨f,1,none⟩ ⟨c1,1,none⟩ _ ⟨b.1,rfl,rfl⟩ k;obtain⟨z,e,n⟩:=a _ _ _ t j;obtain⟨A,d,m⟩:=a _ _ _ q i;rw[n.ts]at e;rw[m.ts]at d;exact⟨c1,bH,eI,l,p,rfl,ap,a1,e,d,az.bd.cw yH a o h,az.bd.cw m0 a c r,s.cw c⟩
variable {es:List (List cd)}
theorem yO.tY{rs:List dY}{fr aL:Nat}{w w':World}{u:Value}(a:bC w w')(h:yO es rs fr aL w u):yO es rs fr aL w' u:=by obtain⟨b,c,i,ev,a9,rfl,h0,g,f,e,d,j,k⟩:=h;exact⟨b,c,i,ev,a9,rfl,a _ _ _ h0,a _ _ _ g,a _ _ _ f,a _ _ _ e,bd.mono ns a d,bd.mono xM a j,k⟩
theorem aoh:(ai prog false).funcs[(191:Nat)]?=some f191:=bl (upd:=false) func191 AS
theorem aoi(es:List (List cd))(rs:List dY)(ev a9:Value)(fr aL:Nat)(w:World)(c:mP w ev es)(i:g9 w a9 rs)(hd:tv rs.length a9):
 Calls (ai prog false) 191 #[.agg #[ev,a9],.int .i64 fr,.int .i64 aL] w fun e w'=>∃u,e=.returned u/\yO es rs fr aL w' u:=by
 obtain⟨b,cap,rfl,-,-⟩:=id c;obtain⟨a,cc,rfl,h⟩:=id hd;go_enter aoh,ntmps191
 go_wp2
 go_ret
 have b1:=((af.new w #[.slice b es.length cap,.slice a rs.length cc] 106).alloc (.cells #[.int .i64 (fr:Int)] 3)).alloc (.cells #[.int .i64 (aL:Int)] 3);have f:=(af.new (w.alloc (.cells #[.slice b es.length cap,.slice a rs.length cc] 106)) #[.int .i64 (fr:Int)] 3).alloc (.cells #[.int .i64 (aL:Int)] 3);have d:=af.new ((w.alloc (.cells #[.slice b es.length cap,.slice a rs.length cc] 106)).alloc (.cells #[.int .i64 (fr:Int)] 3)) #[.int .i64 (aL:Int)] 3;simp at f d;have g:bC w (((w.alloc (.cells #[.slice b es.length cap,.slice a rs.length cc] 106)).alloc (.cells #[.int .i64 (fr:Int)] 3)).alloc (.cells #[.int .i64 (aL:Int)] 3)):=bC.cW ((((Below.refl _ w).alloc Jr _).alloc Aa _).alloc Bu _);exact⟨_,rfl,w.heap.size,w.heap.size+1,w.heap.size+1+1,.slice b es.length cap,.slice a rs.length cc,rfl,b1.bT.1 0,b1.bT.1 1,f.bT.1 0,d.bT.1 0,bd.mono ns g c,bd.mono xM g i,hd⟩
theorem aoj{n₀:Nat}{pl:List Int}{vs:List bU}{w:World}{p q:Value}(h:SC n₀ pl vs w (.agg #[p,q]))(l:pl.length<=9223372036854775807)(f:vs.length<=9223372036854775807)(ht:∀d∈vs,d.text.size<=9223372036854775807):km w p pl/\k0 w q vs:=by obtain⟨o,pc,bv,cs,e,j,g,n,k⟩:=h;simp at e;obtain⟨rfl,rfl⟩:=e;refine⟨⟨_,_,rfl,l,fun i hi=>?_⟩,k0.LR g f ht k _⟩;obtain⟨b,off,c,e,z,a,-,r,m⟩:=j i hi;refine⟨b,off,a,?_⟩;show w.cell? ⟨b,off+i*1+0,none⟩=_;simp_all[World.cell?]
theorem aok:i6 prog false f191=true:=by decide+kernel
theorem aol:i6 prog false f193=true:=by decide+kernel
structure Gu(es:List (List cd))(rs:List dY)(outs:Nat->List bU):Prop where
 small:es.length<=1000000
 aom:∀e∈es,e.length<=900
 rows:rs.length<=1000000
 len:∀i,(outs i).length=es.length
 run:∀i(h:i<rs.length) k(hk:k<es.length)(h':k<(outs i).length),z5 rs[i].2 es[k] [] [(outs i)[k]]
 text:∀i,∀d∈outs i,d.text.size<=9223372036854775807
 place:∀r∈rs,r.1.length<=9223372036854775807
theorem aon(es:List (List cd))(rs:List dY)(outs:Nat->List bU)(ok:Gu es rs outs)(fr aL:Nat)(c:fr<aL)(b:aL<=rs.length)(y:aL-fr<=300)(w:World)(u:Value)(h:yO es rs fr aL w u):
 Calls (ai prog false) 111 #[u] w fun e w'=>∃v,e=.returned v/\g9 w' v (eX rs outs fr aL):=by
 obtain⟨f,g,r,ev,a9,rfl,h0,o,n,m,l,t,x⟩:=h;refine(X7 y w (an8 _ _ _) (fun args w=>c8 aab aol args w) (an_ es rs ev a9 fr aL outs w l t ok.small ok.aom AU b ok.rows ok.len ok.run x c f g r h0 o n m)).mono ?_;rintro e w' ⟨d,rfl,hl,-⟩;refine⟨d,rfl,RZ hl _ (Gt _ _ _ _) Ay fun j k p q i=>?_⟩;have z:j<aL-fr:=by rwa[Gt]at k
 have s:(eX rs outs fr aL)[j]=((rs[fr+j]?.map (·.1)).getD [],outs (fr+j)):=by simp[eX]
 rw[s];refine aoj i ?_ (by rw[show((rs[fr+j]?.map (·.1)).getD [],outs (fr+j)).2=outs (fr+j)from rfl,ok.len];have:=ok.small;omega) (ok.text _);have a:fr+j<rs.length:=Ay;simp[a];exact ok.place _ AU
theorem aoo{Stop:Bool->ab.av aV->a6->Prop}{c:dT}{de:World}{dP:Nat->Prop}(q:∀b,dP b->c.K b)(s:∀g,g<=prog.globals.size->dP g)(a:i7 (ei prog false) (fun b=>dP b\/dz b) dz de)
 {j ev a9:Value}  {rs:List dY} {outs:Nat->List bU} (ok:Gu es rs outs) {fr aL:Nat->Nat} (f:mP de ev es) (i:g9 de a9 rs) (hd:tv rs.length a9) (p:aA (fE (fun b=>dP b\/dz b) dz) ev ev) (o:aA (fE (fun b=>dP b\/dz b) dz) a9 a9)
 (hinv:∀(args:Array Value)(w:World),(callMethod j "Piece" args).run prog w=.ok (.enter 191 (#[.agg #[ev,a9]]++args)) w/\(callMethod j "Piece" args).events prog w #[]=#[])
 (t:∀T,T<c.N->fr T<aL T/\aL T<=rs.length/\aL T-fr T<=300) (vV:∀T,T<c.N->c.rows T=aL T-fr T):
 xI c de prog Stop 111 j 191 (.agg #[ev,a9]) fr aL
  (fun T u M w=>sA (ei prog false) dP c.K (yO es rs (fr T) (aL T)) u M w) (fun T v M w=>sA (ei prog false) dP c.K (fun w v=>T<c.N/\g9 w v (eX rs outs (fr T) (aL T))) v M w):=by
 refine Zo lS rfl func191 aok rfl AS func111 aam rfl AS q s a hinv (.ki (iA fun v r=>?_))
  (Du:=fun T=>yO es rs (fr T) (aL T)) (Dv:=fun T w v=>T<c.N/\g9 w v (eX rs outs (fr T) (aL T))) (fun T=>aog _ _ _ _) (fun T _ _ _ _ _ i f h=>⟨h.1,Zr _ _ _ _ _ _ i f h.2⟩) (fun T m w d k n e=>?_) (fun T m k u r e=>?_) (fun T w v h=>?_)
 ·grind
 ·have l:=DY k e;exact aoi es rs ev a9 (fr T) (aL T) {k with tape:=e} (bd.mono ns l (az.bd.cw yH (n.cw (wt a d)) p (az.bd.cw yH (wu d a) p f))) (bd.mono xM l (az.bd.cw m0 (n.cw (wt a d)) o (az.bd.cw m0 (wu d a) o i))) hd
 ·grind[aon,yO.tY,DY]
 ·obtain⟨m,x,cap,rfl,-,-⟩:=h;simp_all[Gt]
end b_
namespace b_
open RowKit az
theorem SG:(ai prog false).funcs[(115:Nat)]?=some f115:=bl (upd:=false) func115 AS
@[simp] theorem aEg (args:Array Value) (w:World):Sem.run (ai prog false) (callFunc 115 args) w=.ok (.enter 115 args) w:=c8 SG AS args w
theorem aoq(n:Nat)(h:n<=1000)(w:World):
 Calls (ai prog false) 115 #[.slice none 0 0,.int .i64 n] w fun e w'=>∃v,e=.returned v/\w'.ownsRow w.heap.size 78 2 v 0 []/\Below w.heap.size w w':=by
 by_cases h0:n=0
 ·subst h0;go_enter SG,ntmps115
  go_wp2
  go_ret
  simp_all[World.ownsRow_nil,Below.refl]
 ·have g:(0:Int)<(n:Int):=by omega
  have a:t78.bytes=48:=BB;have d:=nextslicecap_zero (need:=n) Ay;go_enter SG,ntmps115
  go_wp2
  all_goals try(exfalso;simp only[a,d]at *;omega)
  go_ret
  have f:n<=(Question.appendCap n 0 78).cut (w.tape w.drawn (Question.appendCap n 0 78)):=by simp[Question.cut]
  have c:(Question.appendCap n 0 78).cut (w.tape w.drawn (Question.appendCap n 0 78))<=maxLen:=by simp only[Question.cut,maxLen];have:=Nat.mod_lt (w.tape w.drawn (Question.appendCap n 0 78)) (show 0<2^63-n by omega);omega
  generalize(Question.appendCap n 0 78).cut (w.tape w.drawn (Question.appendCap n 0 78))=b at *;refine⟨_,rfl,⟨Aa,.inr ⟨w.heap.size,b,_,rfl,Nat.le_refl _,(af.new w _ _).drew,Nat.zero_le _,c,?_,Aa⟩⟩,((Below.refl _ w).alloc Jr _).drew⟩;grind[size_zeroCells]
theorem aan{n:Nat}{P:Nat->Value×Value->Prop}(h:∀i,i<n->∃p,P i p):∀k,k<=n->∃xs:List (Value×Value),xs.length=k/\∀i(hi:i<xs.length),P i xs[i]
 |0,_=>⟨[],rfl,AU⟩
 |k+1,a=>by obtain⟨xs,c,b⟩:=aan h k Ay;obtain⟨p,d⟩:=h k Ay;refine⟨xs++[p],AU,fun i hi=>?_⟩;grind
theorem aao(xs:List (Value×Value))(j:Nat)(u:Value)(h:(two xs)[j]?=some u):∃i,∃hi:i<xs.length,(j=i*2/\u=xs[i].1)\/(j=i*2+1/\u=xs[i].2):=by have a:j<(two xs).length:=(List.getElem?_eq_some_iff.1 h).1;rw[X4]at a;have hi:j / 2<xs.length:=Ay;refine⟨j / 2,hi,?_⟩;obtain⟨g1,b⟩:=Zp xs (j / 2) hi;grind
theorem aor{w:World}{v:Value}{rs:List dY}(h:g9 w v rs)(h0:0<rs.length):
 ∃b off c,∃xs:List (Value×Value),v=.slice (some ⟨b,off,none⟩) rs.length c/\xs.length=rs.length/\(∀j u,(two xs)[j]?=some u->w.cell? ⟨b,off+j,none⟩=some u)/\(∀u∈two xs,u.oneCell'=true)/\
  ∀i(hi:i<xs.length)(n:i<rs.length),km w xs[i].1 rs[i].1/\k0 w xs[i].2 rs[i].2:=by
 obtain⟨s,c,rfl,-,g⟩:=h;obtain⟨b,off,rfl,-⟩:=g 0 h0;have m:∀i,i<rs.length->∃p:Value×Value,w.cell? ⟨b,off+i*2,none⟩=some p.1/\w.cell? ⟨b,off+i*2+1,none⟩=some p.2/\∀hi:i<rs.length,km w p.1 rs[i].1/\k0 w p.2 rs[i].2:=by intro i hi;obtain⟨x,y,e,r,q,cu,c1,t,o⟩:=g i hi;simp_all
 obtain⟨xs,l,f⟩:=aan m rs.length Jr;refine⟨b,off,c,xs,rfl,l,fun j u d=>?_,fun u d=>?_,AU⟩
 ·grind[aao]
 ·obtain⟨j,k⟩:=List.getElem?_of_mem d;obtain⟨i,hi,⟨-,rfl⟩|⟨-,rfl⟩⟩:=aao xs j u k
  ·obtain⟨a,cc,e,-⟩:=((f i hi).2.2 Ay).1;rw[e];rfl
  ·obtain⟨a,cc,e,-⟩:=((f i hi).2.2 Ay).2;rw[e];rfl
def NB(w:World)(rd:Nat->Option Value)(rs:List dY):Prop:=∃v,rd 0=some v/\g9 w v rs
theorem aos:(ai prog false).funcs[(91:Nat)]?=some f91:=bl (upd:=false) func91 AS
def l5(a8:List (List dY))(k:Nat):List dY:=(a8.take k).flatten
def la(a8:List (List dY))(k:Nat):Nat:=(l5 a8 k).length
variable {a8:List (List dY)}
theorem SH{k:Nat}(h:k<a8.length):l5 a8 (k+1)=l5 a8 k++a8[k]:=by grind[l5,List.take_succ_eq_append_getElem]
theorem Jv{k:Nat}(h:k<a8.length):la a8 (k+1)=la a8 k+a8[k].length:=by grind[la,SH]
theorem aot(a8:List (List dY))(T:Value)(w:World)(h:bd w 1 NB T a8)(jV:∀p∈a8,0<p.length)(Jw:a8.length<=1000)(O:∀k,la a8 k<=1000):
 Calls (ai prog false) 91 #[T] w fun e w'=>∃v,e=.returned v/\g9 w' v (l5 a8 a8.length)/\tv (la a8 a8.length) v/\Below w.heap.size w w':=by
 obtain⟨bL,cap,rfl,hl,z⟩:=h;go_enter aos,ntmps91
 go_wp2
 go_loopw [3,5,11] (fun a _ b W=>∃k:Nat,k<=a8.length/\a=.int .i64 (la a8 k:Int)/\b=.int .i64 (k:Int)/\W=w) (fun _ _ b _=>a8.length-(intOf b).toNat)
 case atStart=>exact⟨0,Nat.zero_le _,rfl,rfl,rfl⟩
 case round=>
  obtain⟨k,hk,rfl,rfl,rfl⟩:=hrel;by_cases d:k<a8.length
  ·obtain⟨b,off,rfl,v,dw,f⟩:=z k d;simp at dw;obtain⟨bW,bO,Sz,-⟩:=bd.shape f;subst Sz;have gK:=gX dw;have ql:(0:Int)<=(k:Int):=Ay;have s7:(k:Int)<(a8.length:Int):=Ay;have P:=O (k+1);rw[Jv d]at P;have s9:¬((la a8 k:Int)+(a8[k].length:Int)<0):=Ay;clear z f;generalize sm:la a8 k=X at *;go_wp2
   exact⟨⟨k+1,Ay,by grind[Jv],Aa,trivial⟩,by simp[intOf];omega⟩
  ·have E:k=a8.length:=by omega
   subst E;have hB:¬((a8.length:Int)<(a8.length:Int)):=Ay;have Nz:=O a8.length;have M:Hid _:=z;clear z;obtain⟨w,rfl⟩:∃x:World,x=wr:=⟨wr,rfl⟩;go_wp2
   refine(aoq (la a8 a8.length) Nz w).mono ?_;rintro e w1 ⟨v1,rfl,L,bm⟩;obtain⟨a1,c1,rfl⟩:=s4 L;have zx:Hid (w1.ownsRow w.heap.size 78 2 (.slice a1 0 c1) 0 []):=L;have dM:Hid (Below w.heap.size w w1):=bm;clear L bm;go_wp2
   go_loopw [6,8,27] (fun a _ b W=>∃(k:Nat)(c:List (Value×Value))(B:Option Addr)(gc:Nat),k<=a8.length/\a=.slice B (la a8 k) gc/\b=.int .i64 (k:Int)/\c.length=(la a8 k)/\W.ownsRow w.heap.size 78 2 (.slice B (la a8 k) gc) (la a8 k) (two c)/\(∀i(D:i<c.length)(V:i<(l5 a8 k).length),km w c[i].1 ((l5 a8 k)[i]).1/\k0 w c[i].2 ((l5 a8 k)[i]).2)/\Below w.heap.size w W) (fun _ _ b _=>a8.length-(intOf b).toNat)
   case atStart=>exact⟨0,[],a1,c1,Nat.zero_le _,rfl,rfl,rfl,zx.out,AU,dM.out⟩
   case round=>
    obtain⟨k,c,B,gc,hk,rfl,rfl,y,dr,Gv,U⟩:=hrel;have C:Hid _:=dr;have t:Hid _:=Gv;have l:Hid (Below w.heap.size w wr):=U;clear dr Gv U;by_cases d:k<a8.length
    ·obtain⟨b,off,rfl,v,dw,f⟩:=M.out k d;simp at dw;have A:=bC.cW l.out;have Z:=A _ _ _ dw;have gK:=gX Z;obtain⟨zN,s,pc,xs,rfl,K,r,C6,o⟩:=aor f AU;have J:Hid (∀j u,(two xs)[j]?=some u->wr.cell? (Addr.add ⟨zN,s,none⟩ j)=some u):=fun j u hu=>by rw[Addr.add_lit];exact A _ _ _ (r j u hu)
     have px:Hid _:=C6;have I:Hid _:=o;have ql:(0:Int)<=(k:Int):=Ay;have s7:(k:Int)<(a8.length:Int):=Ay;have P:=O (k+1);rw[Jv d]at P;obtain⟨i0,hi,L8,FB,LJ⟩:=info_parts X5;have Q:Hid (w.heap.size<=wr.heap.size):=l.out.size;clear f dw A r C6 o M;go_wp2_with (at_builtin;apply yn)
     unfold xh;refine wpList_append_own _ rfl _ _ 68 rfl w.heap.size 78 i0 _ 2 48 ((Fx _ _ _).trans underlying68) hi L8 FB LJ rfl AW (.slice B (la a8 k) gc) (la a8 k) (two c) rfl C.out ⟨zN,s,none⟩ a8[k].length pc (two xs) rfl (by rw[X4,K]) J.out px.out (by unfold maxLen;omega) Ay Q.out ?_;intro v' S n R0 _;obtain⟨Y,bH,rfl⟩:=s4 n;have H:Hid (S.ownsRow w.heap.size 78 2 (.slice Y (la a8 (k+1)) bH) (la a8 (k+1)) (two (c++xs))):=by grind[Hid,Jv,two]
     have mU:Hid (Below w.heap.size w S):=l.out.grown R0 Q.out (fun g hg=>(World.ownsRow.lt C.out g hg).1);have z3:Hid (∀i(D:i<(c++xs).length)(V:i<(l5 a8 (k+1)).length),km w (c++xs)[i].1 ((l5 a8 (k+1))[i]).1/\k0 w (c++xs)[i].2 ((l5 a8 (k+1))[i]).2):=by
      intro i D V;have aEi:c.length=(l5 a8 k).length:=y;simp[SH d];by_cases m:i<c.length
      ·rw[List.getElem_append_left m,List.getElem_append_left Ay];exact t.out i m Ay
      ·rw[List.getElem_append_right Ay,List.getElem_append_right Ay];have:=I.out (i-c.length) AU AU;grind
     have R:=Jv d;have F:Hid ((c++xs).length=la a8 (k+1)):=by grind[Hid]
     clear n R0 Z;rw[<-R];clear R;go_wp2
     go_roundw
     case rel=>exact⟨k+1,c++xs,Y,bH,Ay,rfl,Aa,F.out,H.out,z3.out,mU.out⟩
     case measure=>simp[intOf];omega
    ·have E:k=a8.length:=by omega
     subst E;have mm:¬((a8.length:Int)<(a8.length:Int)):=Ay;clear M;go_wp2
     go_ret
     have A:=bC.cW l.out;have wy:la a8 a8.length<=gc:=by
      rcases C.out.2 with⟨e,h0⟩|⟨g',cap',bp,e,-,-,D,-⟩
      ·grind
      grind
     refine⟨_,rfl,?_,⟨_,_,rfl,wy⟩,l.out⟩;exact RZ (Row:=fun j W x=>∃h:j<c.length,x=.agg #[c[j].1,c[j].2]) (N:=la a8 a8.length) ⟨c,y,C.out,AU⟩ (l5 a8 a8.length) rfl Ay (fun j hj p q⟨hy,e⟩=>by
      simp at e;obtain⟨rfl,rfl⟩:=e;obtain⟨r1,r2⟩:=t.out j hy hj;grind[bd.mono,H0,Bq])
open Conc ConcM bu ab iJ gF jn sJ dD
variable {M bt:Nat->Prop}{w0:World}{bs:List (Nat×Obj)}
theorem aaA{P:Program}{upd:Bool}(C:(ei P upd).Good)(W:upd=false){f:FuncId}{fn:Func}{r:Code}(z:P.funcs[f]?=some fn)(t:i6 P upd fn=true)(a:fn.body=some r)(B:Dm fn=true)
  (U:∀b,M b->bt b)   (y:∀g,g<=P.globals.size->M g) {args:Array Value} (A:a3 (fE M dz) args args) (E:i7 (ei P upd) M dz w0) {n:Int}
 (V:∀w,(∀b,M b->w.heap[b]?=w0.heap[b]?)->∀i,gW (ei P upd) M dz w i->∀T,Calls (ai P upd) f args {i with tape:=T} (fun e _=>e=.returned (.int .i64 n)))
 {ST:Bool->e6.av->a6->Prop} (q:∀m l g w N j,(∀b,N b->j b)->ST m l ⟨g,w,N⟩->ST m l ⟨g,w,j⟩) {m:Bool}:
 jS P ST m f args (jq e6 () bt w0 bs) (fun u F=>u=.int .i64 n/\F=jq e6 () bt w0 bs):=by
 intro b₁ a₁ aG i₁ aP k₁ cs₁ RQ w γ hS
 have hF:aZ e6 bt w0 bs w:=hS
 have L:∀b,M b->w.heap[b]?=w0.heap[b]?:=fun b a=>hF.rw.heap b AU
 have K:i7 (ei P upd) M dz w:=wt E L
 obtain⟨i,J⟩:=HZ (ei P upd) M dz w
 have p:=jO.more (K':=M) AU (RG C z t a B K y AU A (R:=fun v _=>v=.int .i64 n) J AU m (b₁.at a₁ (.inRegion aG (i₁::aP)::k₁)) cs₁)
 have S:(⟨bb (Frame.enter P f args .normal) (b₁.at a₁ (.inRegion aG (i₁::aP)::k₁)::cs₁),w,ck bt bs⟩:a6)=tf ⟨bb (Frame.enter P f args .normal) (b₁.at a₁ (.inRegion aG (i₁::aP)::k₁)::cs₁),w,dz⟩ (ck bt bs):=by
  unfold tf;congr 1
  funext b
  exact propext ⟨.inr,fun h=>h.resolve_left (fun x=>x)⟩
 show bh _ _ _ _ () γ ⟨bb (Frame.enter P f args .normal) (b₁.at a₁ (.inRegion aG (i₁::aP)::k₁)::cs₁),w,ck bt bs⟩
 rw[S]
 have c:∀b,ck bt bs b->b<w.heap.size:=by
  rintro b (h|h)
  ·exact hF.lt b (.inr (.inl h))
  ·obtain⟨x,s,rfl⟩:=List.mem_map.1 h;exact n9 (hF.cV x s)
 refine Zf pI rfl Js p γ (ck bt bs) (fun b a=>.inr (.inl (U b a))) rfl (fun b _ h=>h) (fun b a=>⟨fun x=>x,fun h=>h,c b a⟩) AU AU ?_
 rintro Y I ⟨ρ,w1,v,o,d⟩ X RN MR Z hsz H RO MS k Q O
 obtain rfl:o=.int .i64 n:=by have:=d.val;rw[d.post]at this;exact this.ts
 have D:aZ e6 bt w0 bs Y.w:=hF.on ⟨AU,hsz,k,Q,O⟩
 have:=RQ (.int .i64 n) (jq e6 () bt w0 bs) ⟨rfl,rfl⟩ Y.w I D
 unfold tf
 have e:=d.g
 rw[Frame.finish_at]at e
 rw[e]
 exact bh.more q this (fun b a=>.inr a)
theorem aoB:(ai prog false).funcs[(206:Nat)]?=some f206:=bl (upd:=false) func206 AS
theorem aoC:(ai prog false).funcs[(192:Nat)]?=some f192:=bl (upd:=false) func192 AS
theorem aoD(t:List br)(v:Value)(w:World)(d:lV w v t)(h0:0<t.length):
 Calls (ai prog false) 206 #[.agg #[v]] w fun e _=>e=.returned (.int .i64 (t[0].fY.length:Int)):=by
 obtain⟨l,cap,rfl,-,c⟩:=d;obtain⟨b,off,rfl,bQ,vs,j,-,-,-,-,gJ,a⟩:=c 0 h0;obtain⟨i,ci,h,g,an,k,-,-,rfl⟩:=a.shape;simp at gJ;have f:=gX gJ;clear c a;have hi:(0:Int)<(t.length:Int):=Ay;go_enter aoB,ntmps206
 go_wp2
 go_ret
 rfl
theorem aoE(ev a9:Value)(rs:List dY)(w:World)(b:∃a n c,ev=.slice a n c)(d:g9 w a9 rs):
 Calls (ai prog false) 192 #[.agg #[ev,a9]] w fun e _=>e=.returned (.int .i64 (rs.length:Int)):=by
 obtain⟨g,f,ec,rfl⟩:=b;obtain⟨h,cap,rfl,-,-⟩:=d;go_enter aoC,ntmps192
 go_wp2
 go_ret
 rfl
theorem aoF:i6 prog false f206=true:=by decide+kernel
theorem aoG:i6 prog false f192=true:=by decide+kernel
theorem aoH(o:∀b,M b->bt b)(j:∀g,g<=prog.globals.size->M g)(a:i7 (ei prog false) M dz w0){t:List br}{v:Value}(i:lV w0 v t)(hrel:aA (fE M dz) v v)(h0:0<t.length)
 {ST:Bool->e6.av->a6->Prop} (h:∀m l g w N f,(∀b,N b->f b)->ST m l ⟨g,w,N⟩->ST m l ⟨g,w,f⟩):
 jS prog ST true 206 (#[.agg #[v]]++#[]) (jq e6 () bt w0 bs) (fun u k=>u=.int .i64 (t[0].fY.length:Int)/\k=jq e6 () bt w0 bs):=
 aaA lS rfl func206 aoF rfl AS o j (.one (.ki (.one hrel))) a (fun w e d n c=>aoD t v {d with tape:=c} (bd.mono se (DY d c) (az.bd.cw yG (n.cw (wt a e)) hrel (az.bd.cw yG (wu e a) hrel i))) h0) h
theorem aoI(t:∀b,M b->bt b)(p:∀g,g<=prog.globals.size->M g)(d:i7 (ei prog false) M dz w0){rs:List dY}{ev a9:Value}(q:∃a n c,ev=.slice a n c)(o:g9 w0 a9 rs)(v:aA (fE M dz) ev ev)(j:aA (fE M dz) a9 a9)
 {ST:Bool->e6.av->a6->Prop} (k:∀m l g w N i,(∀b,N b->i b)->ST m l ⟨g,w,N⟩->ST m l ⟨g,w,i⟩):
 jS prog ST true 192 (#[.agg #[ev,a9]]++#[]) (jq e6 () bt w0 bs) (fun u r=>u=.int .i64 (rs.length:Int)/\r=jq e6 () bt w0 bs):=
 aaA lS rfl func192 aoG rfl AS t p (.one (.ki (iA AU))) d (fun w h f s e=>aoE ev a9 rs {f with tape:=e} q (bd.mono xM (DY f e) (az.bd.cw m0 (s.cw (wt d h)) j (az.bd.cw m0 (wu h d) j o)))) k
end b_
namespace b_
open Conc ConcM RowKit az
theorem aoJ(v:Value)(args:Array Value)(w:World):(callMethod (.iface 113 (.agg #[v])) "Piece" args).run prog w=.ok (.enter 205 (#[.agg #[v]]++args)) w/\(callMethod (.iface 113 (.agg #[v])) "Piece" args).events prog w #[]=#[]:=⟨BB,BB⟩
theorem aoK(v:Value)(w:World):(callMethod (.iface 113 (.agg #[v])) "Size" #[]).run prog w=.ok (.enter 206 (#[.agg #[v]]++#[])) w/\(callMethod (.iface 113 (.agg #[v])) "Size" #[]).events prog w #[]=#[]:=⟨BB,BB⟩
theorem aoL(v u:Value)(args:Array Value)(w:World):(callMethod (.iface 106 (.agg #[v,u])) "Piece" args).run prog w=.ok (.enter 191 (#[.agg #[v,u]]++args)) w/\(callMethod (.iface 106 (.agg #[v,u])) "Piece" args).events prog w #[]=#[]:=⟨BB,BB⟩
theorem aoM(v u:Value)(w:World):(callMethod (.iface 106 (.agg #[v,u])) "Size" #[]).run prog w=.ok (.enter 192 (#[.agg #[v,u]]++#[])) w/\(callMethod (.iface 106 (.agg #[v,u])) "Size" #[]).events prog w #[]=#[]:=⟨BB,BB⟩
end b_
namespace sJ
open Conc RowKit Conc.Lib ConcR.Gen ConcM az bu ab iJ gF jn ba
theorem abq:prog.underlying 88=some (.slice 68):=by simp
theorem aqs:(prog.info? 68).map (fun i=>(i.zero,i.size,i.bytes))=some (some (.slice none 0 0),1,24):=by kernel_rfl
theorem abr{a:Act}{b:Frame}{o:Oper}{x y:Operand}{N:Nat}(cj:N<=2000000)(c:o.op=.makeSlice 88 x y)(k:a.eval x=.int .i64 (N:Int))(j:a.eval y=.int .i64 (N:Int))(w:World):
 (execOp a.eval o).run prog w=.ok (.value (.slice (some ⟨w.heap.size,0,none⟩) N N)) (w.alloc (.cells (madeCells #[.slice none 0 0] N) 68))/\listed prog b.fn a o w=#[]:=by
 obtain⟨i,hi,e⟩:=Option.map_eq_some_iff.1 aqs;simp at e;obtain⟨g,l,m⟩:=e;have f:(i.bytes:Int)*(N:Int)<=281474976710656:=AU;have d:=run_makeSlice (P:=prog) w 88 68 i (.slice none 0 0) abq hi g .i64 .i64 (N:Int) (N:Int) Ay (Int.le_refl _) AU f Ay;have h:=events_make (P:=prog) w 88 68 i (.slice none 0 0) abq hi g .i64 .i64 (N:Int) (N:Int) Ay (Int.le_refl _) f Ay AU #[];simp[l]at d;unfold listed execOp;simp only[c,k,j];constructor
 ·simp[d];rfl
 ·simp[h,seen_none]
section
variable {ST:Bool->e6.av->a6->Prop}
theorem Tn{S a N:Nat}(y:0<a)(cj:N=(S+a-1) / a)(hS:S<=1000000)(A:a<=1000000){M:Nat->Prop}{w0:World}{bs:List (Nat×Obj)}:
 jS prog ST true 48 #[.int .i64 (S:Int),.int .i64 (a:Int)] (jq e6 () M w0 bs) (fun u p=>∃st bG,u=.pointer (some ⟨st,0,none⟩)/\p=jq e6 () M w0 ((st,.cells #[.int .i32 0,.int .u32 0,.int .i64 (S:Int),.int .i64 (a:Int),.int .i64 0,.int .i64 0,.slice (some ⟨bG,0,none⟩) N N,.slice none 0 0] 172)::(bG,.cells (madeCells #[.slice none 0 0] N) 68)::bs)):=by
 intro b₁ a₁ aG i₁ aP k₁ cs₁ hK w γ hF;have l:=pI.og;obtain⟨i,B,x⟩:∃i:Nat,IntKind.wrap .i64 ((S:Int)+(a:Int))=(i:Int)/\tx (i=S+a):=⟨S+a,Ct,rfl⟩;obtain⟨g,C,t⟩:∃g:Nat,IntKind.wrap .i64 ((i:Int)-1)=(g:Int)/\tx (g=S+a-1):=⟨S+a-1,by grind[IntKind.wrap_i64],rfl⟩;have z:Int.tdiv (g:Int) (a:Int)=(N:Int):=by grind[tx.out]
 have o:N<=2000000:=by rw[cj];exact Nat.le_trans (Nat.div_le_self _ _) Ay
 replace cj:tx (N=(S+a-1) / a):=cj;have s:IntKind.wrap .i64 (N:Int)=(N:Int):=Ct;have r:¬a=0:=Ay;rw[enter_at _ func48 rfl];refine a5 (γ:=()) pI Js 200 _ _ _ trivial ?_;unfold jq at hF⊢;walk_nrmf f48
 repeat w_go aZ.on
 refine g6 rfl hF fun n e m f c q k j hF=>?_;refine tU AU l rfl hF (stepG_value rfl rfl Bc (abr (b:=base 48) o rfl rfl rfl c).1) rfl (abr o rfl rfl rfl c).2 (fun d=>?_);clear hF;have hF:=d;clear d j k f e;generalize c.heap.size=bG at hF⊢;generalize c.alloc (.cells (madeCells #[.slice none 0 0] N) 68)=w3 at hF⊢;refine a5 (γ:=()) pI Js 200 _ _ _ trivial ?_;walk_nrm
 repeat w_go aZ.on
 refine g6 rfl hF fun n e m f c q k j hF=>?_;refine tU AU l rfl hF (stepG_value (v:=.pointer (some ⟨c.heap.size,0,none⟩)) (w':=c.alloc (.cells #[.int .i32 0,.int .u32 0,.int .i64 (S:Int),.int .i64 (a:Int),.int .i64 0,.int .i64 0,.slice (some ⟨bG,0,none⟩) N N,.slice none 0 0] 172)) rfl rfl Bc BD) rfl Bb (fun d=>?_);clear hF;have hF:=d;clear d j k f e;generalize c.heap.size=st at hF⊢;generalize c.alloc (.cells #[.int .i32 0,.int .u32 0,.int .i64 (S:Int),.int .i64 (a:Int),.int .i64 0,.int .i64 0,.slice (some ⟨bG,0,none⟩) N N,.slice none 0 0] 172)=w3 at hF⊢;refine a5 (γ:=()) pI Js 200 _ _ _ trivial ?_;walk_nrm
 repeat w_go aZ.on
 u_in aZ.on hF
 refine goes_leave1 rfl rfl func48 rfl ⟨FQ,?_⟩;refine Goes.stop (fun n e=>⟨rfl,fun m f=>?_⟩);replace hF:=hF.on e;simp_all[jq]
end
theorem Tp:(f48.name== "runtime.NumGoroutine")=false:=by kernel_rfl
section
variable {ST:Bool->e6.av->a6->Prop}
variable {b₁:Frame} {a₁:Act} {aG:Array Oper} {i₁:Nat} {aP:List Nat} {k₁:List Item} {cs₁:List Frame}
theorem aqt{S a N W:Nat}(F:0<a)(cj:N=(S+a-1) / a)(hS:S<=1000000)(H:a<=1000000){jt:TypeId}{d K:Value}{I:FuncId}{M:Nat->Prop}{w0:World}
 (hinv:∀w,(callMethod (.iface jt d) "Size" #[]).run prog w=.ok (.enter I (#[K]++#[])) w/\(callMethod (.iface jt d) "Size" #[]).events prog w #[]=#[])
 (yT:∀bs,jS prog ST true I (#[K]++#[]) (jq e6 () M w0 bs) (fun u b4=>u=.int .i64 (S:Int)/\b4=jq e6 () M w0 bs))
 (B:∀st bG f b n wg bs w'(R dn ep Q T eu d7 ew ey ez eA eL eB eC eD Y eE fb fc fe:Value),aZ e6 M w0 bs w'->(∀x∈[(wg,Obj.cells #[.int .u64 0,.int .u32 0] 136),(f,Obj.cells #[.pointer (some ⟨st,0,none⟩)] 124),(st,Obj.cells #[.int .i32 0,.int .u32 0,.int .i64 (S:Int),.int .i64 (a:Int),.int .i64 0,.int .i64 0,.slice (some ⟨bG,0,none⟩) N N,.slice none 0 0] 172),(bG,Obj.cells (madeCells #[.slice none 0 0] N) 68),(n,Obj.cells #[.iface jt d] 123),(b,Obj.cells #[.int .i64 (W:Int),.int .i64 (a:Int)] 64)],x∈bs)->(∀x∈bs,x∈[(wg,Obj.cells #[.int .u64 0,.int .u32 0] 136),(f,Obj.cells #[.pointer (some ⟨st,0,none⟩)] 124),(st,Obj.cells #[.int .i32 0,.int .u32 0,.int .i64 (S:Int),.int .i64 (a:Int),.int .i64 0,.int .i64 0,.slice (some ⟨bG,0,none⟩) N N,.slice none 0 0] 172),(bG,Obj.cells (madeCells #[.slice none 0 0] N) 68),(n,Obj.cells #[.iface jt d] 123),(b,Obj.cells #[.int .i64 (W:Int),.int .i64 (a:Int)] 64)])->bh e6 prog ST true () () ⟨Conc.G ((base 36).at ⟨#[R,dn,ep,.pointer (some ⟨n,0,none⟩),Q,T,.pointer (some ⟨f,0,none⟩),.pointer (some ⟨wg,0,none⟩),eu,d7,ew,ey,ez,eA,.int .i64 (W:Int),.int .i64 (0:Int),eL,eB,eC,eD,Y,eE,fb,fc,fe],[]⟩ [.code ((ba.cS (f36.body.getD .skip)).getD .skip),.inLoop ((ba.cS (f36.body.getD .skip)).getD .skip),.inBlock 0,.code ((ba.cH 8 (f36.body.getD .skip)).getD .skip)]) (b₁.at a₁ (.inRegion aG (i₁::aP)::k₁)::cs₁),w',ck M bs⟩) (w:World) (U:aZ e6 M w0 [] w):
 bh e6 prog ST true () () ⟨Conc.G (Frame.enter prog 36 #[.agg #[.int .i64 (W:Int),.int .i64 (a:Int)],.iface jt d] .normal) (b₁.at a₁ (.inRegion aG (i₁::aP)::k₁)::cs₁),w,ck M []⟩:=by
 have hF:=U;have y:=pI.og;have P:prog.follows .mixedOrders=true:=BB;rw[enter_at _ func36 rfl];refine a5 (γ:=()) pI AU 200 _ _ _ trivial ?_;walk_nrmf f36
 repeat w_go aZ.on
 refine g6 rfl hF fun s j t m c A r p hF=>?_;refine tU AU y rfl hF (stepG_value (v:=.pointer (some ⟨c.heap.size,0,none⟩)) (w':=c.alloc (Obj.cells #[.int .i64 (W:Int),.int .i64 (a:Int)] 64)) rfl rfl Bc BD) rfl Bb (fun k=>?_);clear hF;have hF:=k;clear k p r m j;generalize c.heap.size=b at hF⊢;generalize c.alloc (Obj.cells #[.int .i64 (W:Int),.int .i64 (a:Int)] 64)=w3 at hF⊢;refine a5 (γ:=()) pI AU 200 _ _ _ trivial ?_;walk_nrm
 repeat w_go aZ.on
 refine g6 rfl hF fun s j t m c A r p hF=>?_;refine tU AU y rfl hF (stepG_value (v:=.pointer (some ⟨c.heap.size,0,none⟩)) (w':=c.alloc (Obj.cells #[.iface jt d] 123)) rfl rfl Bc BD) rfl Bb (fun k=>?_);clear hF;have hF:=k;clear k p r m j;generalize c.heap.size=n at hF⊢;generalize c.alloc (Obj.cells #[.iface jt d] 123)=w3 at hF⊢;refine a5 (γ:=()) pI AU 200 _ _ _ trivial ?_;walk_nrm
 repeat w_go aZ.on
 refine Goes.stop (fun s j=>⟨rfl,fun t m=>?_⟩);replace hF:=hF.on j;clear j m;have oe:∀bs:List (Nat×Obj),(n,Obj.cells #[.iface jt d] 123)∈bs->(b,Obj.cells #[.int .i64 (W:Int),.int .i64 (a:Int)] 64)∈bs->∀x∈[(b,Obj.cells #[.int .i64 (W:Int),.int .i64 (a:Int)] 64),(n,Obj.cells #[.iface jt d] 123)],DZ x M w0 bs:=by
  intro bs X V x L;simp at L;rcases L with rfl|rfl
  ·exact .inl V
  ·exact .inl X
 refine Dg (Z:=e6) (C:=NE e6 () [(b,Obj.cells #[.int .i64 (W:Int),.int .i64 (a:Int)] 64),(n,Obj.cells #[.iface jt d] 123)]) AU Bc P NF aoz (σ:=jq e6 () M w0 [(n,Obj.cells #[.iface jt d] 123),(b,Obj.cells #[.int .i64 (W:Int),.int .i64 (a:Int)] 64)]) (jm:=va prog ST true _ _ _ _ []) K3 ⟨_,_,_,AU,rfl⟩ ?_ _ t hF;walk_nrm
 refine cQ (i:=0) (v:=.iface jt d) NF rfl AS AS AS (aaz rfl (z:=(n,Obj.cells #[.iface jt d] 123)) Aa rfl (fun w g=>?_)) ⟨_,_,_,AU,rfl⟩ ?_
 ·have o:w.cell? ⟨n,0,none⟩=some (.iface jt d):=by simp[World.cell?,g]
  refine⟨BD,fun e q=>⟨0,?_⟩⟩;have l:=mem_listed q;simp[go_sem,o]at l;grind
 walk_nrm
 refine cQ (i:=2) (v:=.pointer (some ⟨b,1,none⟩)) NF rfl AS AS AS (eh rfl (fun _=>BD) KL) ⟨_,_,_,AU,rfl⟩ ?_;walk_nrm
 refine cQ (i:=3) (v:=.int .i64 (a:Int)) NF rfl AS AS AS (aaz rfl (z:=(b,Obj.cells #[.int .i64 (W:Int),.int .i64 (a:Int)] 64)) Aa rfl (fun w g=>?_)) ⟨_,_,_,AU,rfl⟩ ?_
 ·have o:w.cell? ⟨b,1,none⟩=some (.int .i64 (a:Int)):=by simp[World.cell?,g]
  refine⟨BD,fun e q=>⟨1,?_⟩⟩;have l:=mem_listed q;simp[go_sem,o]at l;grind
 walk_nrm
 refine Rx (rs:=[1,5]) AS Aa (fun i hi=>?_);simp at hi;rcases hi with rfl|rfl
 ·refine id ?_;refine(Bm rfl rfl (Bo (fun w=>RK (rv:=.iface jt d) (vs:=#[]) rfl rfl EB (hinv w)) (yT _) ?_));rintro u _ ⟨rfl,rfl⟩;refine⟨⟨_,_,_,AU,rfl⟩,?_⟩;walk_nrm
  refine Rx (rs:=[4,5]) AS Aa (fun i hi=>?_);simp at hi;rcases hi with rfl|rfl
  ·refine id ?_;refine(Bm rfl rfl (Bo (fun w=>tW (vs:=#[.int .i64 (S:Int),.int .i64 (a:Int)]) rfl func48 Tp rfl EB w) (Tn F cj hS H) ?_));rintro u _ ⟨st,bG,rfl,rfl⟩;refine⟨⟨_,_,_,AU,rfl⟩,?_⟩;walk_nrm
   refine ve (i:=5) AS (zR rfl rfl (SK y (ob:=Obj.cells #[.pointer none] 124) (fun w=>⟨BD,Bb⟩) (fun f=>⟨⟨_,_,_,AU,rfl⟩,?_⟩)));walk_nrm
   refine ve (i:=6) AS (zR rfl rfl (SL rfl (pre:=[]) (post:=[(st,Obj.cells #[.int .i32 0,.int .u32 0,.int .i64 (S:Int),.int .i64 (a:Int),.int .i64 0,.int .i64 0,.slice (some ⟨bG,0,none⟩) N N,.slice none 0 0] 172),(bG,Obj.cells (madeCells #[.slice none 0 0] N) 68),(n,Obj.cells #[.iface jt d] 123),(b,Obj.cells #[.int .i64 (W:Int),.int .i64 (a:Int)] 64)]) (new:=#[.pointer (some ⟨st,0,none⟩)]) (fun w g=>?_) ⟨⟨_,_,_,AU,rfl⟩,?_⟩))
   ·have o:w.cell? ⟨f,0,none⟩=some (.pointer none):=by simp[World.cell?,g]
    have J:w.frozen? ⟨f,0,none⟩=false:=BQ;have E:w.setCell ⟨f,0,none⟩ (.pointer (some ⟨st,0,none⟩))=w.setRow f #[.pointer (some ⟨st,0,none⟩)]:=setCell_eq_setRow w f 0 #[.pointer none] 124 (0,0) (.pointer (some ⟨st,0,none⟩)) g;refine⟨by rw[<-E];go_simp,fun e q=>⟨0,?_⟩⟩;have l:=mem_listed q;simp[go_sem]at l;rw[Go.events_store _ _ _ _ _ _ rfl,o]at l;grind
   walk_nrm
   refine zO AS ?_ _;intro D O k;clear hF;have hF:aZ e6 M w0 ([(f,Obj.cells #[.pointer (some ⟨st,0,none⟩)] 124),(st,Obj.cells #[.int .i32 0,.int .u32 0,.int .i64 (S:Int),.int .i64 (a:Int),.int .i64 0,.int .i64 0,.slice (some ⟨bG,0,none⟩) N N,.slice none 0 0] 172),(bG,Obj.cells (madeCells #[.slice none 0 0] N) 68),(n,Obj.cells #[.iface jt d] 123),(b,Obj.cells #[.int .i64 (W:Int),.int .i64 (a:Int)] 64)]) D:=k;clear k;unfold jq;refine a5 (γ:=()) pI AU 200 _ _ _ trivial ?_;walk_nrm
   repeat w_go aZ.on
   refine g6 rfl hF fun s j t m c A r p hF=>?_;refine tU AU y rfl hF (stepG_value (v:=.pointer (some ⟨c.heap.size,0,none⟩)) (w':=c.alloc (Obj.cells #[.int .u64 0,.int .u32 0] 136)) rfl rfl Bc BD) rfl Bb (fun k=>?_);clear hF;have hF:=k;clear k p r m j;generalize c.heap.size=wg at hF⊢;generalize c.alloc (Obj.cells #[.int .u64 0,.int .u32 0] 136)=w3 at hF⊢;refine a5 (γ:=()) pI AU 200 _ _ _ trivial ?_;walk_nrm
   repeat w_go aZ.on
   refine g6 rfl hF fun s j t m c A r p hF=>?_;have g:=hF.cV (b,Obj.cells #[.int .i64 (W:Int),.int .i64 (a:Int)] 64) Aa;have o:c.cell? ⟨b,0,none⟩=some (.int .i64 (W:Int)):=Ed;refine tj AU rfl AU (stepG_value (v:=.int .i64 (W:Int)) rfl rfl Bc BD) rfl (fun e q=>?_) ?_
   ·have l:=mem_listed q;simp[go_sem,o]at l;subst l;exact⟨rfl,.inr (.inr Aa)⟩
   clear g o p r m j;refine a5 (γ:=()) pI AU 200 _ _ _ trivial ?_;walk_nrm
   iterate 4 w_go aZ.on
   refine Goes.stop (fun s j=>⟨rfl,fun t m=>?_⟩);replace hF:=hF.on j;simp only[f36,Option.getD_some,ba.cS,ba.cH,Nat.reduceBEq,Bool.false_eq_true,↓reduceIte]at B;exact B st bG f b n wg _ s (.agg #[.int .i64 (W:Int),.int .i64 (a:Int)]) (.iface jt d) (.pointer (some ⟨b,0,none⟩)) _ _ (.iface jt d) (.int .i64 (S:Int)) (.pointer (some ⟨b,1,none⟩)) (.int .i64 (a:Int)) (.pointer (some ⟨st,0,none⟩)) (.pointer (some ⟨b,0,none⟩)) undef undef undef undef undef undef undef undef undef hF Aa Aa
  ·refine id ?_;refine(zR rfl rfl (SK y (ob:=Obj.cells #[.pointer none] 124) (fun w=>⟨BD,Bb⟩) (fun f=>⟨⟨_,_,_,AU,rfl⟩,?_⟩)));walk_nrm
   refine ve (i:=4) AS (Bm rfl rfl (Bo (fun w=>tW (vs:=#[.int .i64 (S:Int),.int .i64 (a:Int)]) rfl func48 Tp rfl EB w) (Tn F cj hS H) ?_));rintro u _ ⟨st,bG,rfl,rfl⟩;refine⟨⟨_,_,_,AU,rfl⟩,?_⟩;walk_nrm
   refine ve (i:=6) AS (zR rfl rfl (SL rfl (pre:=[(st,Obj.cells #[.int .i32 0,.int .u32 0,.int .i64 (S:Int),.int .i64 (a:Int),.int .i64 0,.int .i64 0,.slice (some ⟨bG,0,none⟩) N N,.slice none 0 0] 172),(bG,Obj.cells (madeCells #[.slice none 0 0] N) 68)]) (post:=[(n,Obj.cells #[.iface jt d] 123),(b,Obj.cells #[.int .i64 (W:Int),.int .i64 (a:Int)] 64)]) (new:=#[.pointer (some ⟨st,0,none⟩)]) (fun w g=>?_) ⟨⟨_,_,_,AU,rfl⟩,?_⟩))
   ·have o:w.cell? ⟨f,0,none⟩=some (.pointer none):=by simp[World.cell?,g]
    have J:w.frozen? ⟨f,0,none⟩=false:=BQ;have E:w.setCell ⟨f,0,none⟩ (.pointer (some ⟨st,0,none⟩))=w.setRow f #[.pointer (some ⟨st,0,none⟩)]:=setCell_eq_setRow w f 0 #[.pointer none] 124 (0,0) (.pointer (some ⟨st,0,none⟩)) g;refine⟨by rw[<-E];go_simp,fun e q=>⟨0,?_⟩⟩;have l:=mem_listed q;simp[go_sem]at l;rw[Go.events_store _ _ _ _ _ _ rfl,o]at l;grind
   walk_nrm
   refine zO AS ?_ _;intro D O k;clear hF;have hF:aZ e6 M w0 ([(st,Obj.cells #[.int .i32 0,.int .u32 0,.int .i64 (S:Int),.int .i64 (a:Int),.int .i64 0,.int .i64 0,.slice (some ⟨bG,0,none⟩) N N,.slice none 0 0] 172),(bG,Obj.cells (madeCells #[.slice none 0 0] N) 68),(f,Obj.cells #[.pointer (some ⟨st,0,none⟩)] 124),(n,Obj.cells #[.iface jt d] 123),(b,Obj.cells #[.int .i64 (W:Int),.int .i64 (a:Int)] 64)]) D:=k;clear k;unfold jq;refine a5 (γ:=()) pI AU 200 _ _ _ trivial ?_;walk_nrm
   repeat w_go aZ.on
   refine g6 rfl hF fun s j t m c A r p hF=>?_;refine tU AU y rfl hF (stepG_value (v:=.pointer (some ⟨c.heap.size,0,none⟩)) (w':=c.alloc (Obj.cells #[.int .u64 0,.int .u32 0] 136)) rfl rfl Bc BD) rfl Bb (fun k=>?_);clear hF;have hF:=k;clear k p r m j;generalize c.heap.size=wg at hF⊢;generalize c.alloc (Obj.cells #[.int .u64 0,.int .u32 0] 136)=w3 at hF⊢;refine a5 (γ:=()) pI AU 200 _ _ _ trivial ?_;walk_nrm
   repeat w_go aZ.on
   refine g6 rfl hF fun s j t m c A r p hF=>?_;have g:=hF.cV (b,Obj.cells #[.int .i64 (W:Int),.int .i64 (a:Int)] 64) Aa;have o:c.cell? ⟨b,0,none⟩=some (.int .i64 (W:Int)):=Ed;refine tj AU rfl AU (stepG_value (v:=.int .i64 (W:Int)) rfl rfl Bc BD) rfl (fun e q=>?_) ?_
   ·have l:=mem_listed q;simp[go_sem,o]at l;subst l;exact⟨rfl,.inr (.inr Aa)⟩
   clear g o p r m j;refine a5 (γ:=()) pI AU 200 _ _ _ trivial ?_;walk_nrm
   iterate 4 w_go aZ.on
   refine Goes.stop (fun s j=>⟨rfl,fun t m=>?_⟩);replace hF:=hF.on j;simp only[f36,Option.getD_some,ba.cS,ba.cH,Nat.reduceBEq,Bool.false_eq_true,↓reduceIte]at B;exact B st bG f b n wg _ s (.agg #[.int .i64 (W:Int),.int .i64 (a:Int)]) (.iface jt d) (.pointer (some ⟨b,0,none⟩)) _ _ (.iface jt d) (.int .i64 (S:Int)) (.pointer (some ⟨b,1,none⟩)) (.int .i64 (a:Int)) (.pointer (some ⟨st,0,none⟩)) (.pointer (some ⟨b,0,none⟩)) undef undef undef undef undef undef undef undef undef hF Aa Aa
 ·refine id ?_;refine(zR rfl rfl (SK y (ob:=Obj.cells #[.pointer none] 124) (fun w=>⟨BD,Bb⟩) (fun f=>⟨⟨_,_,_,AU,rfl⟩,?_⟩)));walk_nrm
  refine ve (i:=1) AS (Bm rfl rfl (Bo (fun w=>RK (rv:=.iface jt d) (vs:=#[]) rfl rfl EB (hinv w)) (yT _) ?_));rintro u _ ⟨rfl,rfl⟩;refine⟨⟨_,_,_,AU,rfl⟩,?_⟩;walk_nrm
  refine ve (i:=4) AS (Bm rfl rfl (Bo (fun w=>tW (vs:=#[.int .i64 (S:Int),.int .i64 (a:Int)]) rfl func48 Tp rfl EB w) (Tn F cj hS H) ?_));rintro u _ ⟨st,bG,rfl,rfl⟩;refine⟨⟨_,_,_,AU,rfl⟩,?_⟩;walk_nrm
  refine ve (i:=6) AS (zR rfl rfl (SL rfl (pre:=[(st,Obj.cells #[.int .i32 0,.int .u32 0,.int .i64 (S:Int),.int .i64 (a:Int),.int .i64 0,.int .i64 0,.slice (some ⟨bG,0,none⟩) N N,.slice none 0 0] 172),(bG,Obj.cells (madeCells #[.slice none 0 0] N) 68)]) (post:=[(n,Obj.cells #[.iface jt d] 123),(b,Obj.cells #[.int .i64 (W:Int),.int .i64 (a:Int)] 64)]) (new:=#[.pointer (some ⟨st,0,none⟩)]) (fun w g=>?_) ⟨⟨_,_,_,AU,rfl⟩,?_⟩))
  ·have o:w.cell? ⟨f,0,none⟩=some (.pointer none):=by simp[World.cell?,g]
   have J:w.frozen? ⟨f,0,none⟩=false:=BQ;have E:w.setCell ⟨f,0,none⟩ (.pointer (some ⟨st,0,none⟩))=w.setRow f #[.pointer (some ⟨st,0,none⟩)]:=setCell_eq_setRow w f 0 #[.pointer none] 124 (0,0) (.pointer (some ⟨st,0,none⟩)) g;refine⟨by rw[<-E];go_simp,fun e q=>⟨0,?_⟩⟩;have l:=mem_listed q;simp[go_sem]at l;rw[Go.events_store _ _ _ _ _ _ rfl,o]at l;grind
  walk_nrm
  refine zO AS ?_ _;intro D O k;clear hF;have hF:aZ e6 M w0 ([(st,Obj.cells #[.int .i32 0,.int .u32 0,.int .i64 (S:Int),.int .i64 (a:Int),.int .i64 0,.int .i64 0,.slice (some ⟨bG,0,none⟩) N N,.slice none 0 0] 172),(bG,Obj.cells (madeCells #[.slice none 0 0] N) 68),(f,Obj.cells #[.pointer (some ⟨st,0,none⟩)] 124),(n,Obj.cells #[.iface jt d] 123),(b,Obj.cells #[.int .i64 (W:Int),.int .i64 (a:Int)] 64)]) D:=k;clear k;unfold jq;refine a5 (γ:=()) pI AU 200 _ _ _ trivial ?_;walk_nrm
  repeat w_go aZ.on
  refine g6 rfl hF fun s j t m c A r p hF=>?_;refine tU AU y rfl hF (stepG_value (v:=.pointer (some ⟨c.heap.size,0,none⟩)) (w':=c.alloc (Obj.cells #[.int .u64 0,.int .u32 0] 136)) rfl rfl Bc BD) rfl Bb (fun k=>?_);clear hF;have hF:=k;clear k p r m j;generalize c.heap.size=wg at hF⊢;generalize c.alloc (Obj.cells #[.int .u64 0,.int .u32 0] 136)=w3 at hF⊢;refine a5 (γ:=()) pI AU 200 _ _ _ trivial ?_;walk_nrm
  repeat w_go aZ.on
  refine g6 rfl hF fun s j t m c A r p hF=>?_;have g:=hF.cV (b,Obj.cells #[.int .i64 (W:Int),.int .i64 (a:Int)] 64) Aa;have o:c.cell? ⟨b,0,none⟩=some (.int .i64 (W:Int)):=Ed;refine tj AU rfl AU (stepG_value (v:=.int .i64 (W:Int)) rfl rfl Bc BD) rfl (fun e q=>?_) ?_
  ·have l:=mem_listed q;simp[go_sem,o]at l;subst l;exact⟨rfl,.inr (.inr Aa)⟩
  clear g o p r m j;refine a5 (γ:=()) pI AU 200 _ _ _ trivial ?_;walk_nrm
  iterate 4 w_go aZ.on
  refine Goes.stop (fun s j=>⟨rfl,fun t m=>?_⟩);replace hF:=hF.on j;simp only[f36,Option.getD_some,ba.cS,ba.cH,Nat.reduceBEq,Bool.false_eq_true,↓reduceIte]at B;exact B st bG f b n wg _ s (.agg #[.int .i64 (W:Int),.int .i64 (a:Int)]) (.iface jt d) (.pointer (some ⟨b,0,none⟩)) _ _ (.iface jt d) (.int .i64 (S:Int)) (.pointer (some ⟨b,1,none⟩)) (.int .i64 (a:Int)) (.pointer (some ⟨st,0,none⟩)) (.pointer (some ⟨b,0,none⟩)) undef undef undef undef undef undef undef undef undef hF Aa Aa
end
end sJ
end Go.Proofs.YtoehnnefaeoeoaaGreat
