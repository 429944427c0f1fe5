import Derived.Deep.DeepCutAuto
import Derived.Deep.RegionLaw
import Derived.Test.YtncomcmfgmojkaaGreatPAF
set_option linter.all false
set_option maxRecDepth 100000
set_option maxHeartbeats 16000000
namespace Go.Proofs.YtncomcmfgmojkaaGreat
open Go.Proofs.Tryz
namespace bN
open RowKit av
section
attribute [local go_sem ↓] Go.wp_at_zero Go.wp_at_succ
def Met(op:Int):Prop:=op=1\/op=2\/op=4\/op=9\/op=10\/op=12\/op=14\/op=15
def vt(t:bI)(bd:List (Int×Int)):(Int×Int)×Bool:=if t.op=1 then tF bd t.a else if t.op=2 then((1,0),true)else((3,0),decide ((t.s.size:Int)<=16))
def A5(op:Int)(o:Int×Int):(Int×Int)×Bool:=if op=14 then((4,0),o==(4,0))else((4,0),true)
def zg(op:Int)(l r:Int×Int):(Int×Int)×Bool:=if op=12 then((4,0),l==(4,0)&&r==(4,0))else((4,0),l==r&&l != (4,0))
def zh(t:bI)(aQ bd:List (Int×Int)):(Int×Int)×Bool:=
 match aQ with
 | []=>vt t bd
 | [o]=>A5 t.op o
 |l::r::_=>zg t.op l r
def aiK(op:Int)(h:op=9\/op=10\/op=12)(l r:Int×Int)(w:aO):
 Calls (ae prog true) 126 #[.int .i64 op,ee l,ee r] w λe w'=>e=.returned (.tuple #[ee (zg op l r).1,.bool (zg op l r).2])/\Below w.heap.size w w':=by
 unfold zg;by_cases a:op=12
 .simp_all[aiH]
 .simp only[a,if_false];grind[aiE]
def aiL(t:bI)(h:t.op=1\/t.op=2\/t.op=4)(hs:t.s.size<=9223372036854775807)(bd:List (Int×Int))(b:Value)(w:aO)(c:eP w b bd):
 Calls (ae prog true) 124 #[qW t,b] w λe w'=>e=.returned (.tuple #[ee (vt t bd).1,.bool (vt t bd).2])/\Below w.heap.size w w':=by
 obtain⟨op,a,v,s⟩:=t;simp only at h hs;rcases h with rfl|rfl|rfl
 .exact aiy a v s bd b w c
 .exact aiA a v s b w
 .exact aiB a v s hs b w
def aiM(t:bI)(h:t.op=14\/t.op=15)(o:Int×Int)(w:aO):
 Calls (ae prog true) 125 #[qW t,ee o] w λe w'=>e=.returned (.tuple #[ee (A5 t.op o).1,.bool (A5 t.op o).2])/\Below w.heap.size w w':=by
 obtain⟨op,a,v,s⟩:=t;simp only at h;rcases h with rfl|rfl
 .exact aiC a v s o w
 .exact aiD a v s o w
attribute [local go_sem ↓] Go.wp_at_zero Go.wp_at_succ
def QC(w:aO)(t:bI):
 ag ((w.alloc (.cells #[.int .i64 t.op,.int .i64 t.a,.int .i64 t.v,.string t.s] 32)).alloc (.cells #[.int .i64 0,.int .i64 0] 118)) (w.heap.size+1) #[.int .i64 0,.int .i64 0] 118/\
 Below w.heap.size w ((w.alloc (.cells #[.int .i64 t.op,.int .i64 t.a,.int .i64 t.v,.string t.s] 32)).alloc (.cells #[.int .i64 0,.int .i64 0] 118)):=by
 refine⟨?_,((Below.refl _ _).alloc A_ _).alloc A_ _⟩;have:=ag.new (w.alloc (.cells #[.int .i64 t.op,.int .i64 t.a,.int .i64 t.v,.string t.s] 32)) #[.int .i64 0,.int .i64 0] 118;simp_all
def aiN(t:bI)(h1:t.op=1\/t.op=2\/t.op=4)(hs:t.s.size<=9223372036854775807)(bd:List (Int×Int))(j:Option Addr)(ct:Nat)(a:Value)(w:aO)(h:eP w a bd):
 Calls (ae prog true) 103 #[qW t,.slice j 0 ct,a] w λe w'=>e=.returned (.tuple #[ee (vt t bd).1,.bool (vt t bd).2])/\Below w.heap.size w w':=by
 have k:Hid (t.op=1\/t.op=2\/t.op=4):=h1;clear h1;obtain⟨d,b⟩:=QC w t;have f:=h.mono nL (bo.cj b);go_enter (a6 (upd:=true) func103 AV),ntmps103
 go_wp2_with fail
 refine(aiL t k.out hs bd a _ f).mono ?_;rintro e w1 ⟨rfl,c⟩;have i:Below w.heap.size w w1:=Below.step c b B1;obtain⟨g,m,l⟩:=(d.call c).all;go_wp2_with fail
 exact bodyPost_ret (v:=.tuple #[ee (vt t bd).1,.bool (vt t bd).2]) (by simp[results,results103,go_sem,g]) Y ⟨Y,(i.setCell A_ _).setCell A_ _⟩
def aiO(t:bI)(c:t.op=14\/t.op=15)(o:Int×Int)(b off ct:Nat)(k:Value)(w:aO)(h0:w.cell? ⟨b,off,none⟩=some (.int .i64 o.1))(h1:w.cell? ⟨b,off+1,none⟩=some (.int .i64 o.2)):
 Calls (ae prog true) 103 #[qW t,.slice (some ⟨b,off,none⟩) 1 ct,k] w λe w'=>e=.returned (.tuple #[ee (A5 t.op o).1,.bool (A5 t.op o).2])/\Below w.heap.size w w':=by
 have d:Hid (t.op=14\/t.op=15):=c;clear c;obtain⟨g,h⟩:=QC w t;obtain⟨ok,os⟩:=o;have m:=fS h0;go_enter (a6 (upd:=true) func103 AV),ntmps103
 go_wp2_with fail
 go_region_held3 (λW=>W.cell? ⟨w.heap.size,0,none⟩=some (.int .i64 t.op)/\W.cell? ⟨w.heap.size,1,none⟩=some (.int .i64 t.a)/\W.cell? ⟨w.heap.size,2,none⟩=some (.int .i64 t.v)/\W.cell? ⟨w.heap.size,3,none⟩=some (.string t.s)/\W.cell? ⟨b,off,none⟩=some (.int .i64 ok)/\W.cell? ⟨b,off+1,none⟩=some (.int .i64 os))
  ((go_split_ands;refine⟨?_,?_,?_,?_,?_,?_⟩<;>first|(exact(bo.cj a) _ _ _ Co)|(exact sO (sO Co As) As)|(go_keep;done)))
  (first|(go_at_call 125;refine(aiM t d.out (ok,os) _).mono ?_;rintro e w1 ⟨rfl,a⟩;have f:=g.drew.call a;obtain⟨i,n,l⟩:=f.all))
 have j:Below w.heap.size w w1:=Below.step a h.drew B1;go_wp2_with fail
 exact bodyPost_ret (v:=.tuple #[ee (A5 t.op (ok,os)).1,.bool (A5 t.op (ok,os)).2]) (by simp[results,results103,go_sem,i]) Y ⟨Y,(j.setCell A_ _).setCell A_ _⟩
def aiP(t:bI)(c:t.op=9\/t.op=10\/t.op=12)(l r:Int×Int)(b off ct:Nat)(k:Value)(w:aO)(h0:w.cell? ⟨b,off,none⟩=some (.int .i64 l.1))(h1:w.cell? ⟨b,off+1,none⟩=some (.int .i64 l.2))(o:w.cell? ⟨b,off+2,none⟩=some (.int .i64 r.1))(h3:w.cell? ⟨b,off+2+1,none⟩=some (.int .i64 r.2)):
 Calls (ae prog true) 103 #[qW t,.slice (some ⟨b,off,none⟩) 2 ct,k] w λe w'=>e=.returned (.tuple #[ee (zg t.op l r).1,.bool (zg t.op l r).2])/\Below w.heap.size w w':=by
 obtain⟨g,h⟩:=QC w t;obtain⟨lk,ls⟩:=l;obtain⟨a,rs⟩:=r;have n:=fS h0;go_enter (a6 (upd:=true) func103 AV),ntmps103
 go_wp2_with fail
 go_region_held3 (λW=>W.cell? ⟨w.heap.size,0,none⟩=some (.int .i64 t.op)/\W.cell? ⟨b,off,none⟩=some (.int .i64 lk)/\W.cell? ⟨b,off+1,none⟩=some (.int .i64 ls)/\W.cell? ⟨b,off+2,none⟩=some (.int .i64 a)/\W.cell? ⟨b,off+2+1,none⟩=some (.int .i64 rs))
  ((go_split_ands;refine⟨?_,?_,?_,?_,?_⟩<;>first|(exact(bo.cj d) _ _ _ Co)|(exact sO (sO Co As) As)|(go_keep;done)))
  (first|(go_at_call 126;refine(aiK t.op c (lk,ls) (a,rs) _).mono ?_;rintro e w1 ⟨rfl,d⟩;have f:=g.drew.call d;obtain⟨i,p,m⟩:=f.all))
 have j:Below w.heap.size w w1:=Below.step d h.drew B1;go_wp2_with fail
 exact bodyPost_ret (v:=.tuple #[ee (zg t.op (lk,ls) (a,rs)).1,.bool (zg t.op (lk,ls) (a,rs)).2]) (by simp[results,results103,go_sem,i]) Y ⟨Y,(j.setCell A_ _).setCell A_ _⟩
end
variable{e:List bI}{k m:Nat}{w:aO}
section
attribute [local go_sem ↓] Go.wp_at_zero Go.wp_at_succ
attribute [local go_sem ↓] Go.wp_at_zero Go.wp_at_succ
def nN(bd:List (Int×Int))(st:List (Int×Int))(t:bI):Option (List (Int×Int)):=
 if(operands t.op).2=true/\(operands t.op).1.toNat<=st.length then
  (if(zh t (st.drop (st.length-(operands t.op).1.toNat)) bd).2=true then some (st.take (st.length-(operands t.op).1.toNat)++[(zh t (st.drop (st.length-(operands t.op).1.toNat)) bd).1])else none)
 else none
def mi(bd:List (Int×Int)):List bI->List (Int×Int)->Option (List (Int×Int))
 | [],st=>some st
 |t::r,st=>(nN bd st t).bind (mi bd r)
def gB(e:List bI)(bd:List (Int×Int)):(Int×Int)×Bool:=
 if e.length<1\/20<e.length then((0,0),false)
 else match mi bd e []with
  |some [t]=>(t,true)
  | _=>((0,0),false)
theorem Xv(bd:List (Int×Int))(l:List bI)(t:bI)(st:List (Int×Int)):mi bd (l++[t]) st=(mi bd l st).bind (λs=>nN bd s t):=by induction l generalizing st with|nil=>grind[mi,nN]|cons a r b=>grind[mi,nN]
theorem aiS(bd:List (Int×Int))(l r:List bI)(st:List (Int×Int))(h:mi bd l st=none):mi bd (l++r) st=none:=by induction l generalizing st with|nil=>simp[mi]at h|cons a l b=>grind[mi,nN]
def QD{bd:List (Int×Int)}(hk:k<e.length){st:List (Int×Int)}(h:mi bd (e.take k) []=some st)(hs:nN bd st e[k]=none):mi bd e []=none:=by
 have h1:mi bd (e.take (k+1)) []=none:=by grind[List.take_succ_eq_append_getElem,Xv]
 grind[aiS,List.take_append_drop]
def aiT{bd:List (Int×Int)}(hk:k<e.length){st a:List (Int×Int)}(h:mi bd (e.take k) []=some st)(hs:nN bd st e[k]=some a):mi bd (e.take (k+1)) []=some a:=by grind[List.take_succ_eq_append_getElem,Xv]
def QE{bd:List (Int×Int)}(h:mi bd e []=none):gB e bd=((0,0),false):=by grind[gB]
def aiU{a:Option Addr}(c:∀i(h:i<e.length),∃b off,a=some ⟨b,off,none⟩/\HE w (λj=>w.cell? ⟨b,off+i*4+j,none⟩) e[i])(hk:k<e.length):
 ∃b off,a=some ⟨b,off,none⟩/\w.cell? ⟨b,off+k*4,none⟩=some (.int .i64 e[k].op)/\w.cell? ⟨b,off+k*4+1,none⟩=some (.int .i64 e[k].a)/\w.cell? ⟨b,off+k*4+2,none⟩=some (.int .i64 e[k].v)/\w.cell? ⟨b,off+k*4+3,none⟩=some (.string e[k].s)/\e[k].s.size<=9223372036854775807:=by
 obtain⟨b,off,d,h0,h1,g,h3,f⟩:=c k hk;grind
def Xx(t:bI)(c:Met t.op)(hs:t.s.size<=9223372036854775807)(aQ bd:List (Int×Int))(j:aQ.length<=2)(hn:(operands t.op).1=(aQ.length:Int))(ef a:Value)(w:aO)(i:eP w a bd)(hk:eP w ef aQ):
 Calls (ae prog true) 103 #[qW t,ef,a] w λe w'=>e=.returned (.tuple #[ee (zh t aQ bd).1,.bool (zh t aQ bd).2])/\Below w.heap.size w w':=by
 obtain⟨k,cap,rfl,-,d⟩:=hk;match aQ,j with
 | [],_=>exact aiN t ET hs bd k cap a w i
 | [o],_=>obtain⟨b,off,rfl,h0,h1⟩:=d 0 A_;simp only[Nat.zero_mul,Nat.add_zero]at h0 h1;exact aiO t ET o b off cap a w h0 h1
 | [l,r],_=>obtain⟨b,off,rfl,h0,h1⟩:=d 0 A_;obtain⟨m,n,f,g,h3⟩:=d 1 A_;simp at f;obtain⟨rfl,rfl⟩:=f;simp only[Nat.zero_mul,Nat.one_mul,Nat.add_zero]at h0 h1 g h3;exact aiP t ET l r b off cap a w h0 h1 g h3
def eP.tail{base:Nat}{e:TypeId}{a:Option Addr}{cap:Nat}{st:List (Int×Int)}(h:w.ownsRow base e 2 (.slice a st.length cap) st.length (lJ st))(j:st.length<=9223372036854775807)(m:Nat)(n:m<=st.length):
 eP w (.slice (if cap=m then a else a.map (·.add (m*2))) (st.length-m) (cap-m)) (st.drop m):=by
 refine⟨_,_,by rw[List.length_drop],AA,λi hi=>?_⟩;rw[List.length_drop]at hi;have f:=eP.ER h j;obtain⟨p,cap',d,-,l⟩:=f;simp at d;obtain⟨rfl,rfl⟩:=d;obtain⟨b,off,rfl,h0,h1⟩:=l (m+i) As;have k:¬cap=m:=by
  rcases h.2 with⟨hn,h0⟩|⟨g,c,be,q,_,_,o,_⟩
  .omega
  grind
 rw[if_neg k];refine⟨b,off+m*2,by simp[Addr.add_lit],?_,?_⟩
 .grind
 grind
def aiV(op:Int):∃m:Nat,m<=2/\(operands op).1=m:=by
 unfold operands;split
 .exact⟨0,As,Y⟩
 split
 .exact⟨1,As,Y⟩
 split
 .exact⟨2,As,Y⟩
 .exact⟨0,As,Y⟩
def Xy{bd st:List (Int×Int)}{t:bI}(a:(operands t.op).1=m)(h:¬((operands t.op).2=true/\m<=st.length)):nN bd st t=none:=by simp_all[nN,if_neg]
def aiW{bd st:List (Int×Int)}{t:bI}(a:(operands t.op).1=m)(h1:(operands t.op).2=true)(b:m<=st.length):
 nN bd st t=if(zh t (st.drop (st.length-m)) bd).2=true then some (st.take (st.length-m)++[(zh t (st.drop (st.length-m)) bd).1])else none:=by
 simp_all[nN]
def aiX(e:List bI)(mF:∀t∈e,Met t.op)(bd:List (Int×Int))(iK D:Value)(w:aO)(he:p8 w iK e)(hv:eP w D bd):
 Calls (ae prog true) 68 #[iK,D] w λaK w'=>aK=.returned (.tuple #[ee (gB e bd).1,.bool (gB e bd).2])/\Below w.heap.size w w':=by
 obtain⟨bz,cap,rfl,hl,b9⟩:=he;by_cases hs:e.length<1\/20<e.length
 .have u:Hid (gB e bd=((0,0),false)):=by unfold Hid gB;grind
  rcases hs with hs|hs;all_goals
   go_enter (a6 (upd:=true) func68 AV),ntmps68
   go_wp2
   exact bodyPost_ret (v:=.tuple #[ee (0,0),.bool false]) (by simp[results,results68,go_sem]) Y ⟨by rw[u.out],(Below.refl _ _).alloc AA _⟩
 have h1:1<=e.length:=As;have EV:e.length<=20:=As;have zj:Hid _:=hs;have QG:Hid _:=mF;clear hs mF;go_enter (a6 (upd:=true) func68 AV),ntmps68
 go_wp2
 go_loopw [6,25] (λv i W=>∃(k:Nat)(st:List (Int×Int)),k<=e.length/\i=.int .i64 k/\mi bd (e.take k) []=some st/\st.length<=k/\(∃a c,v=.slice a st.length c)/\W.ownsRow (w.heap.size+1) 118 2 v st.length (lJ st)/\Below w.heap.size w W/\ag W w.heap.size #[.int .i64 0,.int .i64 0] 118)
  (λ_ i _=>e.length-(intOf i).toNat)
 case atStart=>exact⟨0,[],Nat.zero_le _,Y,Y,A_,Br,World.ownsRow_nil _ _ _ _,(Below.refl _ _).alloc AA _,ag.new _ _ _⟩
 case round=>
  obtain⟨k,st,hk,rfl,hrun,aCc,⟨a,c,rfl⟩,c9,hB,p9⟩:=hrel;have H:Hid _:=hrun;have r:Hid (wr.ownsRow (w.heap.size+1) 118 2 (.slice a st.length c) st.length (lJ st)):=c9;have f:Hid _:=hB;have J:Hid (ag wr w.heap.size #[.int .i64 0,.int .i64 0] 118):=p9;clear hrun c9 hB p9;by_cases d:k<e.length
  .obtain⟨b,off,rfl,d0,d1,d2,d3,d4⟩:=aiU b9 d;have C:=bo.cj f.out;have e0:=C _ _ _ d0;have e1:=C _ _ _ d1;have e2:=C _ _ _ d2;have e3:=C _ _ _ d3;have f7:=fS e0;clear C d0 d1 d2 d3;have Xz:=QG.out _ (List.getElem_mem d);generalize hT:e[k]=t at *;have XA:Hid (Met t.op):=Xz;clear Xz;have I:Hid _:=hT;clear hT;go_wp2_with fail
   refine(aiw _ _).mono ?_;rintro aK w1 ⟨rfl,rfl⟩;obtain⟨m,kS,Z⟩:=aiV t.op;have F:Hid _:=Z;have aCd:(operands t.op).1=(m:Int):=Z;clear Z;by_cases dK:(operands t.op).2=true
   .by_cases aiY:m<=st.length
    .have aCe:¬((st.length:Int)<(m:Int)):=by omega
     have Lk:=(ag.new wr #[.int .i64 t.op,.int .i64 t.a,.int .i64 t.v,.string t.s] 32);have XB:Hid _:=aiW (bd:=bd) F.out dK aiY;have me:=(hv.mono nL (bo.cj f.out)).mono nL ((bo.refl wr).alloc (.cells #[.int .i64 t.op,.int .i64 t.a,.int .i64 t.v,.string t.s] 32));have XC:=eP.tail (r.out.alloc (.cells #[.int .i64 t.op,.int .i64 t.a,.int .i64 t.v,.string t.s] 32)) As (st.length-m) As;have oq:(0:Int)<=((st.length-m:Nat):Int):=As;have lL:((st.length-m:Nat):Int)<=(st.length:Int):=As;have HQ:(st.length:Int)-(m:Int)=((st.length-m:Nat):Int):=As;have w5:(st.drop (st.length-m)).length<=2:=by rw[List.length_drop];omega
     have XD:Hid ((operands t.op).1=((st.drop (st.length-m)).length:Int)):=by unfold Hid;rw[F.out,List.length_drop];omega
     have k1:=(bo.refl (wr.alloc (.cells #[.int .i64 t.op,.int .i64 t.a,.int .i64 t.v,.string t.s] 32))).drew;have k2:=((bo.refl (wr.alloc (.cells #[.int .i64 t.op,.int .i64 t.a,.int .i64 t.v,.string t.s] 32))).alloc (.cells #[.int .i64 0,.int .i64 0] 118)).drew;have QH:Hid (∀W,bo (wr.alloc (.cells #[.int .i64 t.op,.int .i64 t.a,.int .i64 t.v,.string t.s] 32)) W->eP W D bd):=λW hk=>me.mono nL hk;have M:Hid (∀W,bo (wr.alloc (.cells #[.int .i64 t.op,.int .i64 t.a,.int .i64 t.v,.string t.s] 32)) W->eP W _ _):=λW hk=>XC.mono nL hk;have rO:Hid _:=k1;have EW:Hid _:=k2;clear me XC k1 k2;generalize A6:(if c=st.length-m then a else a.map (·.add ((st.length-m)*2)))=aCf at M;generalize bE:zh t (st.drop (st.length-m)) bd=R at *;have L:Hid _:=bE;clear bE;have QI:=(ag.new (wr.alloc (.cells #[.int .i64 t.op,.int .i64 t.a,.int .i64 t.v,.string t.s] 32)) #[.int .i64 0,.int .i64 0] 118).drew;rw[show(wr.alloc (.cells #[.int .i64 t.op,.int .i64 t.a,.int .i64 t.v,.string t.s] 32)).heap.size=wr.heap.size+1 by simp]at QI;go_upto_region 11 with fail
     go_cut [12,13] (λp ok W=>∃B,p=.pointer (some ⟨B,0,none⟩)/\ok=.bool R.2/\ag W B #[.int .i64 R.1.1,.int .i64 R.1.2] 118/\Below wr.heap.size wr W/\wr.heap.size<=B)
     case first=>
      go_region_held3 (λW=>W.cell? ⟨wr.heap.size,0,none⟩=some (.int .i64 t.op)/\W.cell? ⟨wr.heap.size,1,none⟩=some (.int .i64 t.a)/\W.cell? ⟨wr.heap.size,2,none⟩=some (.int .i64 t.v)/\W.cell? ⟨wr.heap.size,3,none⟩=some (.string t.s))
       ((go_split_ands;refine⟨?_,?_,?_,?_⟩<;>first|(exact(bo.cj n) _ _ _ Co)|(exact sO (sO Co As) As)|(exact((Lk.drew.call n).alloc _).rules.1 _)|(go_keep;done)))
       (first|(go_at_call 103;refine(Xx t XA.out d4 _ bd w5 XD.out _ D _ (QH.out _ rO.out) (M.out _ rO.out)).mono ?_;rintro aK w2 ⟨rfl,n⟩)|(go_at_call 103;refine(Xx t XA.out d4 _ bd w5 XD.out _ D _ (QH.out _ EW.out) (M.out _ EW.out)).mono ?_;rintro aK w2 ⟨rfl,n⟩;have XE:=QI.call n;obtain⟨aCg,aCh,aCi⟩:=XE.all))
      .go_wp2_with fail
       go_meet
       case rel=>exact⟨_,Y,by rw[L.out],by rw[<-L.out];exact ag.new _ _ _,(Below.step n ((Below.refl _ _).alloc As _).drew A_).alloc (by have:=n.size;simp at this;omega) _,by have:=n.size;simp at this;omega⟩
      .go_wp2_with fail
       go_meet
       case rel=>exact⟨_,Y,by rw[L.out],by rw[<-L.out];exact(XE.set 0 _).set 1 _,(((Below.step n (((Below.refl _ _).alloc As _).alloc A_ _).drew Bg).setCell A_ _).setCell A_ _),As⟩
     case rest=>
      obtain⟨B,rfl,rfl,O,K,aCj⟩:=hcut;have XF:ag wc w.heap.size #[.int .i64 0,.int .i64 0] 118:=J.out.call K;have V:Hid (ag wc w.heap.size #[.int .i64 0,.int .i64 0] 118):=XF;have N:Hid (wc.ownsRow (w.heap.size+1) 118 2 (.slice a st.length c) st.length (lJ st)):=HI r.out K;have q:Hid (Below w.heap.size w wc):=f.out.trans (K.mono f.out.size);have QJ:Hid (∀g,(Value.slice a st.length c).ownBlock=some g->w.heap.size+1<=g/\g<wr.heap.size):=r.out.lt;have XG:Hid (ag wc B #[.int .i64 R.1.1,.int .i64 R.1.2] 118):=O;obtain⟨hcB,aCk,aCl⟩:=O.all;clear O K QH M rO EW QI Lk A6 e0 e1 e2 e3 b9 XF;by_cases Q:R.2=true
      .have QK:Hid (mi bd (e.take (k+1)) []=some (st.take (st.length-m)++[R.1])):=aiT d H.out (by rw[I.out,XB.out,if_pos Q]);have hlen:(st.take (st.length-m)++[R.1]).length=st.length-m+1:=Br;have hq:st.length-m<=20:=As;have qU:=(ag.new wc #[.int .i64 R.1.1,.int .i64 R.1.2] 118).drew;have na:Hid _:=aiq qU;have HOW:Hid (∀g,a=some ⟨g,0,none⟩->(wc.alloc (.cells #[.int .i64 R.1.1,.int .i64 R.1.2] 118)).drew.ownsRow (w.heap.size+1) 118 2 (.slice (some ⟨g,0,none⟩) (st.length-m) c) (st.length-m) (lJ (st.take (st.length-m)))):=by intro g hg;have h1:=N.out;rw[hg]at h1;have h2:=Xg h1 (st.length-m) As;rw[aio]at h2;exact(h2.alloc _).drew
       clear qU;rcases N.out.2 with⟨j,kT⟩|⟨g,cap',be,j,QL,S,QF,-⟩
       .have hst:st=[]:=Br;subst hst;simp at j;obtain⟨rfl,rfl⟩:=j;have Lp:m=0:=Br;subst Lp;have X:Hid _:=World.ownsRow_nil (wc.alloc (.cells #[.int .i64 R.1.1,.int .i64 R.1.2] 118)).drew (w.heap.size+1) 118 2;clear N HOW QJ;have y:(wc.alloc (.cells #[.int .i64 R.1.1,.int .i64 R.1.2] 118)).drew.heap.size=wc.heap.size+1:=A_;have z:w.heap.size+1<=(wc.alloc (.cells #[.int .i64 R.1.1,.int .i64 R.1.2] 118)).drew.heap.size:=JC;have P:Hid _:=y;have U:Hid _:=z;clear y z;go_upto_region 14 with fail
        go_region_held3 (λW=>W.cell? ⟨B,0,none⟩=some (.int .i64 R.1.1)/\W.cell? ⟨B,1,none⟩=some (.int .i64 R.1.2))
         ((go_split_ands;refine⟨?_,?_⟩<;>first|(exact((XG.out.alloc _).drew.grown h (λg' E=>by simp[Value.ownBlock]at E)).rules.1 _)|(go_keep;done)))
         ((refine Lg Qv _ Bo _ _ Bo (w.heap.size+1) _ _ _ Bo X.out wc.heap.size 1 1 _ Bo Y na.out (Xi _ _) As As As U.out (wc.heap.size+1) P.out ?_;intro fh T o HR h HS EY))
        have s:=q.out.alloc JC (.cells #[.int .i64 R.1.1,.int .i64 R.1.2] 118);have HT:Hid (Below w.heap.size w o):=s.drew.grown h (by have:=q.out.size;simp;omega) (λk' c8=>by simp[Value.ownBlock]at c8);have QM:Hid (ag o w.heap.size #[.int .i64 0,.int .i64 0] 118):=(V.out.alloc _).drew.grown h (λg' E=>by simp[Value.ownBlock]at E);have QN:Hid (o.ownsRow (w.heap.size+1) 118 2 (.slice (some ⟨fh,0,none⟩) 1 T) [R.1].length (lJ [R.1])):=by grind[lJ]
        clear s h HR HS EY;go_wp2_with fail
        go_roundw
        case rel=>
         exact⟨k+1,[R.1],As,by go_num,by simpa using QK.out,A_,AA,QN.out,HT.out,QM.out⟩
        case measure=>simp[intOf];omega
       .simp at j;obtain⟨rfl,rfl⟩:=j;have XH:=HOW.out g Y;have X:Hid _:=XH;have aiZ:=QJ.out g Y;have sQ:((st.length-m:Nat):Int)<=(c:Int):=As;clear XH S N HOW QJ;have y:(wc.alloc (.cells #[.int .i64 R.1.1,.int .i64 R.1.2] 118)).drew.heap.size=wc.heap.size+1:=A_;have z:w.heap.size+1<=(wc.alloc (.cells #[.int .i64 R.1.1,.int .i64 R.1.2] 118)).drew.heap.size:=As;have P:Hid _:=y;have U:Hid _:=z;clear y z;go_upto_region 14 with fail
        go_region_held3 (λW=>W.cell? ⟨B,0,none⟩=some (.int .i64 R.1.1)/\W.cell? ⟨B,1,none⟩=some (.int .i64 R.1.2))
         ((go_split_ands;refine⟨?_,?_⟩<;>first|(exact((XG.out.alloc _).drew.grown h (λg' E=>Hj)).rules.1 _)|(go_keep;done)))
         ((refine Lg Qv _ Bo _ _ Bo (w.heap.size+1) _ _ _ Bo X.out wc.heap.size 1 1 _ Bo Y na.out (Xi _ _) As As As U.out (wc.heap.size+1) P.out ?_;intro fh T o HR h HS EY))
        have s:=q.out.alloc AA (.cells #[.int .i64 R.1.1,.int .i64 R.1.2] 118);have HT:Hid (Below w.heap.size w o):=s.drew.grown h (by have:=q.out.size;simp;omega) (λk' c8=>Hj);have QM:Hid (ag o w.heap.size #[.int .i64 0,.int .i64 0] 118):=(V.out.alloc _).drew.grown h (λg' E=>Hj);have QN:Hid (o.ownsRow (w.heap.size+1) 118 2 (.slice (some ⟨fh,0,none⟩) (st.length-m+1) T) (st.take (st.length-m)++[R.1]).length (lJ (st.take (st.length-m)++[R.1]))):=by grind[ain]
        clear s h HR HS EY;go_wp2_with fail
        go_roundw
        case rel=>
         exact⟨k+1,st.take (st.length-m)++[R.1],As,by go_num,QK.out,AA,AA,QN.out,HT.out,QM.out⟩
        case measure=>simp[intOf];omega
      .have XI:R.2=false:=by simp_all
       have A:Hid (gB e bd=((0,0),false)):=QE (QD d H.out (by rw[I.out,XB.out,if_neg Q]));clear Q;obtain⟨l,bQ,x⟩:=V.out.all;go_wp2_with fail
       exact bodyPost_ret (v:=.tuple #[ee (0,0),.bool false]) HX Y ⟨by rw[A.out],(q.out.setCell A_ _).setCell A_ _⟩
    .have A:Hid (gB e bd=((0,0),false)):=QE (QD d H.out (by rw[I.out];exact Xy F.out As));obtain⟨l,bQ,x⟩:=J.out.all;go_wp2_with fail
     exact bodyPost_ret (v:=.tuple #[ee (0,0),.bool false]) (by simp[results,results68,go_sem,l,x]) Y ⟨by rw[A.out],((f.out.setCell A_ _).setCell A_ _).alloc Fz _⟩
   .have aCm:(operands t.op).2=false:=by simp_all
    have A:Hid (gB e bd=((0,0),false)):=QE (QD d H.out (by rw[I.out];exact Xy F.out Br));clear dK;obtain⟨l,bQ,x⟩:=J.out.all;go_wp2_with fail
    exact bodyPost_ret (v:=.tuple #[ee (0,0),.bool false]) (by simp[results,results68,go_sem,l,x]) Y ⟨by rw[A.out],((f.out.setCell A_ _).setCell A_ _).alloc Fz _⟩
  .have QO:e.take k=e:=AA;have QP:Hid (mi bd e []=some st):=AA;obtain⟨l,bQ,x⟩:=J.out.all;by_cases XJ:st.length=1
   .obtain⟨t,rfl⟩:∃t,st=[t]:=List.length_eq_one_iff.1 XJ;have u:Hid (gB e bd=(t,true)):=by simp_all[Hid,gB]
    rcases r.out.2 with⟨-,kT⟩|⟨g,cap',be,j,QL,S,-⟩
    .grind
    .simp at j;obtain⟨rfl,rfl⟩:=j;have A7:=qV r.out 0 (.int .i64 t.1) (by simp[lJ]);have ki:=qV r.out 1 (.int .i64 t.2) (by simp[lJ]);clear S QO XJ;go_wp2_with fail
     exact bodyPost_ret (v:=.tuple #[ee t,.bool true]) HX Y ⟨by rw[u.out],(f.out.setCell A_ _).setCell A_ _⟩
   .have u:Hid (gB e bd=((0,0),false)):=by unfold Hid gB;rw[if_neg zj.out,QP.out];grind
    have A8:((st.length:Int)==1)=false:=AA;go_wp2_with fail
    exact bodyPost_ret (v:=.tuple #[ee (0,0),.bool false]) HX Y ⟨by rw[u.out],(f.out.setCell A_ _).setCell A_ _⟩
end
section
attribute [local go_sem ↓] Go.wp_at_zero Go.wp_at_succ
abbrev XU(n:lI)(iK cW kR b4:Value):Value:=.agg #[.int .i64 n.op,.int .i64 n.a,.int .i64 n.b,iK,cW,kR,b4]
attribute [local go_sem ↓] Go.wp_at_zero Go.wp_at_succ
def ajf{a:Value}{es:List (List bI)}(h:Qq w a es)(hk:k<es.length):
 ∃b off cap v,a=.slice (some ⟨b,off,none⟩) es.length cap/\b<w.heap.size/\w.cell? ⟨b,off+k,none⟩=some v/\p8 w v es[k]:=by
 obtain⟨f,cap,rfl,e,d⟩:=h;obtain⟨b,off,rfl,v,h0,c⟩:=d k hk;simp at h0;exact⟨b,off,cap,v,Y,fS h0,h0,c⟩
def zo(w':aO)(e:Ending)(o:Option (List (Int×Int))):Prop:=
 match o with
 |some l=>∃v,e=.returned (.tuple #[v,.bool true])/\eP w' v l/\e7 118 w' v
 |none=>∃v,e=.returned (.tuple #[v,.bool false])
@[simp] theorem aCs (a:Array Value) (w:aO):Sem.run (ae prog true) (callFunc 47 a) w=.ok (.enter 47 a) w:=cB (a6 (upd:=true) func47 AV) AV a w
def w9(n:lI)(bd:List (Int×Int)):Bool:=(gB (n.mh.getD 0 []) bd).2&&((gB (n.mh.getD 0 []) bd).1.1==4)
def ajg(n:lI)(i cW h r f:Value)(bd:List (Int×Int))(w:aO)(hn:wY w i cW h r n)(h1:0<n.mh.length)(mF:∀t∈n.mh.getD 0 [],Met t.op)(l:eP w f bd):
 Calls (ae prog true) 47 #[XU n i cW h r,f] w λe w'=>e=.returned (.tuple #[f,.bool (w9 n bd)])/\Below w.heap.size w w':=by
 obtain⟨b,off,cap,K,rfl,I,p,j⟩:=ajf hn.mh (k:=0) As;obtain⟨_,_,v,z,A,nJ,aa,y,-,rfl,rfl,rfl⟩:=hn.shape;simp only[Nat.add_zero]at p;obtain⟨E,H,rfl,-⟩:=l.shape;obtain⟨B,J,rfl,-⟩:=j.shape;have d:=(bo.refl w).alloc (.cells #[.int .i64 n.op,.int .i64 n.a,.int .i64 n.b,.slice (some ⟨b,off,none⟩) n.mh.length cap,.slice v n.EP.length z,.slice A n.others.length nJ,.slice aa n.EQ.length y] 49);have m:=a8.mono p7 d j;have a:=a8.mono nL d l;have o:n.mh.getD 0 []=n.mh[0]:=AA;have D:Hid (∀t∈n.mh[0],Met t.op):=o▸mF;have u:Hid (w9 n bd=((gB n.mh[0] bd).2&&((gB n.mh[0] bd).1.1==4))):=by grind[Hid,w9]
 have F:(0:Int)<(n.mh.length:Int):=As;clear o d hn mF;generalize q:gB n.mh[0] bd=R at *;have x:Hid _:=q;clear q;go_enter (a6 (upd:=true) func47 AV),ntmps47
 go_wp2_with fail
 refine(aiX _ D.out bd _ _ _ m a).mono ?_;rintro e w1 ⟨rfl,s⟩;rw[x.out];have c:Hid (Below w.heap.size w w1):=Below.step s ((Below.refl _ _).alloc A_ _) A_;clear s m a p;by_cases g:R.2=true
 .go_wp2_with fail
  go_quiet (fail)
  go_wp2_with fail
  go_ret2
  exact⟨by rw[u.out,g];simp,below_drewN (c.out.alloc Gm _) _⟩
 .have C:R.2=false:=by grind
  clear g;go_wp2_with fail
  go_quiet (fail)
  go_wp2_with fail
  go_ret2
  exact⟨by rw[u.out,C];simp,below_drewN (c.out.alloc Gm _) _⟩
def ajh(n:lI)(c cW b f a:Value)(bd:List (Int×Int))(w:aO)(hn:wY w c cW b f n)(h1:0<n.mh.length)(mF:∀t∈n.mh.getD 0 [],Met t.op)(h:eP w a bd)(i:e7 118 w a):
 Calls (ae prog true) 47 #[XU n c cW b f,a] w λe w'=>zo w' e (if w9 n bd=true then some bd else none)/\Below w.heap.size w w':=by
 refine(ajg n c cW b f a bd w hn h1 mF h).mono ?_;rintro e w1 ⟨rfl,g⟩;refine⟨?_,g⟩;by_cases d:w9 n bd=true
 .rw[if_pos d,d];exact⟨_,Y,a8.mono nL (bo.cj g) h,i.call g⟩
 .rw[if_neg d];exact⟨a,AA⟩
end
variable{o:Option (List (Int×Int))}{v:Value}
section
attribute [local go_sem ↓] Go.wp_at_zero Go.wp_at_succ
def XV(w:aO)(rd:Nat->Option Value)(x:List (Int×Int)):Prop:=∃v,rd 0=some v/\eP w v x
def aji:o8 XV:=λ_ _ _ _ _ hk a⟨v,h0,h⟩=>⟨v,a _ _ h0,h.mono nL hk⟩
abbrev E5(w:aO):=a8 w 1 XV
attribute [local go_sem ↓] Go.wp_at_zero Go.wp_at_succ
def HY(w:aO)(v:Value)(ok:Bool)(o:Option (List (Int×Int))):Prop:=
 match o with
 |some l=>ok=true/\eP w v l/\e7 118 w v
 |none=>ok=false
theorem zo.shape{e:Ending}(h:zo w e o):∃v ok,e=.returned (.tuple #[v,.bool ok])/\HY w v ok o:=by
 cases o with
 |none=>obtain⟨v,h⟩:=h;exact⟨v,false,h,Y⟩
 |some l=>obtain⟨v,h,a⟩:=h;exact⟨v,true,h,Y,a⟩
def HY.ret{ok:Bool}(h:HY w v ok o):zo w (.returned (.tuple #[v,.bool ok])) o:=by cases o with|none=>simp[HY]at h;subst h;exact⟨v,Y⟩|some l=>obtain⟨h,a⟩:=h;subst h;exact⟨v,Y,a⟩
def ajj{cJ:List (List (Int×Int))}(h:E5 w v cJ)(hk:k<cJ.length):
 ∃b off cap a c,v=.slice (some ⟨b,off,none⟩) cJ.length cap/\b<w.heap.size/\w.cell? ⟨b,off+k,none⟩=some (.slice a cJ[k].length c)/\eP w (.slice a cJ[k].length c) cJ[k]:=by
 obtain⟨g,cap,rfl,f,e⟩:=h;obtain⟨b,off,rfl,v,h0,d⟩:=e k hk;simp at h0;obtain⟨a,c,rfl,-⟩:=d.shape;exact⟨b,off,cap,a,c,Y,fS h0,h0,d⟩
def ajk{ts:List (List aA)}(h:A4 w v ts)(hk:k<ts.length):
 ∃b off cap a c,v=.slice (some ⟨b,off,none⟩) ts.length cap/\b<w.heap.size/\w.cell? ⟨b,off+k,none⟩=some (.slice a ts[k].length c)/\m8 w (.slice a ts[k].length c) ts[k]:=by
 obtain⟨g,cap,rfl,f,e⟩:=h;obtain⟨b,off,v,rfl,h0,d⟩:=XQ e hk;obtain⟨a,c,rfl,-⟩:=d.shape;exact⟨b,off,cap,a,c,Y,fS h0,h0,d⟩
def ajl(bs p:Nat)(b:Int)(ef:Value)(ts:List (List aA))(d f i aa:Option Addr)(le lk lo nc ce h nJ g:Nat)(w:aO)(x:w.cell? ⟨bs,0,none⟩=some ef)(ht:A4 w ef ts)(s:p<ts.length)(A:ts[p].length<=8):
 Calls (ae prog true) 37 #[.pointer (some ⟨bs,0,none⟩),.agg #[.int .i64 1,.int .i64 p,.int .i64 b,.slice d le ce,.slice f lk h,.slice i lo nJ,.slice aa nc g]] w λe w'=>zo w' e (some (jn ts[p]))/\Below w.heap.size w w':=by
 obtain⟨m,k,ct,a,c,rfl,D,B,q⟩:=ajk ht s;have C:=fS x;have y:(0:Int)<=(p:Int):=As;have z:(p:Int)<(ts.length:Int):=As;have n:=((bo.refl w).alloc (.cells #[.int .i64 1,.int .i64 p,.int .i64 b,.slice d le ce,.slice f lk h,.slice i lo nJ,.slice aa nc g] 49)).drew;have o:=a8.mono rM n q;have HC:Hid _:=o;have l:=((Below.refl w.heap.size w).alloc J1 (.cells #[.int .i64 1,.int .i64 p,.int .i64 b,.slice d le ce,.slice f lk h,.slice i lo nJ,.slice aa nc g] 49)).drew;have v:Hid _:=l;clear n q o ht l;go_enter (a6 (upd:=true) func37 AV),ntmps37
 go_wp2_with fail
 go_region_held3 (λW=>W.cell? ⟨bs,0,none⟩=some (.slice (some ⟨m,k,none⟩) ts.length ct)/\W.cell? ⟨w.heap.size,1,none⟩=some (.int .i64 p)/\W.cell? ⟨m,k+p,none⟩=some (.slice a ts[p].length c))
  ((go_split_ands;refine⟨?_,?_,?_⟩<;>first|(exact(bo.cj j) _ _ _ AA)|(go_keep;done)))
  (first|(go_at_call 46;refine(ajd ts[p] _ _ HC.out As).mono ?_;rintro e w1 ⟨v1,rfl,r,u,j⟩))
 have t:Hid (Below w.heap.size w w1):=Below.step j v.out A_;clear j;go_wp2_with fail
 go_ret2
 exact⟨⟨_,Y,r,u⟩,t.out⟩
def ajm(bs p:Nat)(b:Int)(es:List (List bI))(ks os:List Int)(d:List (Int×Int))(dV:Value)(cJ:List (List (Int×Int)))(y cW u A:Value)(w:aO)(hn:wY w y cW u A ⟨2,p,b,es,ks,os,d⟩)(F:w.cell? ⟨bs,2,none⟩=some dV)(ht:E5 w dV cJ)(J:p<cJ.length)(h1:0<es.length)(mF:∀t∈es.getD 0 [],Met t.op)(C:∀b off cap v,dV=.slice (some ⟨b,off,none⟩) cJ.length cap->w.cell? ⟨b,off+p,none⟩=some v->e7 118 w v):
 Calls (ae prog true) 37 #[.pointer (some ⟨bs,0,none⟩),.agg #[.int .i64 2,.int .i64 p,.int .i64 b,y,cW,u,A]] w λe w'=>zo w' e (if w9 ⟨2,p,b,es,ks,os,d⟩ cJ[p]=true then some cJ[p]else none)/\Below w.heap.size w w':=by
 obtain⟨z,s,ct,a,c,rfl,R,L,pg⟩:=ajj ht J;have Q:=fS F;have O:(0:Int)<=(p:Int):=As;have P:(p:Int)<(cJ.length:Int):=As;obtain⟨f,ce,g,i,j,nJ,aa,h,rfl,rfl,rfl,rfl⟩:=hn.shape;simp only at hn;have k:=((bo.refl w).alloc (.cells #[.int .i64 2,.int .i64 p,.int .i64 b,.slice f es.length ce,.slice g ks.length i,.slice j os.length nJ,.slice aa d.length h] 49)).drew;have D:=a8.mono nL k pg;have x:=hn.mono k;have HC:Hid (eP _ _ cJ[p]):=D;have n:Hid (e7 118 _ _):=(C _ _ _ _ Y L).call (((Below.refl w.heap.size w).alloc J1 (.cells #[.int .i64 2,.int .i64 p,.int .i64 b,.slice f es.length ce,.slice g ks.length i,.slice j os.length nJ,.slice aa d.length h] 49)).drew);have H:Hid _:=x;have N:Hid _:=((Below.refl w.heap.size w).alloc J1 (.cells #[.int .i64 2,.int .i64 p,.int .i64 b,.slice f es.length ce,.slice g ks.length i,.slice j os.length nJ,.slice aa d.length h] 49)).drew;have M:Hid (∀t∈(⟨2,p,b,es,ks,os,d⟩:lI).mh.getD 0 [],Met t.op):=mF;clear mF C k pg D ht hn x;generalize r:(if w9 ⟨2,p,b,es,ks,os,d⟩ cJ[p]=true then some cJ[p]else none)=o;have I:Hid _:=r;clear r;go_enter (a6 (upd:=true) func37 AV),ntmps37
 go_wp2_with fail
 go_region_held3 (λW=>W.cell? ⟨bs,2,none⟩=some (.slice (some ⟨z,s,none⟩) cJ.length ct)/\W.cell? ⟨w.heap.size,0,none⟩=some (.int .i64 2)/\W.cell? ⟨w.heap.size,1,none⟩=some (.int .i64 p)/\W.cell? ⟨w.heap.size,2,none⟩=some (.int .i64 b)/\W.cell? ⟨w.heap.size,3,none⟩=some (.slice f es.length ce)/\W.cell? ⟨w.heap.size,4,none⟩=some (.slice g ks.length i)/\W.cell? ⟨w.heap.size,5,none⟩=some (.slice j os.length nJ)/\W.cell? ⟨w.heap.size,6,none⟩=some (.slice aa d.length h)/\W.cell? ⟨z,s+p,none⟩=some (.slice a cJ[p].length c))
  ((go_split_ands;refine⟨?_,?_,?_,?_,?_,?_,?_,?_,?_⟩<;>first|(exact(bo.cj q) _ _ _ Co)|(go_keep;done)))
  (first|(go_at_call 47;refine(ajh ⟨2,p,b,es,ks,os,d⟩ _ _ _ _ _ cJ[p] _ H.out h1 M.out HC.out n.out).mono ?_;rintro e w1 ⟨E,q⟩;obtain⟨v1,m,rfl,B⟩:=zo.shape E))
 have K:Hid (Below w.heap.size w w1):=Below.step q N.out A_;have l:Hid (HY w1 v1 m _):=B;clear q E B;go_wp2_with fail
 go_ret2
 exact⟨by rw[<-I.out];exact l.out.ret,K.out⟩
end
end bN
open RowKit av bN
variable{w w' w0 w2:aO}{aY cW dV ef v:Value}{b bs cap g n q size:Nat}{cs:Array Value}{T e:TypeId}{ts:List (List aA)}{ns:List lI}{cJ:List (List (Int×Int))}{aQ:List Bool}{vals xs:List Value}
section
attribute [local go_sem ↓] Go.wp_at_zero Go.wp_at_succ
attribute [local go_sem ↓] Go.wp_at_zero Go.wp_at_succ
def ints_at{l:List Int}(h:jC w v l){k:Nat}(hk:k<l.length):
 ∃b off cap,v=.slice (some ⟨b,off,none⟩) l.length cap/\b<w.heap.size/\w.cell? ⟨b,off+k,none⟩=some (.int .i64 l[k]):=by
 obtain⟨d,cap,rfl,c,a⟩:=h;obtain⟨b,off,rfl,h0⟩:=a k hk;simp[tD]at h0;exact⟨b,off,cap,Y,fS h0,h0⟩
def jC.box(h:ag w b cs T)(xs:List Int)(cap:Nat)(a:xs.length<=9223372036854775807)(c:∀i(h:i<xs.length),cs[i]?=some (.int .i64 xs[i])):jC w (.slice (some ⟨b,0,none⟩) xs.length cap) xs:=
 ⟨_,cap,Y,a,λi hi=>⟨b,0,Y,by simp[tD];rw[h.rules.1 i];grind⟩⟩
structure Ly(w:aO)(bs:Nat)(ef aY dV cW:Value)(ts:List (List aA))(ns:List lI)(cJ:List (List (Int×Int)))(aQ:List Bool):Prop where
 cX:w.cell? ⟨bs,0,none⟩=some ef
 c1:w.cell? ⟨bs,1,none⟩=some aY
 cr:w.cell? ⟨bs,2,none⟩=some dV
 dm:w.cell? ⟨bs,3,none⟩=some cW
 zq:A4 w ef ts
 nodes:HF w aY ns
 types:E5 w dV cJ
 taken:HD w cW aQ
theorem Ly.mono(hk:bo w w')(h:Ly w bs ef aY dV cW ts ns cJ aQ):Ly w' bs ef aY dV cW ts ns cJ aQ:=
 ⟨hk _ _ _ h.cX,hk _ _ _ h.c1,hk _ _ _ h.cr,hk _ _ _ h.dm,h.zq.mono Lc hk,h.nodes.mono Qr hk,h.types.mono aji hk,h.taken.mono Qm hk⟩
def H0(h:ag w b cs T):w.shape? b=some (T,cs.size):=by grind[ag,World.shape?]
def e7.ne{a:TypeId}{off c:Nat}(h:e7 T w (.slice (some ⟨b,off,none⟩) n c))(hg:ag w g cs a)(d:T≠a):b≠g:=by rintro rfl;obtain⟨k,hk⟩:=h _ _ _ _ Y;rw[H0 hg]at hk;grind
theorem a8.typed{al:Type}{d:Nat}{R:aO->(Nat->Option Value)->al->Prop}{xs:List al}(h:a8 w d R v xs)(l:∀rd a x,(∀j,a j=rd j)->R w rd x->R w' a x)(hk:∀b off n c,v=.slice (some ⟨b,off,none⟩) n c->∀o,w'.cell? ⟨b,o,none⟩=w.cell? ⟨b,o,none⟩):a8 w' d R v xs:=by
 obtain⟨f,cap,rfl,e,g⟩:=h;refine⟨f,cap,Y,e,λi hi=>?_⟩;obtain⟨b,off,rfl,k⟩:=g i hi;grind
def eP.xc{l:List (Int×Int)}(h:eP w v l)(hk:∀b off n c,v=.slice (some ⟨b,off,none⟩) n c->w'.heap[b]?=w.heap[b]?):eP w' v l:=by refine a8.typed h ?_ (λb off n c e o=>World.cell?_of_block (w:=w) AA);intro rd f x d a;exact⟨by rw[d];exact a.1,by rw[d];exact a.2⟩
def jC.xc{l:List Int}(h:jC w v l)(hk:∀b off n c,v=.slice (some ⟨b,off,none⟩) n c->w'.heap[b]?=w.heap[b]?):jC w' v l:=by grind[a8.typed,World.cell?_of_block,tD]
def e7.xc(h:e7 T w v)(hk:∀b off n c,v=.slice (some ⟨b,off,none⟩) n c->w'.heap[b]?=w.heap[b]?):e7 T w' v:=by intro b off n c e;obtain⟨k,a⟩:=h b off n c e;grind[World.shape?]
structure Own(w0 w:aO)(bs:Nat)(ef aY dV cW:Value)(ts:List (List aA))(ns:List lI)(cJ:List (List (Int×Int)))(aQ:List Bool)(vals:List Value):Prop where
 below:Below w0.heap.size w0 w
 zq:A4 w0 ef ts
 nodes:HF w0 aY ns
 E6:w0.heap.size<=bs
 box:ag w bs #[ef,aY,dV,cW] 88
 ph:w.ownsRow w0.heap.size 83 1 dV cJ.length vals
 qa:w.ownsRow w0.heap.size 4 1 cW aQ.length (aQ.map .bool)
 small:cJ.length<=1000
 Lz:aQ.length<=1000
 each:∀j(h:j<cJ.length),∃v,vals[j]?=some v/\eP w v cJ[j]/\e7 118 w v
def HD.ER{base:Nat}{l:List Bool}(h:w.ownsRow base e 1 v l.length (l.map .bool))(a:l.length<=9223372036854775807):HD w v l:=by
 have b:=h;rcases b.2 with⟨rfl,h0⟩|⟨g,cap,be,rfl,c⟩
 .grind[a8.nil]
 .refine⟨_,cap,Y,a,λi hi=>⟨g,0,Y,?_⟩⟩;simp[ze];grind[qV]
def E5.ER{base:Nat}{l:List (List (Int×Int))}(h:w.ownsRow base e 1 v l.length vals)(b:l.length<=9223372036854775807)(c:∀j(h:j<l.length),∃v,vals[j]?=some v/\eP w v l[j]):E5 w v l:=by
 have d:=h;rcases d.2 with⟨rfl,h0⟩|⟨g,cap,be,rfl,a⟩
 .grind[a8.nil]
 .refine⟨_,cap,Y,b,λi hi=>⟨g,0,Y,?_⟩⟩;obtain⟨u,f,a⟩:=c i hi;refine⟨u,?_,a⟩;simp;grind[qV]
def Own.ajq(h:Own w0 w bs ef aY dV cW ts ns cJ aQ vals):Ly w bs ef aY dV cW ts ns cJ aQ:=by have e:=h.box.rules.1;have c:=bo.cj h.below;have hs:=h.small;have f:=h.Lz;exact⟨AA,AA,AA,AA,h.zq.mono Lc c,h.nodes.mono Qr c,E5.ER h.ph As (λj d=>let⟨v,a,b,_⟩:=h.each j d;⟨v,a,b⟩),HD.ER h.qa As⟩
theorem Own.call(h:Own w0 w bs ef aY dV cW ts ns cJ aQ vals)(d:Below w.heap.size w w'):Own w0 w' bs ef aY dV cW ts ns cJ aQ vals:=
 ⟨h.below.trans (d.mono h.below.size),h.zq,h.nodes,h.E6,h.box.call d,HI h.ph d,HI h.qa d,h.small,h.Lz,λj e=>let⟨v,a,b,c⟩:=h.each j e;⟨v,a,a8.mono nL (bo.cj d) b,c.call d⟩⟩
theorem LA{base:Nat}(h:w.ownsRow base e 1 (.slice (some ⟨g,0,none⟩) n cap) n xs)(i:q<n)(u:Value):(w.setCell ⟨g,q,none⟩ u).ownsRow base e 1 (.slice (some ⟨g,0,none⟩) n cap) n (xs.set q u):=by
 obtain⟨j,f⟩:=h;rcases f with⟨h0,_⟩|⟨g',cap',be,a,d,hg,c,b,hs,ht⟩
 .grind
 .simp at a;obtain⟨rfl,rfl⟩:=a;refine⟨AA,.inr ⟨g,cap,be.setIfInBounds q u,Y,d,?_,c,b,AA,?_⟩⟩
  .exact ag.set (show ag w g be e from hg) q u
  .rw[Array.toList_setIfInBounds,List.take_set,ht]
def Own.take{gk rQ k:Nat}(h:Own w0 w bs ef aY dV (.slice (some ⟨gk,0,none⟩) rQ k) ts ns cJ aQ vals)(hq:q<aQ.length):
 Own w0 (w.setCell ⟨gk,q,none⟩ (.bool true)) bs ef aY dV (.slice (some ⟨gk,0,none⟩) rQ k) ts ns cJ (aQ.set q true) vals:=by
 have hok:=h.qa;have i:rQ=aQ.length:=by
  rcases hok.2 with⟨h0,_⟩|⟨g,c,be,h0,_⟩
  .grind
  grind
 subst i;obtain⟨f,t⟩:=hok.lt gk Y;obtain⟨be,l⟩:∃be,ag w gk be 4:=by
  rcases hok.2 with⟨h0,_⟩|⟨g,c,be,h0,_,hg,_⟩
  .grind
  .simp only[Value.slice.injEq,Option.some.injEq,Addr.mk.injEq,and_true]at h0;obtain⟨rfl,-,-⟩:=h0;exact⟨be,hg⟩
 have o:∀{T:TypeId}{v:Value},e7 T w v->T≠4->∀b off n c,v=.slice (some ⟨b,off,none⟩) n c->(w.setCell ⟨gk,q,none⟩ (.bool true)).heap[b]?=w.heap[b]?:=by intro T v m s b off n c e;subst e;exact Below.heap_setCell _ _ _ _ (m.ne l s)
 refine⟨h.below.setCell f _,h.zq,h.nodes,h.E6,?_,?_,?_,h.small,by simpa using h.Lz,?_⟩
 .refine h.box.iA ?_ _;rintro rfl;have h1:=H0 h.box;rw[H0 l]at h1;grind
 .refine⟨h.ph.1,?_⟩;rcases h.ph.2 with hn|⟨g,cap,d,e,r,hg,rest⟩
  .grind
  .refine .inr ⟨g,cap,d,e,r,?_,rest⟩;rw[Below.heap_setCell _ _ _ _ (show g≠gk from ?_)]
   .exact hg
   .rintro rfl;grind[ag]
 .grind[LA,List.map_set]
 .intro j p;obtain⟨v,a,b,c⟩:=h.each j p;exact⟨v,a,b.xc AA,c.set _ _⟩
def aju{base:Nat}(h:w.ownsRow base e size (.slice (some ⟨g,0,none⟩) n cap) n xs):∃be,ag w g be e:=by
 rcases h.2 with⟨h0,_⟩|⟨g',c,be,h0,_,hg,_⟩
 .grind
 .simp only[Value.slice.injEq,Option.some.injEq,Addr.mk.injEq,and_true]at h0;obtain⟨rfl,-,-⟩:=h0;exact⟨be,hg⟩
theorem vz{base:Nat}(h:w.ownsRow base e size v n xs)(hg:v.ownBlock=some g):∃be,ag w g be e:=by
 rcases h.2 with⟨rfl,_⟩|⟨g',c,be,rfl,_,a,_⟩
 .simp[Value.ownBlock]at hg
 .simp[Value.ownBlock]at hg;subst hg;exact⟨be,a⟩
def ag.ne{a:Nat}{e i:Array Value}{d c:TypeId}(g:ag w a e d)(f:ag w b i c)(h:d≠c):a≠b:=by rintro rfl;have:=H0 g;rw[H0 f]at this;grind
theorem E7{base:Nat}(h:w.ownsRow base e size v n xs)(hk:∀g,v.ownBlock=some g->w'.heap[g]?=w.heap[g]?):w'.ownsRow base e size v n xs:=by
 refine⟨h.1,?_⟩;rcases h.2 with hn|⟨g,cap,be,rfl,a,b,rest⟩
 .grind
 .exact .inr ⟨g,cap,be,Y,a,by rw[hk g Y];grind,rest⟩
def Own.ajv(h:Own w0 w bs ef aY dV cW ts ns cJ aQ vals){v1:Value}{l:List (Int×Int)}(p:eP w v1 l)(q:e7 118 w v1)(y:cJ.length+1<=1000)(J:w2.ownsRow w0.heap.size 83 1 (.slice (some ⟨g,0,none⟩) (cJ.length+1) cap) (cJ.length+1) (vals++[v1]))(o:(w.alloc (.cells #[v1] 83)).grownBy w2 dV.ownBlock):
 Own w0 (w2.setCell ⟨bs,2,none⟩ (.slice (some ⟨g,0,none⟩) (cJ.length+1) cap)) bs ef aY (.slice (some ⟨g,0,none⟩) (cJ.length+1) cap) cW ts ns (cJ++[l]) aQ (vals++[v1]):=by
 have h1:=h.call ((Below.refl w.heap.size w).alloc AA (.cells #[v1] 83));have H:eP (w.alloc (.cells #[v1] 83)) v1 l:=a8.mono nL ((bo.refl w).alloc _) p;have K:e7 118 (w.alloc (.cells #[v1] 83)) v1:=q.call ((Below.refl w.heap.size w).alloc AA _);generalize w.alloc (.cells #[v1] 83)=w1 at *;clear h p q;have B:∀k,dV.ownBlock=some k->w0.heap.size<=k:=λk hk=>(h1.ph.lt k hk).1;have x:Below w0.heap.size w0 w2:=h1.below.grown o h1.below.size B;have hst:∀{T:TypeId}{b:Nat}{cs:Array Value},ag w1 b cs T->T≠83->w2.heap[b]?=w1.heap[b]?:=by intro T b cs i m;refine o.block b i.lt (λe=>?_);obtain⟨be,f⟩:=vz h1.ph e.symm;exact i.ne f m Y
 have s:ag w2 bs #[ef,aY,dV,cW] 88:=by have:=hst h1.box Ae;unfold ag;rw[this];exact h1.box
 have E:∀{T:TypeId}{b:Nat}{cs:Array Value},ag w2 b cs T->T≠88->(w2.setCell ⟨bs,2,none⟩ (.slice (some ⟨g,0,none⟩) (cJ.length+1) cap)).heap[b]?=w2.heap[b]?:=by intro T b cs i m;exact Below.heap_setCell _ _ _ _ (i.ne s m)
 have pg:∀{v:Value}{l:List (Int×Int)},eP w1 v l->e7 118 w1 v->eP (w2.setCell ⟨bs,2,none⟩ (.slice (some ⟨g,0,none⟩) (cJ.length+1) cap)) v l/\e7 118 (w2.setCell ⟨bs,2,none⟩ (.slice (some ⟨g,0,none⟩) (cJ.length+1) cap)) v:=by
  intro v l z r;have hk:∀b off n c,v=.slice (some ⟨b,off,none⟩) n c->(w2.setCell ⟨bs,2,none⟩ (.slice (some ⟨g,0,none⟩) (cJ.length+1) cap)).heap[b]?=w1.heap[b]?:=by
   intro b off n c e;obtain⟨k,hk⟩:=r b off n c e;obtain⟨cs,d⟩:∃cs fr,w1.heap[b]?=some (.cells cs 118 fr):=by simp[World.shape?]at hk;grind
   obtain⟨fr,d⟩:=d;have t:w2.heap[b]?=w1.heap[b]?:=by refine o.block b AA (λe=>?_);obtain⟨be,f⟩:=vz h1.ph e.symm;grind[ag]
   rw[Below.heap_setCell _ _ _ _ (show b≠bs from ?_),t];rintro rfl;grind[ag]
  exact⟨z.xc hk,r.xc hk⟩
 refine⟨x.setCell h1.E6 _,h1.zq,h1.nodes,h1.E6,s.set 2 _,?_,?_,AA,h1.Lz,?_⟩
 .grind[E7,vz]
 .refine E7 h1.qa (λg' u=>?_);obtain⟨be,f⟩:=vz h1.qa u;have I:=hst f Ae;have C:ag w2 g' be 4:=by grind[ag]
  grind
 .intro j A;rw[List.length_append,List.length_singleton]at A;have F:vals.length=cJ.length:=by have:=h1.ph.1;omega
  by_cases D:j<cJ.length
  .obtain⟨v,a,b,c⟩:=h1.each j D;grind
  grind
def Own.ajx(h:Own w0 w bs ef aY dV cW ts ns cJ aQ vals)(t:aQ.length+1<=1000)(C:w2.ownsRow w0.heap.size 4 1 (.slice (some ⟨g,0,none⟩) (aQ.length+1) cap) (aQ.length+1) (aQ.map .bool++[.bool false]))(m:(w.alloc (.cells #[.bool false] 4)).grownBy w2 cW.ownBlock):
 Own w0 (w2.setCell ⟨bs,3,none⟩ (.slice (some ⟨g,0,none⟩) (aQ.length+1) cap)) bs ef aY dV (.slice (some ⟨g,0,none⟩) (aQ.length+1) cap) ts ns cJ (aQ++[false]) vals:=by
 have h1:=h.call ((Below.refl w.heap.size w).alloc AA (.cells #[.bool false] 4));generalize w.alloc (.cells #[.bool false] 4)=w1 at *;clear h;have y:∀k,cW.ownBlock=some k->w0.heap.size<=k:=λk hk=>(h1.qa.lt k hk).1;have s:Below w0.heap.size w0 w2:=h1.below.grown m h1.below.size y;have hst:∀{T:TypeId}{b:Nat}{cs:Array Value},ag w1 b cs T->T≠4->w2.heap[b]?=w1.heap[b]?:=by intro T b cs i l;refine m.block b i.lt (λe=>?_);obtain⟨be,f⟩:=vz h1.qa e.symm;exact i.ne f l Y
 have p:ag w2 bs #[ef,aY,dV,cW] 88:=by have:=hst h1.box Ae;unfold ag;rw[this];exact h1.box
 have A:∀{T:TypeId}{b:Nat}{cs:Array Value},ag w2 b cs T->T≠88->(w2.setCell ⟨bs,3,none⟩ (.slice (some ⟨g,0,none⟩) (aQ.length+1) cap)).heap[b]?=w2.heap[b]?:=by intro T b cs i l;exact Below.heap_setCell _ _ _ _ (i.ne p l)
 refine⟨s.setCell h1.E6 _,h1.zq,h1.nodes,h1.E6,p.set 3 _,?_,?_,h1.small,AA,?_⟩
 .refine E7 h1.ph (λg' r=>?_);obtain⟨be,f⟩:=vz h1.ph r;have B:=hst f Ae;have z:ag w2 g' be 83:=by grind[ag]
  grind
 .grind[E7,vz]
 .intro j x;obtain⟨v,a,u,o⟩:=h1.each j x;have hk:∀b off n c,v=.slice (some ⟨b,off,none⟩) n c->(w2.setCell ⟨bs,3,none⟩ (.slice (some ⟨g,0,none⟩) (aQ.length+1) cap)).heap[b]?=w1.heap[b]?:=by
   intro b off n c e;obtain⟨k,hk⟩:=o b off n c e;obtain⟨cs,d⟩:∃cs fr,w1.heap[b]?=some (.cells cs 118 fr):=by simp[World.shape?]at hk;grind
   obtain⟨fr,d⟩:=d;have q:w2.heap[b]?=w1.heap[b]?:=by refine m.block b AA (λe=>?_);obtain⟨be,f⟩:=vz h1.qa e.symm;grind[ag]
   rw[Below.heap_setCell _ _ _ _ (show b≠bs from ?_),q];rintro rfl;grind[ag]
  exact⟨v,a,u.xc hk,o.xc hk⟩
def Own.ajy(h:Own w0 w bs ef aY dV cW ts ns cJ aQ vals){o:Obj}(b:(w.alloc o).grownBy w2 dV.ownBlock):ag w2 bs #[ef,aY,dV,cW] 88:=by have h1:=h.call ((Below.refl w.heap.size w).alloc AA o);refine h1.box.grown b (λg hg=>?_);obtain⟨be,a⟩:=vz h1.ph hg;exact h1.box.ne a Ae
def Own.ajz(h:Own w0 w bs ef aY dV cW ts ns cJ aQ vals){o:Obj}(b:(w.alloc o).grownBy w2 cW.ownBlock):ag w2 bs #[ef,aY,dV,cW] 88:=by have h1:=h.call ((Below.refl w.heap.size w).alloc AA o);refine h1.box.grown b (λg hg=>?_);obtain⟨be,a⟩:=vz h1.qa hg;exact h1.box.ne a Ae
def LB{x:Value}(h:ag w b #[x] T):∀j u,([x]:List Value)[j]?=some u->w.cell? ⟨b,j,none⟩=some u:=by intro j u a;rw[h.rules.1 j];grind
def kU(aQ:List Bool)(cs:List Int):List Bool:=cs.foldl (λt c=>t.set c.toNat true) aQ
theorem XZ(aQ:List Bool)(cs:List Int):(kU aQ cs).length=aQ.length:=by induction cs generalizing aQ with|nil=>rfl|cons c r a=>simp_all[kU]
theorem ajA(aQ:List Bool)(cs:List Int)(c:Int):kU aQ (cs++[c])=(kU aQ cs).set c.toNat true:=by simp[kU]
end
namespace bN
open RowKit av bZ
structure eJ where
 e:TypeId
 v:Value
 xs:List Value
structure eH(B:Nat)(W:aO)(L:List eJ):Prop where
 own:∀i(h:i<L.length),W.ownsRow B L[i].e 1 L[i].v L[i].xs.length L[i].xs
 apart:∀i j(hi:i<L.length)(hj:j<L.length) g,i≠j->L[i].v.ownBlock=some g->L[j].v.ownBlock≠some g
def g8(L:List eJ)(b:Nat):Prop:=∀i(h:i<L.length),L[i].v.ownBlock≠some b
variable{B g i:Nat}{W:aO}{L:List eJ}
theorem eH.lt(h:eH B W L)(hi:i<L.length)(hg:L[i].v.ownBlock=some g):B<=g/\g<W.heap.size:=(h.own i hi).lt g hg
variable{b:Nat}
def eH.ng(h:eH B W L)(a:W.heap.size<=b\/b<B):g8 L b:=λi hi hg=>by have:=h.lt hi hg;omega
variable{W':aO}
def eH.kept(h:eH B W L)(hk:∀g,¬g8 L g->W'.heap[g]?=W.heap[g]?):eH B W' L:=
 ⟨λi hi=>E7 (h.own i hi) λg hg=>hk g λa=>a i hi hg,h.apart⟩
variable{cap:Nat}{xs:List Value}
def eH.push(h:eH B W L)(hi:i<L.length)(p:W'.ownsRow B L[i].e 1 (.slice (some ⟨g,0,none⟩) xs.length cap) xs.length xs)(hg:W.grownBy W' L[i].v.ownBlock)(cQ:L[i].v.ownBlock=some g\/g=W.heap.size):
 eH B W' (L.set i ⟨L[i].e,.slice (some ⟨g,0,none⟩) xs.length cap,xs⟩):=by
 have m:∀j(a:j<L.length),j≠i->L[j].v.ownBlock≠some g:=λj a b f=>by
  rcases cQ with cQ|cQ
  .exact h.apart i j hi a g (Ne.symm b) cQ f
  .have:=(h.lt a f).2;omega
 refine⟨λj a=>?_,λj k a hk g' b c=>?_⟩
 .rw[List.length_set]at a;by_cases e:i=j
  .grind
  .simp only[List.getElem_set,e,if_false];exact E7 (h.own j a) λg' d=>hg.block g' (h.lt a d).2 λo=>h.apart i j hi a g' e o.symm d
 .rw[List.length_set]at a hk;simp only[List.getElem_set]at c⊢;by_cases n:i=j
  .simp_all[Value.ownBlock,Ne.symm]
  .simp[n]at c;by_cases l:i=k
   .simp only[l,if_true,Value.ownBlock];grind
   .simp only[l,if_false];exact h.apart j k a hk g' b c
theorem ajP(h:eH B W L)(hi:i<L.length){n:Nat}{e:TypeId}(cQ:L[i].v.ownBlock=some g\/g=W.heap.size)(k:b<W.heap.size)(d:g8 L b):g8 (L.set i ⟨e,.slice (some ⟨g,0,none⟩) n cap,xs⟩) b:=by
 intro j c a;rw[List.length_set]at c;simp[List.getElem_set]at a;by_cases f:i=j
 .simp[f,Value.ownBlock]at a;subst a;rcases cQ with cQ|cQ
  .exact d i hi cQ
  .omega
 .simp[f]at a;exact d j c a
structure qc(L:List eJ)(w w':aO):Prop where
 size:w.heap.size<=w'.heap.size
 os:w'.os=w.os
 tape:w'.tape=w.tape
 output:w'.output=w.output
 block:∀b,b<w.heap.size->g8 L b->w'.heap[b]?=w.heap[b]?
@[simp] theorem aCL (a:Array Value) (w:aO):Sem.run (ae prog true) (callFunc 34 a) w=.ok (.enter 34 a) w:=cB (a6 (upd:=true) func34 AV) AV a w
theorem eH.at(h:eH B W L){r:eJ}(a:L[i]?=some r):W.ownsRow B r.e 1 r.v r.xs.length r.xs:=by obtain⟨hi,rfl⟩:=List.getElem?_eq_some_iff.1 a;exact h.own i hi
theorem eH.alloc(h:eH B W L)(o:Obj):eH B (W.alloc o) L:=h.kept λg hg=>Below.heap_alloc _ _ _ (by
 apply Classical.byContradiction;intro a;exact hg (h.ng AA))
def eH.set(h:eH B W L)(a:g8 L b)(o:Nat)(v:Value):eH B (W.setCell ⟨b,o,none⟩ v) L:=h.kept λg hg=>Below.heap_setCell _ _ _ _ AA
def eH.Ic(h:eH B W L){e:TypeId}{v:Value}(c:L[i]?=some ⟨e,v,xs⟩){x:Value}(f:W'.ownsRow B e 1 (.slice (some ⟨g,0,none⟩) (xs.length+1) cap) (xs.length+1) (xs++[x]))(hg:W.grownBy W' v.ownBlock)(cQ:v.ownBlock=some g\/g=W.heap.size):
 eH B W' (L.set i ⟨e,.slice (some ⟨g,0,none⟩) (xs.length+1) cap,xs++[x]⟩)/\∀b,b<W.heap.size->g8 L b->g8 (L.set i ⟨e,.slice (some ⟨g,0,none⟩) (xs.length+1) cap,xs++[x]⟩) b:=by
 obtain⟨hi,a⟩:=List.getElem?_eq_some_iff.1 c;have h1:L[i].e=e:=by rw[a]
 have j:L[i].v=v:=by rw[a]
 have d:(xs++[x]).length=xs.length+1:=A_;have:=h.push hi (xs:=xs++[x]) (by rw[d,h1];exact f) AA AA;grind[ajP]
def eH.below(h:eH B W L)(a:Below W.heap.size W.drew W'):eH B W' L:=h.kept λg hg=>a.block g (by
 apply Classical.byContradiction;intro b;exact hg (h.ng AA))
variable{w:aO}{K:Act->aO->Prop}{Q:Exit->Act->aO->Prop}{ats:Array TypeId}
def ajQ{P:cg}{ops:Array Oper}{o:Oper}{a:Act}{F:Prop}(l:o.guard=none){f:FuncId}{fn:Func}{args:Array Operand}(b:o.op=.call {callee:=.value (.func f),args,argTypes:=ats})(i:P.funcs[f]?=some fn)(c:(fn.name== "runtime.NumGoroutine")=false)(j:fn.body.isNone=false){vs:Array Value}(g:args.map a.eval=vs)(h:Calls P f vs w λ| .returned v,w'=>K (a.put o.dst v) w'| _,_=>False):if Region.wanted o (yielded ops a.tmps)=true then Oper.wp P o a w K Q else F:=by
 subst g;have d:Region.wanted o (yielded ops a.tmps)=true:=by grind[Region.wanted]
 rw[if_pos d];unfold Oper.wp;rw[Conc.run_call_body b i c j];refine h.mono λe w' k=>?_;grind
def ajR{ops:Array Oper}{o:Oper}{a:Act}{F:Prop}(c:o.guard=none){x:Operand}(b:o.op=.call {callee:=.value (.func 42),args:=#[x],argTypes:=ats}){s:ByteArray}(d:a.eval x=.string s)(ht:s.size<=1000000)(h:∀w',Below w.heap.size w w'->K (a.put o.dst (.string s)) w'):if Region.wanted o (yielded ops a.tmps)=true then Oper.wp (ae prog true) o a w K Q else F:=
 ajQ c b (a6 (upd:=true) func42 AV) BA Y (vs:=#[.string s]) AA ((ajF s w ht).mono AA)
variable{j:Nat}
def i9(h:i≠j)(x:eJ):(L.set i x)[j]?=L[j]?:=by simp[h]
variable{cs:Array Value}
def LG{c:Nat}{T:TypeId}(h:ag w c cs T)(a:c≠b)(o:Nat)(v:Value):ag (w.setCell ⟨b,o,none⟩ v) c cs T:=by grind[ag,Below.heap_setCell]
def qc.set{w':aO}(h:qc L w w')(o:Nat)(v:Value)(c:w.heap.size<=b):qc L w (w'.setCell ⟨b,o,none⟩ v):=
 ⟨by simp[World.setCell];exact h.size,h.os,h.tape,h.output,λk hk a=>(Below.heap_setCell _ _ _ _ AA).trans (h.block k hk a)⟩
def qc.X8{w1 w2:aO}(h:qc L w w1)(hs:w1.heap.size<=w2.heap.size)(e:w2.os=w1.os)(ht:w2.tape=w1.tape)(d:w2.output=w1.output)(f:∀b,b<w.heap.size->g8 L b->w2.heap[b]?=w1.heap[b]?):qc L w w2:=
 ⟨Nat.le_trans h.size hs,e.trans h.os,ht.trans h.tape,d.trans h.output,λb a c=>(f b a c).trans (h.block b a c)⟩
variable{k:Nat}
def ajS(h:eH B w L)(hB:B<=w.heap.size){bg vs aY:Value}{is l ns:List Value}(h0:L[k]?=some ⟨2,bg,is⟩)(h1:L[k+1]?=some ⟨9,vs,l⟩)(h2:L[k+2]?=some ⟨4,aY,ns⟩)(kind ck:Int)(d:bD)(ht:d.text.size<=1000000)(hl:is.length<=1000/\l.length<=1000/\ns.length<=1000):
 Calls (ae prog true) 34 #[.agg #[.int .i64 kind,.int .i64 ck,bg,vs,aY],eQ d] w λe w'=>(∃g c f a,(kind≠3/\e=.returned (.agg #[.int .i64 kind,.int .i64 ck,.slice (some ⟨g,0,none⟩) (is.length+1) c,vs,.slice (some ⟨f,0,none⟩) (ns.length+1) a])/\
  eH B w' ((L.set (k+2) ⟨4,.slice (some ⟨f,0,none⟩) (ns.length+1) a,ns++[.bool d.eG]⟩).set k ⟨2,.slice (some ⟨g,0,none⟩) (is.length+1) c,is++[.int .i64 d.num]⟩))\/
  (kind=3/\e=.returned (.agg #[.int .i64 kind,.int .i64 ck,bg,.slice (some ⟨g,0,none⟩) (l.length+1) c,.slice (some ⟨f,0,none⟩) (ns.length+1) a])/\
   eH B w' ((L.set (k+2) ⟨4,.slice (some ⟨f,0,none⟩) (ns.length+1) a,ns++[.bool d.eG]⟩).set (k+1) ⟨9,.slice (some ⟨g,0,none⟩) (l.length+1) c,l++[.string d.text]⟩)))/\qc L w w':=by
 obtain⟨sa,t,e0⟩:=m9 (show w.ownsRow B 9 1 vs l.length l from h.at h1);subst e0;obtain⟨x,q,e1⟩:=m9 (show w.ownsRow B 2 1 bg is.length is from h.at h0);obtain⟨an,C,A⟩:=m9 (show w.ownsRow B 4 1 aY ns.length ns from h.at h2);subst e1;subst A;have Ra:Hid _:=h0;have Ie:Hid _:=h1;have nP:Hid _:=h2;have P:Hid _:=hl;have W:Hid (eH B w L):=h;clear h0 h1 h2 hl h;have b2:=(((ag.new w #[.int .i64 kind,.int .i64 ck,.slice x is.length q,.slice sa l.length t,.slice an ns.length C] 43).alloc (.cells #[.bool d.eG,.int .i64 d.num,.int .i64 d.ck,.string d.text] 98)).alloc (.cells #[.int .i64 0,.int .i64 0,.slice none 0 0,.slice none 0 0,.slice none 0 0] 43)).alloc (.cells #[.bool d.eG] 4);have b8:=((ag.new (w.alloc (.cells #[.int .i64 kind,.int .i64 ck,.slice x is.length q,.slice sa l.length t,.slice an ns.length C] 43)) #[.bool d.eG,.int .i64 d.num,.int .i64 d.ck,.string d.text] 98).alloc (.cells #[.int .i64 0,.int .i64 0,.slice none 0 0,.slice none 0 0,.slice none 0 0] 43)).alloc (.cells #[.bool d.eG] 4);have bc:=(ag.new ((w.alloc (.cells #[.int .i64 kind,.int .i64 ck,.slice x is.length q,.slice sa l.length t,.slice an ns.length C] 43)).alloc (.cells #[.bool d.eG,.int .i64 d.num,.int .i64 d.ck,.string d.text] 98)) #[.int .i64 0,.int .i64 0,.slice none 0 0,.slice none 0 0,.slice none 0 0] 43).alloc (.cells #[.bool d.eG] 4);have br:=ag.new (((w.alloc (.cells #[.int .i64 kind,.int .i64 ck,.slice x is.length q,.slice sa l.length t,.slice an ns.length C] 43)).alloc (.cells #[.bool d.eG,.int .i64 d.num,.int .i64 d.ck,.string d.text] 98)).alloc (.cells #[.int .i64 0,.int .i64 0,.slice none 0 0,.slice none 0 0,.slice none 0 0] 43)) #[.bool d.eG] 4;have Rb:=(((W.out.alloc (.cells #[.int .i64 kind,.int .i64 ck,.slice x is.length q,.slice sa l.length t,.slice an ns.length C] 43)).alloc (.cells #[.bool d.eG,.int .i64 d.num,.int .i64 d.ck,.string d.text] 98)).alloc (.cells #[.int .i64 0,.int .i64 0,.slice none 0 0,.slice none 0 0,.slice none 0 0] 43)).alloc (.cells #[.bool d.eG] 4);simp at b8 bc br;have qd:Hid _:=b2;have q7:Hid _:=b8;have tM:Hid _:=bc;have F:Hid _:=LB br;have If:Hid _:=Rb;have H:Hid _:=Rb.at nP.out;have r:Hid (∀u∈([.bool d.eG]:List Value),u.oneCell'=true):=EM;have ow:Hid (B<=w.heap.size):=hB;clear b2 b8 bc br Rb hB;go_enter (a6 (upd:=true) func34 AV),ntmps34
 go_wp2_with (at_builtin;apply Fa)
 unfold Bd;refine Le HJ _ Y _ _ Y B (.slice an ns.length C) ns.length ns Y H.out (w.heap.size+1+1+1) 1 1 _ Y Y F.out r.out Ae Fh Fh (by have:=ow.out;simp;omega) (w.heap.size+1+1+1+1) A_ ?_;intro f a en Rc n X9 X_;have c9:∀i g,i<3->(Value.slice an ns.length C).ownBlock=some g->w.heap.size+i≠g:=λi g _ hg=>by obtain⟨hi,z⟩:=List.getElem?_eq_some_iff.1 nP.out;have:=(W.out.lt hi (by rw[z];exact hg)).2;omega
 obtain⟨sT,dL⟩:=eH.Ic If.out nP.out Rc n Br;have cr:=(ag.grown qd.out n (λg hg=>c9 0 g Ae hg)).set 4 (.slice (some ⟨f,0,none⟩) (ns.length+1) a);have dm:=ag.grown q7.out n Br;have c4:=ag.grown tM.out n (λg hg=>c9 2 g Ae hg);have E:∀i,i<3->g8 (L.set (k+2) ⟨4,.slice (some ⟨f,0,none⟩) (ns.length+1) a,ns++[.bool d.eG]⟩) (w.heap.size+i):=λi hi=>dL _ Bg (W.out.ng AA);have LH:qc L w en:=⟨by have:=n.size;simp at this;omega,n.os,n.tape,n.output,λb hb X=>(n.block b Bg (λe=>by
  obtain⟨hi,z⟩:=List.getElem?_eq_some_iff.1 nP.out;exact X _ hi AA)).trans (by
   grind[Below.heap_alloc])⟩
 obtain⟨K,J,I⟩:=(ag.grown qd.out n (λg hg=>c9 0 g Ae hg)).all;by_cases lu:kind=3
 .subst lu;go_upto_region 3 with fail
  have D:=sT.set (E 0 Ae) 4 (.slice (some ⟨f,0,none⟩) (ns.length+1) a);have M:=LG dm (b:=w.heap.size) As 4 (.slice (some ⟨f,0,none⟩) (ns.length+1) a);have d4:=LG c4 (b:=w.heap.size) As 4 (.slice (some ⟨f,0,none⟩) (ns.length+1) a);have Ig:=LH.set 4 (.slice (some ⟨f,0,none⟩) (ns.length+1) a) J1;simp at D;generalize en.setCell ⟨w.heap.size,4,none⟩ (.slice (some ⟨f,0,none⟩) (ns.length+1) a)=Z at *;simp at cr;clear K J I sT dm c4 LH Rc n X9 X_ If H F r;have Q:(L.set (k+2) ⟨4,.slice (some ⟨f,0,none⟩) (ns.length+1) a,ns++[.bool d.eG]⟩)[k+1]?=some ⟨9,.slice sa l.length t,l⟩:=(i9 As _).trans Ie.out;have O:Hid _:=cr;have Ya:Hid _:=M;have Ih:Hid _:=d4;have o:Hid _:=Ig;have Yb:Hid _:=D;have N:Hid _:=Q;have sU:Hid _:=E;have r:Hid (∀u∈([.string d.text]:List Value),u.oneCell'=true):=EM;obtain⟨K,J,I⟩:=cr.all;obtain⟨kg,o9,U⟩:=M.all;clear Q cr M d4 Ig E D;have R:∀i g,i<3->(Value.slice sa l.length t).ownBlock=some g->w.heap.size+i≠g:=λi g zr hg=>by obtain⟨hi,z⟩:=List.getElem?_eq_some_iff.1 Ie.out;have:=(W.out.lt hi (by rw[z];exact hg)).2;omega
  have HOW:Hid _:=R;clear R;go_region_law
   (first|(refine ajR Bo Bo (s:=d.text) Bo ht ?_;intro qf m;obtain⟨c0,dA,eX⟩:=(ag.call (ag.drew O.out) m).all)|(refine Lg Qx _ Bo _ _ Bo B (.slice sa l.length t) l.length l Bo ((eH.alloc (eH.below Yb.out m) _).at N.out) qf.heap.size 1 1 [.string d.text] Bo Y Br r.out As Fh Fh (by have:=ow.out;have:=o.out.size;have:=m.size;simp at this⊢;omega) (qf.heap.size+1) A_ ?_;intro g c qh Ii j Re Rf;have A:=ag.grown ((ag.call (ag.drew O.out) m).alloc _) j (λg hg=>HOW.out 0 g Ae hg);have e3:=ag.grown ((ag.call (ag.drew Ya.out) m).alloc _) j (λg hg=>HOW.out 1 g Ae hg);obtain⟨u1,u2,u3⟩:=A.all))
  all_goals
   obtain⟨S,T⟩:=eH.Ic (eH.alloc (eH.below Yb.out m) _) N.out Ii j Br;have e4:=ag.grown ((ag.call (ag.drew Ih.out) m).alloc _) j (λg hg=>HOW.out 2 g Ae hg);have Ij:qc L w qh:=o.out.X8 (by have s1:=j.size;have s2:=m.size;simp at s1 s2;omega) (j.os.trans m.os) (j.tape.trans m.tape) (j.output.trans m.output) (λb hb X=>(j.block b (by have:=o.out.size;have:=m.size;simp at this⊢;omega) (λe=>by
    obtain⟨hi,z⟩:=List.getElem?_eq_some_iff.1 Ie.out;exact X _ hi AA)).trans ((Below.heap_alloc _ _ _ AA).trans (m.block b (by have:=o.out.size;simp;omega))))
   obtain⟨t1,t2,t3⟩:=e4.all;have Rg:Hid _:=Ij;have Rh:Hid _:=S;have Ik:Hid (∀i,i<3->g8 _ (w.heap.size+i)):=λi hi=>T _ (by have:=o.out.size;have:=U;have:=m.size;simp at this⊢;omega) (sU.out i hi);clear A e3 e4 Ij S T K J I kg o9 U c0 dA eX Ii j Re Rf N O Ya Ih o r m;go_wp2
   have V:=Ik.out 0 Ae;have p:=Ik.out 2 Ae;simp at V;exact bodyPost_ret (v:=.agg #[.int .i64 3,.int .i64 ck,.slice x is.length q,.slice (some ⟨g,0,none⟩) (l.length+1) c,.slice (some ⟨f,0,none⟩) (ns.length+1) a]) (by simp[results,results34,go_sem,t1]) Y
    ⟨⟨g,c,f,a,Y,(((((Rh.out.set V _ _).set p _ _).set p _ _).set p _ _).set p _ _).set p _ _⟩,(((((Rg.out.set _ _ AA).set _ _ As).set _ _ As).set _ _ As).set _ _ As).set _ _ As⟩
 .have lN:(kind==3)=false:=by grind
  have ajT:Hid _:=lu;clear lu;go_upto_region 4 with fail
  have D:=sT.set (E 0 Ae) 4 (.slice (some ⟨f,0,none⟩) (ns.length+1) a);have M:=LG dm (b:=w.heap.size) As 4 (.slice (some ⟨f,0,none⟩) (ns.length+1) a);have d4:=LG c4 (b:=w.heap.size) As 4 (.slice (some ⟨f,0,none⟩) (ns.length+1) a);have Ig:=LH.set 4 (.slice (some ⟨f,0,none⟩) (ns.length+1) a) J1;simp at D;generalize en.setCell ⟨w.heap.size,4,none⟩ (.slice (some ⟨f,0,none⟩) (ns.length+1) a)=Z at *;simp at cr;clear K J I sT dm c4 LH Rc n X9 X_ If H F r;have Q:(L.set (k+2) ⟨4,.slice (some ⟨f,0,none⟩) (ns.length+1) a,ns++[.bool d.eG]⟩)[k]?=some ⟨2,.slice x is.length q,is⟩:=(i9 As _).trans Ra.out;have Ri:=D.alloc (.cells #[.int .i64 d.num] 2);have H:Hid _:=Ri.at Q;have F:Hid _:=LB (ag.new Z #[.int .i64 d.num] 2);have r:Hid (∀u∈([.int .i64 d.num]:List Value),u.oneCell'=true):=EM;have O:Hid _:=cr.alloc (.cells #[.int .i64 d.num] 2);have Ih:Hid _:=d4.alloc (.cells #[.int .i64 d.num] 2);have o:Hid _:=Ig;have Yc:Hid _:=Ri;have N:Hid _:=Q;have sU:Hid _:=E;have ajU:Hid (B<=(Z.alloc (.cells #[.int .i64 d.num] 2)).heap.size):=by grind[Hid]
  obtain⟨K,J,I⟩:=cr.all;obtain⟨kg,o9,U⟩:=M.all;clear Ri Q cr M d4 Ig E;go_wp2_with (at_builtin;apply Fa)
  unfold Bd;refine Le Qw _ Y _ _ Y B (.slice x is.length q) is.length is Y H.out Z.heap.size 1 1 _ Y Y F.out r.out Ae Fh Fh ajU.out (Z.heap.size+1) A_ ?_;intro sV ci qh Ii j Re Rf;have R:∀i g,i<3->(Value.slice x is.length q).ownBlock=some g->w.heap.size+i≠g:=λi g zr hg=>by obtain⟨hi,z⟩:=List.getElem?_eq_some_iff.1 Ra.out;have:=(W.out.lt hi (by rw[z];exact hg)).2;omega
  obtain⟨S,T⟩:=eH.Ic Yc.out N.out Ii j Br;have A:=ag.grown O.out j (λg hg=>R 0 g Ae hg);have e4:=ag.grown Ih.out j (λg hg=>R 2 g Ae hg);have Ij:qc L w qh:=o.out.X8 (by have:=j.size;simp at this;omega) j.os j.tape j.output (λb hb X=>(j.block b (by have:=o.out.size;simp;omega) (λe=>by
   obtain⟨hi,z⟩:=List.getElem?_eq_some_iff.1 Ra.out;exact X _ hi AA)).trans (Below.heap_alloc _ _ _ AA))
  obtain⟨u1,u2,u3⟩:=A.all;obtain⟨t1,t2,t3⟩:=e4.all;have Rg:Hid _:=Ij;have Rh:Hid _:=S;have Ik:Hid (∀i,i<3->g8 _ (w.heap.size+i)):=λi hi=>T _ (by have:=o.out.size;have:=U;simp;omega) (sU.out i hi);clear A e4 Ij S T K J I kg o9 U Ii j Re Rf Yc N O Ih o H F r;go_wp2
  have V:=Ik.out 0 Ae;have p:=Ik.out 2 Ae;simp at V;exact bodyPost_ret (v:=.agg #[.int .i64 kind,.int .i64 ck,.slice (some ⟨sV,0,none⟩) (is.length+1) ci,.slice sa l.length t,.slice (some ⟨f,0,none⟩) (ns.length+1) a]) (by simp[results,results34,go_sem,t1]) Y
   ⟨⟨sV,ci,f,a,.inl ⟨ajT.out,Y,(((((Rh.out.set V _ _).set p _ _).set p _ _).set p _ _).set p _ _).set p _ _⟩⟩,(((((Rg.out.set _ _ AA).set _ _ As).set _ _ As).set _ _ As).set _ _ As).set _ _ As⟩
open Shelf
@[simp] theorem aCN (a:Array Value) (w:aO):Sem.run (ae prog true) (callFunc 33 a) w=.ok (.enter 33 a) w:=cB (a6 (upd:=true) func33 AV) AV a w
def Bh(cs:Array Value)(l:List (Int×Int))(k:Nat):Prop:=∀j(h:j<l.length),j<k->cs[j*5]?=some (.int .i64 l[j].1)/\cs[j*5+1]?=some (.int .i64 l[j].2)/\cs[j*5+2]?=some (.slice none 0 0)/\cs[j*5+3]?=some (.slice none 0 0)/\cs[j*5+4]?=some (.slice none 0 0)
abbrev q8(cs:Array Value)(k:Nat)(a b c d e:Value):Array Value:=((((cs.setIfInBounds (k*5) a).setIfInBounds (k*5+1) b).setIfInBounds (k*5+2) c).setIfInBounds (k*5+3) d).setIfInBounds (k*5+4) e
def vG(a b c d e:Value)(h:j≠k)(hi:i<5):(q8 cs k a b c d e)[j*5+i]?=cs[j*5+i]?:=by simp only[q8,Array.getElem?_setIfInBounds];grind
theorem Yd(a b c d e:Value)(h:k*5+4<cs.size):(q8 cs k a b c d e)[k*5]?=some a/\(q8 cs k a b c d e)[k*5+1]?=some b/\(q8 cs k a b c d e)[k*5+2]?=some c/\(q8 cs k a b c d e)[k*5+3]?=some d/\(q8 cs k a b c d e)[k*5+4]?=some e:=by simp[q8,Array.getElem?_setIfInBounds];omega
theorem Bh.step{cs:Array Value}{l:List (Int×Int)}{k:Nat}(h:Bh cs l k)(hk:k<l.length)(hs:cs.size=l.length*5):Bh (q8 cs k (.int .i64 l[k].1) (.int .i64 l[k].2) (.slice none 0 0) (.slice none 0 0) (.slice none 0 0)) l (k+1):=by
 intro j a b;by_cases e:j=k
 .grind[Yd]
 .have:=h j a As;refine⟨(vG (i:=0) _ _ _ _ _ e Ae).trans this.1,(vG _ _ _ _ _ e Ae).trans this.2.1,(vG _ _ _ _ _ e Ae).trans this.2.2.1,(vG _ _ _ _ _ e Ae).trans this.2.2.2.1,(vG _ _ _ _ _ e Ae).trans this.2.2.2.2⟩
def ajV(l:List (Int×Int))(v:Value)(w:aO)(z:eP w v l)(A:l.length<=1000000):
 Calls (ae prog true) 33 #[v] w λe w'=>∃b cs,e=.returned (.slice (some ⟨b,0,none⟩) l.length l.length)/\ag w' b cs 43/\cs.size=l.length*5/\Bh cs l l.length/\w.heap.size<=b/\Below w.heap.size w w':=by
 obtain⟨Q,cap,rfl,M,u⟩:=z;go_enter (a6 (upd:=true) func33 AV),ntmps33
 go_wp2_with (at_make;refine QQ Xm _ Y _ _ Y _ _ l.length Y Y As As ?_;intro w1 be t f x)
 have J:Hid (ag w1 w.heap.size be 43):=t;have B:Hid (Below w.heap.size w w1):=x;have I:Hid _:=f;clear t x f;go_loopw [11] (λn W=>∃(k:Nat)(cs:Array Value),k<=l.length/\n=.int .i64 k/\ag W w.heap.size cs 43/\cs.size=l.length*5/\Bh cs l k/\Below w.heap.size w W)
  (λi _=>l.length-(intOf i).toNat)
 case atStart=>exact⟨0,be,Nat.zero_le _,Y,J.out,I.out,λj _ N=>AA,B.out⟩
 case round=>
  obtain⟨k,cs,hk,rfl,r,p,q,s⟩:=hrel;have a:Hid (ag wr w.heap.size cs 43):=r;have o:Hid (Bh cs l k):=q;have h:Hid (Below w.heap.size w wr):=s;have c:Hid _:=p;clear r q s p;by_cases d:k<l.length
  .obtain⟨b,off,rfl,g,d1⟩:=u k d;simp at g;have m:=bo.cj h.out;have C:=m _ _ _ g;have P:=m _ _ _ d1;have O:=fS C;have F:w.heap.size<wr.heap.size:=a.out.lt;clear m g d1 u;have K:(0:Int)<=(k:Int):=As;have L:(k:Int)<(l.length:Int):=As;have T:wr.cell? ⟨w.heap.size,k*5,none⟩=some (cs[k*5]'GC):=by rw[a.out.rules.1];simp
   have S:wr.cell? ⟨w.heap.size,k*5+1,none⟩=some (cs[k*5+1]'GC):=by rw[a.out.rules.1];simp
   have E:wr.cell? ⟨w.heap.size,k*5+2,none⟩=some (cs[k*5+2]'GC):=by rw[a.out.rules.1];simp
   have D:wr.cell? ⟨w.heap.size,k*5+3,none⟩=some (cs[k*5+3]'GC):=by rw[a.out.rules.1];simp
   have H:wr.cell? ⟨w.heap.size,k*5+4,none⟩=some (cs[k*5+4]'GC):=by rw[a.out.rules.1];simp
   have R:=a.out.rules.2;go_wp2_with fail
   go_roundw
   case rel=>
    exact⟨k+1,_,As,by go_num,(((((a.out.set _ _).set _ _).set _ _).set _ _).set _ _).alloc _,by simp;exact c.out,o.out.step d c.out,(((((h.out.setCell A_ _).setCell A_ _).setCell A_ _).setCell A_ _).setCell A_ _).alloc Bg _⟩
   case measure=>simp[intOf];omega
  .have y:k=l.length:=by omega
   go_wp2_with fail
   go_ret
   exact⟨_,_,Y,a.out,c.out,by rw[<-y];exact o.out,As,h.out⟩
end bN
end Go.Proofs.YtncomcmfgmojkaaGreat
