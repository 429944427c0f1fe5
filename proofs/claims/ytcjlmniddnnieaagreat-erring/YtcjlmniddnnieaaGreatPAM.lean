import Derived.Deep.DeepCutAuto
import Derived.Deep.RegionLaw
import Derived.Test.YtcjlmniddnnieaaGreatPAF
set_option linter.all false
set_option maxRecDepth 100000
set_option maxHeartbeats 16000000
namespace Go.Proofs.YtcjlmniddnnieaaGreat
open Tryz
namespace bM
open RowKit au
section
attribute [local go_sem ↓] Go.wp_at_zero Go.wp_at_succ
def Met(op:Int):Prop:=op=1\/op=2\/op=5\/op=10\/op=11
def Ck(t:bH)(bl:fK):(Int×Int)×Bool:=if t.op=1 then vg bl t.a else((1,0),true)
def alr(op:Int)(o:ubj):(Int×Int)×Bool:=if op=14 then((4,0),o==(4,0))else((4,0),true)
def AI(op:Int)(l r:ubj):(Int×Int)×Bool:=if op=5 then(l,l==r&&yu l)else((4,0),l==r&&l != (4,0))
def Cl(t:bH)(aS bl:fK):(Int×Int)×Bool:=
 match aS with
 | []=>Ck t bl
 | [o]=>alr t.op o
 |l::r::_=>AI t.op l r
def als(op:Int)(h:op=5\/op=10\/op=11)(l r:ubj)(w:aH):
 Calls vee 124 #[.I op,fe l,fe r] w λe w'=>e=.returned (.tuple #[fe (AI op l r).1,.bool (AI op l r).2])/\cy w w':=by
 unfold AI;by_cases a:op=5
 .simp_all[alk]
 .simp only[a,vbv];grind[aln]
def alt(t:bH)(h:t.op=1\/t.op=2)(hs:t.s.size<=9223372036854775807)(bl:fK)(b:Value)(w:aH)(hv:eF w b bl):
 Calls vee 122 #[vh t,b] w λe w'=>e=.returned (.tuple #[fe (Ck t bl).1,.bool (Ck t bl).2])/\cy w w':=by
 obtain⟨op,a,v,s⟩:=t;simp only at h hs;rcases h with rfl|rfl
 .exact alh a v s bl b w hv
 .exact alm a v s b w
attribute [local go_sem ↓] Go.wp_at_zero Go.wp_at_succ
def Ze(w:aH)(t:bH):
 ag ((w.alloc (.cells #[.I t.op,.I t.a,.I t.v,.string t.s] 36)).alloc (.cells #[.I 0,.I 0] 116)) (w.heap.size+1) #[.I 0,.I 0] 116/\
 cy w ((w.alloc (.cells #[.I t.op,.I t.a,.I t.v,.string t.s] 36)).alloc (.cells #[.I 0,.I 0] 116)):=by
 refine⟨?_,((vaa _ _).alloc AQ _).alloc AQ _⟩;have:=ag.new (w.alloc (.cells #[.I t.op,.I t.a,.I t.v,.string t.s] 36)) #[.I 0,.I 0] 116;simp_all
def alu(t:bH)(c:t.op=1\/t.op=2)(hs:t.s.size<=9223372036854775807)(bl:fK)(j:uam)(ct:Nat)(a:Value)(w:aH)(hv:eF w a bl):
 Calls vee 101 #[vh t,.slice j 0 ct,a] w λe w'=>e=.returned (.tuple #[fe (Ck t bl).1,.bool (Ck t bl).2])/\cy w w':=by
 have k:Hid (t.op=1\/t.op=2):=c;clear c;obtain⟨f,b⟩:=Ze w t;have g:=hv.mono ni (br.ck b);go_enter (vea func101),ntmps101
 go_wp2_with fail
 refine(alt t k.out hs bl a _ g).mono ?_;rintro e w1 ⟨rfl,d⟩;have i:cy w w1:=Below.step d b CF;obtain⟨h,m,l⟩:=(f.call d).all;go_wp2_with fail
 exact vai (v:=.tuple #[fe (Ck t bl).1,.bool (Ck t bl).2]) (by simp[results,results101,go_sem,h]) Y ⟨Y,(i.setCell AQ _).setCell AQ _⟩
def alv(t:bH)(d:t.op=5\/t.op=10\/t.op=11)(l r:ubj)(b off ct:Nat)(k:Value)(w:aH)(h0:w.cell? (.a b off)=some (.I l.1))(q:w.cell? (.a b (off+1))=some (.I l.2))(p:w.cell? (.a b (off+2))=some (.I r.1))(o:w.cell? (.a b (off+2+1))=some (.I r.2)):
 Calls vee 101 #[vh t,.S b off 2 ct,k] w λe w'=>e=.returned (.tuple #[fe (AI t.op l r).1,.bool (AI t.op l r).2])/\cy w w':=by
 obtain⟨f,h⟩:=Ze w t;obtain⟨lk,ls⟩:=l;obtain⟨a,rs⟩:=r;have n:=fB h0;go_enter (vea func101),ntmps101
 go_wp2_with fail
 go_region_held3 (λW=>W.cell? (.a w.heap.size 0)=some (.I t.op)/\W.cell? (.a b off)=some (.I lk)/\W.cell? (.a b (off+1))=some (.I ls)/\W.cell? (.a b (off+2))=some (.I a)/\W.cell? (.a b (off+2+1))=some (.I rs))
  ((go_split_ands;refine⟨?_,?_,?_,?_,?_⟩<;>first|(exact(br.ck c) _ _ _ CN)|(exact xe (xe CN AP) AP)|(go_keep;done)))
  (first|(go_at_call 124;refine(als t.op d (lk,ls) (a,rs) _).mono ?_;rintro e w1 ⟨rfl,c⟩;have g:=f.drew.call c;obtain⟨i,s,m⟩:=g.all))
 have j:cy w w1:=Below.step c h.drew CF;go_wp2_with fail
 exact vai (v:=.tuple #[fe (AI t.op (lk,ls) (a,rs)).1,.bool (AI t.op (lk,ls) (a,rs)).2]) (by simp[results,results101,go_sem,i]) Y ⟨Y,(j.setCell AQ _).setCell AQ _⟩
end
variable{e:List bH}{w:aH}
section
attribute [local go_sem ↓] Go.wp_at_zero Go.wp_at_succ
attribute [local go_sem ↓] Go.wp_at_zero Go.wp_at_succ
def vj(bl:fK)(st:fK)(t:bH):Option (List (Int×Int)):=
 if(operands t.op).2=true/\(operands t.op).1.toNat<=st.length then
  (if(Cl t (st.drop (st.length-(operands t.op).1.toNat)) bl).2=true then some (st.take (st.length-(operands t.op).1.toNat)++[(Cl t (st.drop (st.length-(operands t.op).1.toNat)) bl).1])else none)
 else none
def nR(bl:fK):List bH->List (Int×Int)->Option (List (Int×Int))
 | [],st=>some st
 |t::r,st=>(vj bl st t).bind (nR bl r)
def iC(e:List bH)(bl:fK):(Int×Int)×Bool:=
 if e.length<1\/20<e.length then((0,0),false)
 else match nR bl e []with
  |some [t]=>(t,true)
  | _=>((0,0),false)
theorem Zg(bl:fK)(l:List bH)(t:bH)(st:fK):nR bl (l++[t]) st=(nR bl l st).bind (λs=>vj bl s t):=by induction l generalizing st with|nil=>grind[nR,vj]|cons a r b=>grind[nR,vj]
theorem aly(bl:fK)(l r:List bH)(st:fK)(h:nR bl l st=none):nR bl (l++r) st=none:=by induction l generalizing st with|nil=>simp[nR]at h|cons a l b=>grind[nR,vj]
def R1{bl:fK}{k:Nat}(hk:k<e.length){st:fK}(h:nR bl (e.take k) []=some st)(hs:vj bl st e[k]=none):nR bl e []=none:=by
 have a:nR bl (e.take (k+1)) []=none:=by grind[List.take_succ_eq_append_getElem,Zg]
 grind[aly,List.take_append_drop]
def alz{bl:fK}{k:Nat}(hk:k<e.length){st a:fK}(h:nR bl (e.take k) []=some st)(hs:vj bl st e[k]=some a):nR bl (e.take (k+1)) []=some a:=by grind[List.take_succ_eq_append_getElem,Zg]
def R2{bl:fK}(h:nR bl e []=none):iC e bl=((0,0),false):=by grind[iC]
def alA{a:uam}(c:∀i(h:i<e.length),∃b off,a=some ⟨b,off,none⟩/\IP w (λj=>w.cell? (.a b (off+i*4+j))) e[i]){k:Nat}(hk:k<e.length):
 ∃b off,a=some ⟨b,off,none⟩/\w.cell? (.a b (off+k*4))=some (.I e[k].op)/\w.cell? (.a b (off+k*4+1))=some (.I e[k].a)/\w.cell? (.a b (off+k*4+2))=some (.I e[k].v)/\w.cell? (.a b (off+k*4+3))=some (.string e[k].s)/\e[k].s.size<=9223372036854775807:=by
 obtain⟨b,off,d,h0,m,l,g,f⟩:=c k hk;grind
def Zi(t:bH)(c:Met t.op)(hs:t.s.size<=9223372036854775807)(aS bl:fK)(k:aS.length<=2)(hn:(operands t.op).1=(aS.length:Int))(ed a:Value)(w:aH)(hv:eF w a bl)(hk:eF w ed aS):
 Calls vee 101 #[vh t,ed,a] w λe w'=>e=.returned (.tuple #[fe (Cl t aS bl).1,.bool (Cl t aS bl).2])/\cy w w':=by
 obtain⟨m,cap,rfl,-,j⟩:=hk;match aS,k with
 | [],_=>exact alu t I_ hs bl m cap a w hv
 | [o],_=>exfalso;rcases c with h|h|h|h|h<;>simp[operands,h]at hn
 | [l,r],_=>obtain⟨b,off,rfl,h0,i⟩:=j 0 AQ;obtain⟨n,p,d,g,f⟩:=j 1 AQ;simp at d;obtain⟨rfl,rfl⟩:=d;simp only[Nat.zero_mul,Nat.one_mul,vcg]at h0 i g f;exact alv t I_ l r b off cap a w h0 i g f
def eF.tail{base:Nat}{e:uab}{a:uam}{cap:Nat}{st:fK}(h:w.ownsRow base e 2 (.slice a st.length cap) st.length (kp st))(f:st.length<=9223372036854775807)(m:Nat)(n:m<=st.length):
 eF w (.slice (if cap=m then a else a.map (·.add (m*2))) (st.length-m) (cap-m)) (st.drop m):=by
 refine⟨_,_,by rw[List.length_drop],AJ,λi hi=>?_⟩;rw[List.length_drop]at hi;have d:=eF.AG h f;obtain⟨q,cap',hv,-,k⟩:=d;simp at hv;obtain⟨rfl,rfl⟩:=hv;obtain⟨b,off,rfl,h0,o⟩:=k (m+i) AP;have j:¬cap=m:=by
  rcases h.2 with⟨hn,h0⟩|⟨g,c,bq,l,_,_,p,_⟩
  .omega
  grind
 rw[vbt j];refine⟨b,off+m*2,by simp[Addr.add_lit],?_,?_⟩
 .grind
 grind
def alB(op:Int):∃m:Nat,m<=2/\(operands op).1=m:=by
 unfold operands;split
 .exact⟨0,AP,Y⟩
 split
 .exact⟨1,AP,Y⟩
 split
 .exact⟨2,AP,Y⟩
 .exact⟨0,AP,Y⟩
def Zj{bl st:fK}{t:bH}{m:Nat}(a:(operands t.op).1=m)(h:¬((operands t.op).2=true/\m<=st.length)):vj bl st t=none:=by simp_all[vj,vbt]
def alC{bl st:fK}{t:bH}{m:Nat}(a:(operands t.op).1=m)(c:(operands t.op).2=true)(b:m<=st.length):
 vj bl st t=if(Cl t (st.drop (st.length-m)) bl).2=true then some (st.take (st.length-m)++[(Cl t (st.drop (st.length-m)) bl).1])else none:=by
 simp_all[vj]
def Zk(e:List bH)(pU:∀t∈e,Met t.op)(bl:fK)(eu A:Value)(w:aH)(he:rS w eu e)(hv:eF w A bl):
 Calls vee 66 #[eu,A] w λaW w'=>aW=.returned (.tuple #[fe (iC e bl).1,.bool (iC e bl).2])/\cy w w':=by
 obtain⟨bm,cap,rfl,hl,b5⟩:=he;by_cases hs:e.length<1\/20<e.length
 .have y:Hid (iC e bl=((0,0),false)):=by unfold Hid iC;grind
  rcases hs with hs|hs;all_goals
   go_enter (vea func66),ntmps66
   go_wp2
   exact vai (v:=.tuple #[fe (0,0),.F]) (by simp[results,results66,go_sem]) rfl ⟨by rw[y.out],(vaa _ _).alloc AJ _⟩
 have Y:1<=e.length:=AP;have F1:e.length<=20:=AP;have tZ:Hid _:=hs;have IX:Hid _:=pU;clear hs pU;go_enter (vea func66),ntmps66
 go_wp2
 go_loopw [6,25] (λv i W=>∃(k:Nat)(st:fK),k<=e.length/\i=.I k/\nR bl (e.take k) []=some st/\st.length<=k/\(∃a c,v=.slice a st.length c)/\W.ownsRow (w.heap.size+1) 116 2 v st.length (kp st)/\cy w W/\ag W w.heap.size #[.I 0,.I 0] 116)
  (λ_ i _=>e.length-(intOf i).toNat)
 case atStart=>exact⟨0,[],vba _,rfl,rfl,AQ,BR,vcc _ _ _ _,(vaa _ _).alloc AJ _,ag.new _ _ _⟩
 case round=>
  obtain⟨k,st,hk,rfl,hrun,R4,⟨a,c,rfl⟩,dW,hB,oA⟩:=hrel;have I:Hid _:=hrun;have r:Hid (wr.ownsRow (w.heap.size+1) 116 2 (.slice a st.length c) st.length (kp st)):=dW;have f:Hid _:=hB;have K:Hid (ag wr w.heap.size #[.I 0,.I 0] 116):=oA;clear hrun dW hB oA;by_cases d:k<e.length
  .obtain⟨b,off,rfl,d0,d1,d2,d3,d4⟩:=alA b5 d;have C:=br.ck f.out;have e0:=C _ _ _ d0;have e1:=C _ _ _ d1;have e2:=C _ _ _ d2;have e3:=C _ _ _ d3;have ew:=fB e0;clear C d0 d1 d2 d3;have Zl:=IX.out _ (vbe d);generalize hT:e[k]=t at *;have Zm:Hid (Met t.op):=Zl;clear Zl;have J:Hid _:=hT;clear hT;go_wp2_with fail
   refine(alf _ _).mono ?_;rintro aW w1 ⟨rfl,rfl⟩;obtain⟨m,iD,X⟩:=alB t.op;have H:Hid _:=X;have aEI:(operands t.op).1=(m:Int):=X;clear X;by_cases iE:(operands t.op).2=true
   .by_cases alD:m<=st.length
    .have aEJ:¬((st.length:Int)<(m:Int)):=by omega
     have IY:=(ag.new wr #[.I t.op,.I t.a,.I t.v,.string t.s] 36);have Zn:Hid _:=alC (bl:=bl) H.out iE alD;have kY:=(hv.mono ni (br.ck f.out)).mono ni ((br.refl wr).alloc (.cells #[.I t.op,.I t.a,.I t.v,.string t.s] 36));have yw:=eF.tail (r.out.alloc (.cells #[.I t.op,.I t.a,.I t.v,.string t.s] 36)) AP (st.length-m) AP;have nS:(0:Int)<=((st.length-m:Nat):Int):=AP;have k0:((st.length-m:Nat):Int)<=(st.length:Int):=AP;have IZ:(st.length:Int)-(m:Int)=((st.length-m:Nat):Int):=AP;have yx:(st.drop (st.length-m)).length<=2:=by rw[List.length_drop];omega
     have Zo:Hid ((operands t.op).1=((st.drop (st.length-m)).length:Int)):=by unfold Hid;rw[H.out,List.length_drop];omega
     have k1:=(br.refl (wr.alloc (.cells #[.I t.op,.I t.a,.I t.v,.string t.s] 36))).drew;have k2:=((br.refl (wr.alloc (.cells #[.I t.op,.I t.a,.I t.v,.string t.s] 36))).alloc (.cells #[.I 0,.I 0] 116)).drew;have R5:Hid (∀W,br (wr.alloc (.cells #[.I t.op,.I t.a,.I t.v,.string t.s] 36)) W->eF W A bl):=λW hk=>kY.mono ni hk;have M:Hid (∀W,br (wr.alloc (.cells #[.I t.op,.I t.a,.I t.v,.string t.s] 36)) W->eF W _ _):=λW hk=>yw.mono ni hk;have rV:Hid _:=k1;have F2:Hid _:=k2;clear kY yw k1 k2;generalize Cm:(if c=st.length-m then a else a.map (·.add ((st.length-m)*2)))=aEK at M;generalize bt:Cl t (st.drop (st.length-m)) bl=R at *;have N:Hid _:=bt;clear bt;have R6:=(ag.new (wr.alloc (.cells #[.I t.op,.I t.a,.I t.v,.string t.s] 36)) #[.I 0,.I 0] 116).drew;rw[show(wr.alloc (.cells #[.I t.op,.I t.a,.I t.v,.string t.s] 36)).heap.size=wr.heap.size+1 by simp]at R6;go_upto_region 11 with fail
     go_cut [12,13] (λp ok W=>∃B,p=.P B 0/\ok=.bool R.2/\ag W B #[.I R.1.1,.I R.1.2] 116/\cy wr W/\wr.heap.size<=B)
     case first=>
      go_region_held3 (λW=>W.cell? (.a wr.heap.size 0)=some (.I t.op)/\W.cell? (.a wr.heap.size 1)=some (.I t.a)/\W.cell? (.a wr.heap.size 2)=some (.I t.v)/\W.cell? (.a wr.heap.size 3)=some (.string t.s))
       ((go_split_ands;refine⟨?_,?_,?_,?_⟩<;>first|(exact(br.ck n) _ _ _ CN)|(exact xe (xe CN AP) AP)|(exact((IY.drew.call n).alloc _).rules.1 _)|(go_keep;done)))
       (first|(go_at_call 101;refine(Zi t Zm.out d4 _ bl yx Zo.out _ A _ (R5.out _ rV.out) (M.out _ rV.out)).mono ?_;rintro aW w2 ⟨rfl,n⟩)|(go_at_call 101;refine(Zi t Zm.out d4 _ bl yx Zo.out _ A _ (R5.out _ F2.out) (M.out _ F2.out)).mono ?_;rintro aW w2 ⟨rfl,n⟩;have Zp:=R6.call n;obtain⟨aEL,aEM,aEN⟩:=Zp.all))
      .go_wp2_with fail
       go_meet
       case rel=>exact⟨_,rfl,by rw[N.out],by rw[<-N.out];exact ag.new _ _ _,(Below.step n ((vaa _ _).alloc AP _).drew AQ).alloc (by have:=n.size;simp at this;omega) _,by have:=n.size;simp at this;omega⟩
      .go_wp2_with fail
       go_meet
       case rel=>exact⟨_,rfl,by rw[N.out],by rw[<-N.out];exact(Zp.set 0 _).set 1 _,(((Below.step n (((vaa _ _).alloc AP _).alloc AQ _).drew An).setCell AQ _).setCell AQ _),AP⟩
     case rest=>
      obtain⟨B,rfl,rfl,AK,L,aEO⟩:=hcut;have Zq:ag wc w.heap.size #[.I 0,.I 0] 116:=K.out.call L;have U:Hid (ag wc w.heap.size #[.I 0,.I 0] 116):=Zq;have F:Hid (wc.ownsRow (w.heap.size+1) 116 2 (.slice a st.length c) st.length (kp st)):=FZ r.out L;have q:Hid (cy w wc):=f.out.trans (L.mono f.out.size);have I0:Hid (∀g,(Value.slice a st.length c).ownBlock=some g->w.heap.size+1<=g/\g<wr.heap.size):=r.out.lt;have Zr:Hid (ag wc B #[.I R.1.1,.I R.1.2] 116):=AK;obtain⟨hcB,aEP,aEQ⟩:=AK.all;clear AK L R5 M rV F2 R6 IY Cm e0 e1 e2 e3 b5 Zq;by_cases T:R.2=true
      .have Cn:Hid (nR bl (e.take (k+1)) []=some (st.take (st.length-m)++[R.1])):=alz d I.out (by rw[J.out,Zn.out,vbz T]);have hlen:(st.take (st.length-m)++[R.1]).length=st.length-m+1:=BR;have hq:st.length-m<=20:=AP;have oz:=(ag.new wc #[.I R.1.1,.I R.1.2] 116).drew;have mX:Hid _:=Y4 oz;have HOW:Hid (∀g,a=some ⟨g,0,none⟩->(wc.alloc (.cells #[.I R.1.1,.I R.1.2] 116)).drew.ownsRow (w.heap.size+1) 116 2 (.S g 0 (st.length-m) c) (st.length-m) (kp (st.take (st.length-m)))):=by intro g hg;have Y:=F.out;rw[hg]at Y;have h2:=Y1 Y (st.length-m) AP;rw[ak7]at h2;exact(h2.alloc _).drew
       clear oz;rcases F.out.2 with⟨j,fM⟩|⟨g,cap',bq,j,Zs,O,R3,-⟩
       .have hst:st=[]:=BR;subst hst;simp at j;obtain⟨rfl,rfl⟩:=j;have MK:m=0:=BR;subst MK;have V:Hid _:=vcc (wc.alloc (.cells #[.I R.1.1,.I R.1.2] 116)).drew (w.heap.size+1) 116 2;clear F HOW I0;have x:(wc.alloc (.cells #[.I R.1.1,.I R.1.2] 116)).drew.heap.size=wc.heap.size+1:=AQ;have u:w.heap.size+1<=(wc.alloc (.cells #[.I R.1.1,.I R.1.2] 116)).drew.heap.size:=by have:=q.out.size;omega
        have P:Hid _:=x;have S:Hid _:=u;clear x u;go_upto_region 14 with fail
        go_region_held3 (λW=>W.cell? (.a B 0)=some (.I R.1.1)/\W.cell? (.a B 1)=some (.I R.1.2))
         ((go_split_ands;refine⟨?_,?_⟩<;>first|(exact((Zr.out.alloc _).drew.grown h (λg' D=>by simp[Value.ownBlock]at D)).rules.1 _)|(go_keep;done)))
         ((refine MD ME _ A_ _ _ A_ (w.heap.size+1) _ _ _ A_ V.out wc.heap.size 1 1 _ A_ rfl mX.out (RU _ _) AP AP AP S.out (wc.heap.size+1) P.out ?_;intro Z Q o Co h Cp AL))
        have E:=q.out.alloc (by have:=q.out.size;omega) (.cells #[.I R.1.1,.I R.1.2] 116);have Cq:Hid (cy w o):=E.drew.grown h (by have:=q.out.size;simp;omega) (λk' cS=>by simp[Value.ownBlock]at cS);have R7:Hid (ag o w.heap.size #[.I 0,.I 0] 116):=(U.out.alloc _).drew.grown h (λg' D=>by simp[Value.ownBlock]at D);have I1:Hid (o.ownsRow (w.heap.size+1) 116 2 (.S Z 0 1 Q) [R.1].length (kp [R.1])):=by grind[kp]
        clear E h Co Cp AL;go_wp2_with fail
        go_roundw
        case rel=>
         exact⟨k+1,[R.1],AP,by go_num,by simpa using Cn.out,AQ,AJ,I1.out,Cq.out,R7.out⟩
        case measure=>simp[intOf];omega
       .simp at j;obtain⟨rfl,rfl⟩:=j;have Zt:=HOW.out g rfl;have V:Hid _:=Zt;have alE:=I0.out g rfl;have rX:((st.length-m:Nat):Int)<=(c:Int):=AP;clear Zt O F HOW I0;have x:(wc.alloc (.cells #[.I R.1.1,.I R.1.2] 116)).drew.heap.size=wc.heap.size+1:=AQ;have u:w.heap.size+1<=(wc.alloc (.cells #[.I R.1.1,.I R.1.2] 116)).drew.heap.size:=AP;have P:Hid _:=x;have S:Hid _:=u;clear x u;go_upto_region 14 with fail
        go_region_held3 (λW=>W.cell? (.a B 0)=some (.I R.1.1)/\W.cell? (.a B 1)=some (.I R.1.2))
         ((go_split_ands;refine⟨?_,?_⟩<;>first|(exact((Zr.out.alloc _).drew.grown h (λg' D=>HI)).rules.1 _)|(go_keep;done)))
         ((refine MD ME _ A_ _ _ A_ (w.heap.size+1) _ _ _ A_ V.out wc.heap.size 1 1 _ A_ rfl mX.out (RU _ _) AP AP AP S.out (wc.heap.size+1) P.out ?_;intro Z Q o Co h Cp AL))
        have E:=q.out.alloc AJ (.cells #[.I R.1.1,.I R.1.2] 116);have Cq:Hid (cy w o):=E.drew.grown h (by have:=q.out.size;simp;omega) (λk' cS=>HI);have R7:Hid (ag o w.heap.size #[.I 0,.I 0] 116):=(U.out.alloc _).drew.grown h (λg' D=>HI);have I1:Hid (o.ownsRow (w.heap.size+1) 116 2 (.S Z 0 (st.length-m+1) Q) (st.take (st.length-m)++[R.1]).length (kp (st.take (st.length-m)++[R.1]))):=by grind[Y2]
        clear E h Co Cp AL;go_wp2_with fail
        go_roundw
        case rel=>
         exact⟨k+1,st.take (st.length-m)++[R.1],AP,by go_num,Cn.out,AJ,AJ,I1.out,Cq.out,R7.out⟩
        case measure=>simp[intOf];omega
      .have R8:R.2=false:=by simp_all
       have z:Hid (iC e bl=((0,0),false)):=R2 (R1 d I.out (by rw[J.out,Zn.out,vbt T]));clear T;obtain⟨l,bO,s⟩:=U.out.all;go_wp2_with fail
       exact vai (v:=.tuple #[fe (0,0),.F]) G5 rfl ⟨by rw[z.out],(q.out.setCell AQ _).setCell AQ _⟩
    .have z:Hid (iC e bl=((0,0),false)):=R2 (R1 d I.out (by rw[J.out];exact Zj H.out AP));obtain⟨l,bO,s⟩:=K.out.all;go_wp2_with fail
     exact vai (v:=.tuple #[fe (0,0),.F]) (by simp[results,results66,go_sem,l,s]) rfl ⟨by rw[z.out],((f.out.setCell AQ _).setCell AQ _).alloc FN _⟩
   .have aER:(operands t.op).2=false:=by simp_all
    have z:Hid (iC e bl=((0,0),false)):=R2 (R1 d I.out (by rw[J.out];exact Zj H.out BR));clear iE;obtain⟨l,bO,s⟩:=K.out.all;go_wp2_with fail
    exact vai (v:=.tuple #[fe (0,0),.F]) (by simp[results,results66,go_sem,l,s]) rfl ⟨by rw[z.out],((f.out.setCell AQ _).setCell AQ _).alloc FN _⟩
  .have I2:e.take k=e:=AJ;have alF:Hid (nR bl e []=some st):=AJ;obtain⟨l,bO,s⟩:=K.out.all;by_cases Zu:st.length=1
   .obtain⟨t,rfl⟩:∃t,st=[t]:=List.length_eq_one_iff.1 Zu;have y:Hid (iC e bl=(t,true)):=by simp_all[Hid,iC]
    rcases r.out.2 with⟨-,fM⟩|⟨g,cap',bq,j,Zs,O,-⟩
    .grind
    .simp at j;obtain⟨rfl,rfl⟩:=j;have yz:=rT r.out 0 (.I t.1) (by simp[kp]);have lR:=rT r.out 1 (.I t.2) (by simp[kp]);clear O I2 Zu;go_wp2_with fail
     exact vai (v:=.tuple #[fe t,.T]) G5 rfl ⟨by rw[y.out],(f.out.setCell AQ _).setCell AQ _⟩
   .have y:Hid (iC e bl=((0,0),false)):=by unfold Hid iC;rw[vbt tZ.out,alF.out];grind
    have Cr:((st.length:Int)==1)=false:=AJ;go_wp2_with fail
    exact vai (v:=.tuple #[fe (0,0),.F]) G5 rfl ⟨by rw[y.out],(f.out.setCell AQ _).setCell AQ _⟩
end
variable{es:List (List bH)}
section
attribute [local go_sem ↓] Go.wp_at_zero Go.wp_at_succ
abbrev Se(n:lV)(eu cM jx b6:Value):Value:=.agg #[.I n.op,.I n.a,.I n.b,eu,cM,jx,b6]
attribute [local go_sem ↓] Go.wp_at_zero Go.wp_at_succ
def ZD{a:Value}(h:nP w a es){k:Nat}(hk:k<es.length):
 ∃b off cap v,a=.S b off es.length cap/\b<w.heap.size/\w.cell? (.a b (off+k))=some v/\rS w v es[k]:=by
 obtain⟨e,cap,rfl,d,c⟩:=h;obtain⟨b,off,rfl,v,h0,hv⟩:=c k hk;simp at h0;exact⟨b,off,cap,v,Y,fB h0,h0,hv⟩
def vo(w':aH)(e:Ending)(o:Option (List (Int×Int))):Prop:=
 match o with
 |some l=>∃v,e=.returned (.tuple #[v,.T])/\eF w' v l/\eU 116 w' v
 |none=>∃v,e=.returned (.tuple #[v,.F])
@[simp] theorem aEX:dk true 45:=ved func45
def yC(n:lV)(bl:fK):Bool:=(iC (n.h_.getD 0 []) bl).2&&((iC (n.h_.getD 0 []) bl).1.1==4)
def alW(n:lV)(m cM i s d:Value)(bl:fK)(w:aH)(hn:tU w m cM i s n)(J:0<n.h_.length)(h:∀t∈n.h_.getD 0 [],Met t.op)(hv:eF w d bl):
 Calls vee 45 #[Se n m cM i s,d] w λe w'=>e=.returned (.tuple #[d,.bool (yC n bl)])/\cy w w':=by
 obtain⟨b,off,cap,L,rfl,I,p,j⟩:=ZD hn.h_ (k:=0) AP;obtain⟨_,_,v,y,A,jZ,aa,z,-,rfl,rfl,rfl⟩:=hn.shape;simp only[vcg]at p;obtain⟨E,F,rfl,-⟩:=hv.shape;obtain⟨B,K,rfl,-⟩:=j.shape;have f:=(br.refl w).alloc (.cells #[.I n.op,.I n.a,.I n.b,.S b off n.h_.length cap,.slice v n.FX.length y,.slice A n.others.length jZ,.slice aa n.FY.length z] 43);have l:=aZ.mono tT f j;have a:=aZ.mono ni f hv;have o:n.h_.getD 0 []=n.h_[0]:=AJ;have C:Hid (∀t∈n.h_[0],Met t.op):=o▸h;have u:Hid (yC n bl=((iC n.h_[0] bl).2&&((iC n.h_[0] bl).1.1==4))):=by grind[Hid,yC]
 have H:(0:Int)<(n.h_.length:Int):=AP;clear o f hn h;generalize q:iC n.h_[0] bl=R at *;have x:Hid _:=q;clear q;go_enter (vea func45),ntmps45
 go_wp2_with fail
 refine(Zk _ C.out bl _ _ _ l a).mono ?_;rintro e w1 ⟨rfl,r⟩;rw[x.out];have c:Hid (cy w w1):=Below.step r ((vaa _ _).alloc AQ _) AQ;clear r l a p;by_cases g:R.2=true
 .go_wp2_with fail
  go_quiet (fail)
  go_wp2_with fail
  go_ret2
  exact⟨by rw[u.out,g];simp,below_drewN (c.out.alloc Cz _) _⟩
 .have D:R.2=false:=by grind
  clear g;go_wp2_with fail
  go_quiet (fail)
  go_wp2_with fail
  go_ret2
  exact⟨by rw[u.out,D];simp,below_drewN (c.out.alloc Cz _) _⟩
def alY(n:lV)(d cM b g a:Value)(bl:fK)(w:aH)(hn:tU w d cM b g n)(i:0<n.h_.length)(h:∀t∈n.h_.getD 0 [],Met t.op)(hv:eF w a bl)(j:eU 116 w a):
 Calls vee 45 #[Se n d cM b g,a] w λe w'=>vo w' e (if yC n bl=true then some bl else none)/\cy w w':=by
 refine(alW n d cM b g a bl w hn i h hv).mono ?_;rintro e w1 ⟨rfl,f⟩;refine⟨?_,f⟩;by_cases c:yC n bl=true
 .rw[vbz c,c];exact⟨_,Y,aZ.mono ni (br.ck f) hv,j.call f⟩
 .rw[vbt c];exact⟨a,AJ⟩
def lW(bl:fK):List (List bH)->Option (List (Int×Int))
 | []=>some []
 |e::r=>if(iC e bl).2=true/\(iC e bl).1.1≠4 then(lW bl r).map ((iC e bl).1:: ·)else none
def ZE(bl:fK)(l:List (List bH))(e:List bH):lW bl (l++[e])=(lW bl l).bind (λs=>if(iC e bl).2=true/\(iC e bl).1.1≠4 then some (s++[(iC e bl).1])else none):=by
 induction l with
 |nil=>grind[lW]
 |cons a r b=>
  simp only[List.cons_append,lW];split
  .rw[b];cases lW bl r with|none=>rfl|some s=>grind
  .rfl
theorem alZ(bl:fK)(l r:List (List bH))(h:lW bl l=none):lW bl (l++r)=none:=by induction l with|nil=>simp[lW]at h|cons a l b=>simp_all[lW]
def al0{bl:fK}{k:Nat}(hk:k<es.length){st:fK}(h:lW bl (es.take k)=some st)(hs:¬((iC es[k] bl).2=true/\(iC es[k] bl).1.1≠4)):lW bl es=none:=by
 have a:lW bl (es.take (k+1))=none:=by rw[List.take_succ_eq_append_getElem hk,ZE,h,Option.bind_some,vbt hs]
 grind[alZ,List.take_append_drop]
def al1{bl:fK}{k:Nat}(hk:k<es.length){st:fK}(h:lW bl (es.take k)=some st)(hs:(iC es[k] bl).2=true/\(iC es[k] bl).1.1≠4):lW bl (es.take (k+1))=some (st++[(iC es[k] bl).1]):=by rw[List.take_succ_eq_append_getElem hk,ZE,h,Option.bind_some,vbz hs]
def al2(n:lV)(J cM H O M:Value)(bl:fK)(w:aH)(hn:tU w J cM H O n)(C:∀e∈n.h_,∀t∈e,Met t.op)(kI:n.h_.length<=8)(hv:eF w M bl):
 Calls vee 46 #[Se n J cM H O,M] w λe w'=>vo w' e (lW bl n.h_)/\cy w w':=by
 have p:=hn.h_;have IX:Hid _:=C;obtain⟨pS,ce,oy,iR,bm,jZ,aa,fL,rfl,rfl,rfl,rfl⟩:=hn.shape;clear hn C;go_enter (vea func46),ntmps46
 go_wp2
 go_loopw [6,14] (λv i W=>∃(k:Nat)(st:fK),k<=n.h_.length/\i=.I k/\lW bl (n.h_.take k)=some st/\st.length=k/\W.ownsRow (w.heap.size+1) 116 2 v st.length (kp st)/\cy w W)
  (λ_ i _=>n.h_.length-(intOf i).toNat)
 case atStart=>exact⟨0,[],vba _,rfl,rfl,rfl,vcc _ _ _ _,(vaa _ _).alloc Kj _⟩
 case round=>
  obtain⟨k,st,hk,rfl,hrun,Q,f,q⟩:=hrel;have E:Hid _:=hrun;have l:Hid (cy w wr):=q;have s:Hid _:=Q;by_cases a:k<n.h_.length
  .obtain⟨b,off,cap,MQ,A,hb,L,o⟩:=ZD p a;simp at A;obtain⟨rfl,rfl⟩:=A;have j:=br.ck l.out;have K:=j _ _ _ L;have ew:=fB K;have I:=aZ.mono tT j o;have d:=aZ.mono ni j hv;obtain⟨alX,MR,rfl,-⟩:=o.shape;have kK:Hid (wr.ownsRow (w.heap.size+1) 116 2 u6 st.length (kp st)):=f;clear hrun Q f q j L o;go_wp2_with fail
   refine(Zk _ (IX.out _ (vbe a)) bl _ _ _ I d).mono ?_;rintro e w1 ⟨rfl,r⟩;have x:Hid (w1.ownsRow (w.heap.size+1) 116 2 u6 st.length (kp st)):=FZ kK.out r;have c:Hid (cy w w1):=Below.step r l.out l.out.size;clear r I d K;generalize N:iC n.h_[k] bl=R at *;have u:Hid _:=N;clear N;by_cases h:R.2=true/\R.1.1≠4
   .obtain⟨B,P⟩:=h;have aEY:(R.1.1==4)=false:=AJ;have Cn:Hid (lW bl (n.h_.take (k+1))=some (st++[R.1])):=by have:=al1 a E.out (by rw[u.out];grind);rw[u.out]at this;exact this
    have m:=(ag.new (w1.alloc (.cells #[.I R.1.1,.I R.1.2] 116)) #[.I R.1.1,.I R.1.2] 116);rw[show(w1.alloc (.cells #[.I R.1.1,.I R.1.2] 116)).heap.size=w1.heap.size+1 by simp]at m;have Z:Hid _:=Y4 m;have Y:Hid _:=(x.out.alloc (.cells #[.I R.1.1,.I R.1.2] 116)).alloc (.cells #[.I R.1.1,.I R.1.2] 116);have T:Hid (((w1.alloc (.cells #[.I R.1.1,.I R.1.2] 116)).alloc (.cells #[.I R.1.1,.I R.1.2] 116)).heap.size=w1.heap.size+1+1):=BR;have V:Hid (w.heap.size+1<=((w1.alloc (.cells #[.I R.1.1,.I R.1.2] 116)).alloc (.cells #[.I R.1.1,.I R.1.2] 116)).heap.size):=by have:=c.out.size;grind[Hid]
    have z:Hid (st.length<=8):=by grind[Hid]
    have I0:Hid (∀g,u6.ownBlock=some g->w.heap.size+1<=g):=λg hg=>(x.out.lt g hg).1;clear m P;go_wp2_with (at_builtin;refine IR ME _ A_ _ _ A_ (w.heap.size+1) u6 st.length (kp st) A_ Y.out (w1.heap.size+1) 1 1 _ A_ rfl Z.out (RU _ _) AP (by have:=z.out;omega) (by have:=z.out;omega) V.out (w1.heap.size+1+1) T.out ?_;intro gA U y Co D Cp AL)
    have S:=(c.out.alloc Cz (.cells #[.I R.1.1,.I R.1.2] 116)).alloc IS (.cells #[.I R.1.1,.I R.1.2] 116);have Cq:Hid (cy w y):=S.grown D IS (λk' cS=>by have:=I0.out k' cS;omega);have hlen:(st++[R.1]).length=st.length+1:=AQ;have I1:Hid (y.ownsRow (w.heap.size+1) 116 2 (.S gA 0 (st.length+1) U) (st++[R.1]).length (kp (st++[R.1]))):=by grind[Hid,Y2]
    clear S D Co Cp AL;go_roundw
    case rel=>exact⟨k+1,st++[R.1],AP,by go_num,Cn.out,by rw[hlen,s.out],I1.out,Cq.out⟩
    case measure=>simp[intOf];omega
   .have F:Hid (lW bl n.h_=none):=al0 a E.out (by rw[u.out];exact h);by_cases B:R.2=true
    .have P:(R.1.1==4)=true:=by grind
     clear h;go_wp2_with fail
     go_ret2
     exact⟨by rw[F.out];exact⟨_,rfl⟩,c.out.alloc Cz _⟩
    .have R8:R.2=false:=by grind
     clear h B;go_wp2_with fail
     go_ret2
     exact⟨by rw[F.out];exact⟨_,rfl⟩,c.out.alloc Cz _⟩
  .have I2:n.h_.take k=n.h_:=AJ;have X:Hid (lW bl n.h_=some st):=AJ;have gD:Hid (eF wr u6 st/\eU 116 wr u6):=⟨eF.AG f AP,eU.AG f⟩;clear hrun f q I2;go_wp2_with fail
   go_ret2
   exact⟨by rw[X.out];exact⟨_,rfl,gD.out⟩,l.out⟩
end
variable{o:Option (List (Int×Int))}{v:Value}
section
attribute [local go_sem ↓] Go.wp_at_zero Go.wp_at_succ
def ZG(w:aH)(rd:uaq)(x:fK):Prop:=∃v,rd 0=some v/\eF w v x
def al4:pM ZG:=λ_ _ _ _ _ hk a⟨v,h0,h⟩=>⟨v,a _ _ h0,h.mono ni hk⟩
abbrev Cx(w:aH):=aZ w 1 ZG
attribute [local go_sem ↓] Go.wp_at_zero Go.wp_at_succ
def F8(w:aH)(v:Value)(ok:Bool)(o:Option (List (Int×Int))):Prop:=
 match o with
 |some l=>ok=true/\eF w v l/\eU 116 w v
 |none=>ok=false
theorem vo.shape{e:Ending}(h:vo w e o):∃v ok,e=.returned (.tuple #[v,.bool ok])/\F8 w v ok o:=by
 cases o with
 |none=>obtain⟨v,h⟩:=h;exact⟨v,false,h,Y⟩
 |some l=>obtain⟨v,h,hv⟩:=h;exact⟨v,true,h,Y,hv⟩
def F8.ret{ok:Bool}(h:F8 w v ok o):vo w (.returned (.tuple #[v,.bool ok])) o:=by cases o with|none=>simp[F8]at h;subst h;exact⟨v,Y⟩|some l=>obtain⟨h,hv⟩:=h;subst h;exact⟨v,Y,hv⟩
def ZH{bk:List (List (Int×Int))}(h:Cx w v bk){k:Nat}(hk:k<bk.length):
 ∃b off cap a c,v=.S b off bk.length cap/\b<w.heap.size/\w.cell? (.a b (off+k))=some (.slice a bk[k].length c)/\eF w (.slice a bk[k].length c) bk[k]:=by
 obtain⟨f,cap,rfl,e,d⟩:=h;obtain⟨b,off,rfl,v,h0,hv⟩:=d k hk;simp at h0;obtain⟨a,c,rfl,-⟩:=hv.shape;exact⟨b,off,cap,a,c,Y,fB h0,h0,hv⟩
def al5{ts:List (List bo)}(h:Cj w v ts){k:Nat}(hk:k<ts.length):
 ∃b off cap a c,v=.S b off ts.length cap/\b<w.heap.size/\w.cell? (.a b (off+k))=some (.slice a ts[k].length c)/\nO w (.slice a ts[k].length c) ts[k]:=by
 obtain⟨f,cap,rfl,e,d⟩:=h;obtain⟨b,off,v,rfl,h0,hv⟩:=ZC d hk;obtain⟨a,c,rfl,-⟩:=hv.shape;exact⟨b,off,cap,a,c,Y,fB h0,h0,hv⟩
def al6(bs p:Nat)(b:Int)(ed:Value)(ts:List (List bo))(d f i aa:uam)(le lk lo nW ce g jZ h:Nat)(w:aH)(r:w.cell? (.a bs 0)=some ed)(ht:Cj w ed ts)(u:p<ts.length)(z:ts[p].length<=8):
 Calls vee 35 #[.P bs 0,.agg #[.I 1,.I p,.I b,.slice d le ce,.slice f lk g,.slice i lo jZ,.slice aa nW h]] w λe w'=>vo w' e (some (sU ts[p]))/\cy w w':=by
 obtain⟨m,k,ct,a,c,rfl,C,B,q⟩:=al5 ht u;have D:=fB r;have y:(0:Int)<=(p:Int):=AP;have A:(p:Int)<(ts.length:Int):=AP;have n:=((br.refl w).alloc (.cells #[.I 1,.I p,.I b,.slice d le ce,.slice f lk g,.slice i lo jZ,.slice aa nW h] 43)).drew;have o:=aZ.mono sO n q;have HC:Hid _:=o;have l:=((vaa w.heap.size w).alloc Kj (.cells #[.I 1,.I p,.I b,.slice d le ce,.slice f lk g,.slice i lo jZ,.slice aa nW h] 43)).drew;have s:Hid _:=l;clear n q o ht l;go_enter (vea func35),ntmps35
 go_wp2_with fail
 go_region_held3 (λW=>W.cell? (.a bs 0)=some (.S m k ts.length ct)/\W.cell? (.a w.heap.size 1)=some (.I p)/\W.cell? (.a m (k+p))=some (.slice a ts[p].length c))
  ((go_split_ands;refine⟨?_,?_,?_⟩<;>first|(exact(br.ck j) _ _ _ AJ)|(go_keep;done)))
  (first|(go_at_call 44;refine(alU ts[p] _ _ HC.out AP).mono ?_;rintro e w1 ⟨v1,rfl,t,x,j⟩))
 have v:Hid (cy w w1):=Below.step j s.out AQ;clear j;go_wp2_with fail
 go_ret2
 exact⟨⟨_,Y,t,x⟩,v.out⟩
def al7(bs p:Nat)(b:Int)(es:List (List bH))(ks os:ubd)(d:fK)(dR:Value)(bk:List (List (Int×Int)))(y cM u A:Value)(w:aH)(hn:tU w y cM u A ⟨2,p,b,es,ks,os,d⟩)(F:w.cell? (.a bs 2)=some dR)(ht:Cx w dR bk)(J:p<bk.length)(K:0<es.length)(r:∀t∈es.getD 0 [],Met t.op)(B:∀b off cap v,dR=.S b off bk.length cap->w.cell? (.a b (off+p))=some v->eU 116 w v):
 Calls vee 35 #[.P bs 0,.agg #[.I 2,.I p,.I b,y,cM,u,A]] w λe w'=>vo w' e (if yC ⟨2,p,b,es,ks,os,d⟩ bk[p]=true then some bk[p]else none)/\cy w w':=by
 obtain⟨z,n,ct,a,c,rfl,S,M,nX⟩:=ZH ht J;have T:=fB F;have Q:(0:Int)<=(p:Int):=AP;have R:(p:Int)<(bk.length:Int):=AP;obtain⟨f,ce,g,h,j,jZ,aa,i,rfl,rfl,rfl,rfl⟩:=hn.shape;simp only at hn;have k:=((br.refl w).alloc (.cells #[.I 2,.I p,.I b,.slice f es.length ce,.slice g ks.length h,.slice j os.length jZ,.slice aa d.length i] 43)).drew;have C:=aZ.mono ni k nX;have x:=hn.mono k;have HC:Hid (eF _ _ bk[p]):=C;have m:Hid (eU 116 _ _):=(B _ _ _ _ Y M).call (((vaa w.heap.size w).alloc Kj (.cells #[.I 2,.I p,.I b,.slice f es.length ce,.slice g ks.length h,.slice j os.length jZ,.slice aa d.length i] 43)).drew);have I:Hid _:=x;have E:Hid _:=((vaa w.heap.size w).alloc Kj (.cells #[.I 2,.I p,.I b,.slice f es.length ce,.slice g ks.length h,.slice j os.length jZ,.slice aa d.length i] 43)).drew;have P:Hid (∀t∈(⟨2,p,b,es,ks,os,d⟩:lV).h_.getD 0 [],Met t.op):=r;clear r B k nX C ht hn x;generalize s:(if yC ⟨2,p,b,es,ks,os,d⟩ bk[p]=true then some bk[p]else none)=o;have H:Hid _:=s;clear s;go_enter (vea func35),ntmps35
 go_wp2_with fail
 go_region_held3 (λW=>W.cell? (.a bs 2)=some (.S z n bk.length ct)/\W.cell? (.a w.heap.size 0)=some (.I 2)/\W.cell? (.a w.heap.size 1)=some (.I p)/\W.cell? (.a w.heap.size 2)=some (.I b)/\W.cell? (.a w.heap.size 3)=some (.slice f es.length ce)/\W.cell? (.a w.heap.size 4)=some (.slice g ks.length h)/\W.cell? (.a w.heap.size 5)=some (.slice j os.length jZ)/\W.cell? (.a w.heap.size 6)=some (.slice aa d.length i)/\W.cell? (.a z (n+p))=some (.slice a bk[p].length c))
  ((go_split_ands;refine⟨?_,?_,?_,?_,?_,?_,?_,?_,?_⟩<;>first|(exact(br.ck l) _ _ _ CN)|(go_keep;done)))
  (first|(go_at_call 45;refine(alY ⟨2,p,b,es,ks,os,d⟩ _ _ _ _ _ bk[p] _ I.out K P.out HC.out m.out).mono ?_;rintro e w1 ⟨D,l⟩;obtain⟨v1,O,rfl,q⟩:=vo.shape D))
 have L:Hid (cy w w1):=Below.step l E.out AQ;have N:Hid (F8 w1 v1 O _):=q;clear l D q;go_wp2_with fail
 go_ret2
 exact⟨by rw[<-H.out];exact N.out.ret,L.out⟩
def al9(bs p:Nat)(b:Int)(es:List (List bH))(ks os:ubd)(d:fK)(dR:Value)(bk:List (List (Int×Int)))(v cM s y:Value)(w:aH)(hn:tU w v cM s y ⟨3,p,b,es,ks,os,d⟩)(C:w.cell? (.a bs 2)=some dR)(ht:Cx w dR bk)(H:p<bk.length)(q:∀e∈es,∀t∈e,Met t.op)(E:es.length<=8):
 Calls vee 35 #[.P bs 0,.agg #[.I 3,.I p,.I b,v,cM,s,y]] w λe w'=>vo w' e (lW bk[p] es)/\cy w w':=by
 obtain⟨x,m,ct,a,c,rfl,P,O,nX⟩:=ZH ht H;have Q:=fB C;have M:(0:Int)<=(p:Int):=AP;have N:(p:Int)<(bk.length:Int):=AP;obtain⟨f,ce,g,h,k,jZ,aa,i,rfl,rfl,rfl,rfl⟩:=hn.shape;simp only at hn;have j:=((br.refl w).alloc (.cells #[.I 3,.I p,.I b,.slice f es.length ce,.slice g ks.length h,.slice k os.length jZ,.slice aa d.length i] 43)).drew;have z:=aZ.mono ni j nX;have u:=hn.mono j;have HC:Hid (eF _ _ bk[p]):=z;have F:Hid _:=u;have B:Hid _:=((vaa w.heap.size w).alloc Kj (.cells #[.I 3,.I p,.I b,.slice f es.length ce,.slice g ks.length h,.slice k os.length jZ,.slice aa d.length i] 43)).drew;have L:Hid _:=q;clear j nX z ht hn u q;generalize r:(lW bk[p] es)=o;have D:Hid _:=r;clear r;go_enter (vea func35),ntmps35
 go_wp2_with fail
 go_region_held3 (λW=>W.cell? (.a bs 2)=some (.S x m bk.length ct)/\W.cell? (.a w.heap.size 0)=some (.I 3)/\W.cell? (.a w.heap.size 1)=some (.I p)/\W.cell? (.a w.heap.size 2)=some (.I b)/\W.cell? (.a w.heap.size 3)=some (.slice f es.length ce)/\W.cell? (.a w.heap.size 4)=some (.slice g ks.length h)/\W.cell? (.a w.heap.size 5)=some (.slice k os.length jZ)/\W.cell? (.a w.heap.size 6)=some (.slice aa d.length i)/\W.cell? (.a x (m+p))=some (.slice a bk[p].length c))
  ((go_split_ands;refine⟨?_,?_,?_,?_,?_,?_,?_,?_,?_⟩<;>first|(exact(br.ck l) _ _ _ CN)|(go_keep;done)))
  (first|(go_at_call 46;refine(al2 ⟨3,p,b,es,ks,os,d⟩ _ _ _ _ _ bk[p] _ F.out L.out E HC.out).mono ?_;rintro e w1 ⟨A,l⟩;obtain⟨v1,K,rfl,n⟩:=vo.shape A))
 have I:Hid (cy w w1):=Below.step l B.out AQ;have J:Hid (F8 w1 v1 K _):=n;clear l A n;go_wp2_with fail
 go_ret2
 exact⟨by rw[<-D.out];exact J.out.ret,I.out⟩
end
end bM
open RowKit au bM
variable{w w' w0 w2:aH}{bS cM dR ed v:Value}{b bs cap g n q size:Nat}{cs:fi}{T e:uab}{ts:List (List bo)}{ns:List lV}{bk:List (List (Int×Int))}{aS:ubt}{vals xs:uaj}
section
attribute [local go_sem ↓] Go.wp_at_zero Go.wp_at_succ
attribute [local go_sem ↓] Go.wp_at_zero Go.wp_at_succ
def ints_at{l:ubd}(h:iQ w v l){k:Nat}(hk:k<l.length):
 ∃b off cap,v=.S b off l.length cap/\b<w.heap.size/\w.cell? (.a b (off+k))=some (.I l[k]):=by
 obtain⟨d,cap,rfl,c,a⟩:=h;obtain⟨b,off,rfl,h0⟩:=a k hk;simp[rQ]at h0;exact⟨b,off,cap,Y,fB h0,h0⟩
def iQ.box(h:ag w b cs T)(xs:ubd)(cap:Nat)(a:xs.length<=9223372036854775807)(c:∀i(h:i<xs.length),cs[i]?=some (.I xs[i])):iQ w (.S b 0 xs.length cap) xs:=
 ⟨_,cap,Y,a,λi hi=>⟨b,0,Y,by simp[rQ];rw[h.rules.1 i];grind⟩⟩
structure MV(w:aH)(bs:Nat)(ed bS dR cM:Value)(ts:List (List bo))(ns:List lV)(bk:List (List (Int×Int)))(aS:ubt):Prop where
 cz:w.cell? (.a bs 0)=some ed
 c1:w.cell? (.a bs 1)=some bS
 co:w.cell? (.a bs 2)=some dR
 db:w.cell? (.a bs 3)=some cM
 AO:Cj w ed ts
 nodes:IQ w bS ns
 types:Cx w dR bk
 taken:IN w cM aS
theorem MV.mono(hk:br w w')(h:MV w bs ed bS dR cM ts ns bk aS):MV w' bs ed bS dR cM ts ns bk aS:=
 ⟨hk _ _ _ h.cz,hk _ _ _ h.c1,hk _ _ _ h.co,hk _ _ _ h.db,h.AO.mono MB hk,h.nodes.mono RQ hk,h.types.mono al4 hk,h.taken.mono RL hk⟩
def I9(h:ag w b cs T):w.shape? b=some (T,cs.size):=by grind[ag,World.shape?]
def eU.ne{a:uab}{off c:Nat}(h:eU T w (.S b off n c))(hg:ag w g cs a)(d:T≠a):b≠g:=by rintro rfl;obtain⟨k,hk⟩:=h _ _ _ _ Y;rw[I9 hg]at hk;grind
theorem aZ.typed{ao:Type}{d:Nat}{R:aH->(Nat->Option Value)->ao->Prop}{xs:List ao}(h:aZ w d R v xs)(l:∀rd a x,(∀j,a j=rd j)->R w rd x->R w' a x)(hk:∀b off n c,v=.S b off n c->∀o,w'.cell? (.a b o)=w.cell? (.a b o)):aZ w' d R v xs:=by
 obtain⟨f,cap,rfl,e,g⟩:=h;refine⟨f,cap,Y,e,λi hi=>?_⟩;obtain⟨b,off,rfl,k⟩:=g i hi;grind
def eF.yD{l:fK}(h:eF w v l)(hk:∀b off n c,v=.S b off n c->w'.heap[b]?=w.heap[b]?):eF w' v l:=by refine aZ.typed h ?_ (λb off n c e o=>World.cell?_of_block (w:=w) AJ);intro rd f x d a;exact⟨by rw[d];exact a.1,by rw[d];exact a.2⟩
def iQ.yD{l:ubd}(h:iQ w v l)(hk:∀b off n c,v=.S b off n c->w'.heap[b]?=w.heap[b]?):iQ w' v l:=by grind[aZ.typed,World.cell?_of_block,rQ]
def eU.yD(h:eU T w v)(hk:∀b off n c,v=.S b off n c->w'.heap[b]?=w.heap[b]?):eU T w' v:=by intro b off n c e;obtain⟨k,a⟩:=h b off n c e;grind[World.shape?]
structure Own(w0 w:aH)(bs:Nat)(ed bS dR cM:Value)(ts:List (List bo))(ns:List lV)(bk:List (List (Int×Int)))(aS:ubt)(vals:uaj):Prop where
 below:cy w0 w
 AO:Cj w0 ed ts
 nodes:IQ w0 bS ns
 F9:w0.heap.size<=bs
 box:ag w bs #[ed,bS,dR,cM] 86
 pZ:w.ownsRow w0.heap.size 81 1 dR bk.length vals
 qV:w.ownsRow w0.heap.size 4 1 cM aS.length (aS.map .bool)
 small:bk.length<=1000
 MW:aS.length<=1000
 each:∀j(h:j<bk.length),∃v,vals[j]?=some v/\eF w v bk[j]/\eU 116 w v
def IN.AG{base:Nat}{l:ubt}(h:w.ownsRow base e 1 v l.length (l.map .bool))(a:l.length<=9223372036854775807):IN w v l:=by
 have b:=h;rcases b.2 with⟨rfl,h0⟩|⟨g,cap,bq,rfl,c⟩
 .grind[aZ.nil]
 .refine⟨_,cap,Y,a,λi hi=>⟨g,0,Y,?_⟩⟩;simp[Ch];grind[rT]
def Cx.AG{base:Nat}{l:List (List (Int×Int))}(h:w.ownsRow base e 1 v l.length vals)(b:l.length<=9223372036854775807)(c:∀j(h:j<l.length),∃v,vals[j]?=some v/\eF w v l[j]):Cx w v l:=by
 have d:=h;rcases d.2 with⟨rfl,h0⟩|⟨g,cap,bq,rfl,a⟩
 .grind[aZ.nil]
 .refine⟨_,cap,Y,b,λi hi=>⟨g,0,Y,?_⟩⟩;obtain⟨u,f,a⟩:=c i hi;refine⟨u,?_,a⟩;simp;grind[rT]
def Own.ZK(h:Own w0 w bs ed bS dR cM ts ns bk aS vals):MV w bs ed bS dR cM ts ns bk aS:=by have e:=h.box.rules.1;have c:=br.ck h.below;have hs:=h.small;have f:=h.MW;exact⟨AJ,AJ,AJ,AJ,h.AO.mono MB c,h.nodes.mono RQ c,Cx.AG h.pZ AP (λj d=>let⟨v,a,b,_⟩:=h.each j d;⟨v,a,b⟩),IN.AG h.qV AP⟩
theorem Own.call(h:Own w0 w bs ed bS dR cM ts ns bk aS vals)(d:cy w w'):Own w0 w' bs ed bS dR cM ts ns bk aS vals:=
 ⟨h.below.trans (d.mono h.below.size),h.AO,h.nodes,h.F9,h.box.call d,FZ h.pZ d,FZ h.qV d,h.small,h.MW,λj e=>let⟨v,a,b,c⟩:=h.each j e;⟨v,a,aZ.mono ni (br.ck d) b,c.call d⟩⟩
theorem MX{base:Nat}(h:w.ownsRow base e 1 (.S g 0 n cap) n xs)(f:q<n)(u:Value):(w.setCell ⟨g,q,none⟩ u).ownsRow base e 1 (.S g 0 n cap) n (xs.set q u):=by
 obtain⟨i,d⟩:=h;rcases d with⟨h0,_⟩|⟨g',cap',bq,hv,c,hg,b,a,hs,ht⟩
 .grind
 .simp at hv;obtain⟨rfl,rfl⟩:=hv;refine⟨AJ,.inr ⟨g,cap,bq.setIfInBounds q u,Y,c,?_,b,a,AJ,?_⟩⟩
  .exact ag.set (show ag w g bq e from hg) q u
  .rw[Array.toList_setIfInBounds,List.take_set,ht]
def Own.take{gk sX l:Nat}(h:Own w0 w bs ed bS dR (.S gk 0 sX l) ts ns bk aS vals)(hq:q<aS.length):
 Own w0 (w.setCell ⟨gk,q,none⟩ (.T)) bs ed bS dR (.S gk 0 sX l) ts ns bk (aS.set q true) vals:=by
 have hok:=h.qV;have i:sX=aS.length:=by
  rcases hok.2 with⟨h0,_⟩|⟨g,c,bq,h0,_⟩
  .grind
  grind
 subst i;obtain⟨f,t⟩:=hok.lt gk Y;obtain⟨bq,k⟩:∃bq,ag w gk bq 4:=by
  rcases hok.2 with⟨h0,_⟩|⟨g,c,bq,h0,_,hg,_⟩
  .grind
  .simp only[Value.slice.injEq,vbf,Addr.mk.injEq,and_true]at h0;obtain⟨rfl,-,-⟩:=h0;exact⟨bq,hg⟩
 have m:∀{T:uab}{v:Value},eU T w v->T≠4->∀b off n c,v=.S b off n c->(w.setCell ⟨gk,q,none⟩ (.T)).heap[b]?=w.heap[b]?:=by intro T v hv r b off n c e;subst e;exact vaw _ _ _ _ (hv.ne k r)
 refine⟨h.below.setCell f _,h.AO,h.nodes,h.F9,?_,?_,?_,h.small,by simpa using h.MW,?_⟩
 .refine h.box.ek ?_ _;rintro rfl;have s:=I9 h.box;rw[I9 k]at s;grind
 .refine⟨h.pZ.1,?_⟩;rcases h.pZ.2 with hn|⟨g,cap,d,e,p,hg,rest⟩
  .grind
  .refine .inr ⟨g,cap,d,e,p,?_,rest⟩;rw[vaw _ _ _ _ (show g≠gk from ?_)]
   .exact hg
   .rintro rfl;grind[ag]
 .grind[MX,List.map_set]
 .intro j o;obtain⟨v,a,b,c⟩:=h.each j o;exact⟨v,a,b.yD AJ,c.set _ _⟩
def amc{base:Nat}(h:w.ownsRow base e size (.S g 0 n cap) n xs):∃bq,ag w g bq e:=by
 rcases h.2 with⟨h0,_⟩|⟨g',c,bq,h0,_,hg,_⟩
 .grind
 .simp only[Value.slice.injEq,vbf,Addr.mk.injEq,and_true]at h0;obtain⟨rfl,-,-⟩:=h0;exact⟨bq,hg⟩
theorem xh{base:Nat}(h:w.ownsRow base e size v n xs)(hg:v.ownBlock=some g):∃bq,ag w g bq e:=by
 rcases h.2 with⟨rfl,_⟩|⟨g',c,bq,rfl,_,a,_⟩
 .simp[Value.ownBlock]at hg
 .simp[Value.ownBlock]at hg;subst hg;exact⟨bq,a⟩
def ag.ne{a:Nat}{g i:fi}{d c:uab}(f:ag w a g d)(e:ag w b i c)(h:d≠c):a≠b:=by rintro rfl;have:=I9 f;rw[I9 e]at this;grind
theorem F_{base:Nat}(h:w.ownsRow base e size v n xs)(hk:∀g,v.ownBlock=some g->w'.heap[g]?=w.heap[g]?):w'.ownsRow base e size v n xs:=by
 refine⟨h.1,?_⟩;rcases h.2 with hn|⟨g,cap,bq,rfl,a,b,rest⟩
 .grind
 .exact .inr ⟨g,cap,bq,Y,a,by rw[hk g Y];grind,rest⟩
def Own.amd(h:Own w0 w bs ed bS dR cM ts ns bk aS vals){v1:Value}{l:fK}(hv:eF w v1 l)(q:eU 116 w v1)(x:bk.length+1<=1000)(J:w2.ownsRow w0.heap.size 81 1 (.S g 0 (bk.length+1) cap) (bk.length+1) (vals++[v1]))(p:(w.alloc (.cells #[v1] 81)).grownBy w2 dR.ownBlock):
 Own w0 (w2.setCell ⟨bs,2,none⟩ (.S g 0 (bk.length+1) cap)) bs ed bS (.S g 0 (bk.length+1) cap) cM ts ns (bk++[l]) aS (vals++[v1]):=by
 have d:=h.call ((vaa w.heap.size w).alloc AJ (.cells #[v1] 81));have H:eF (w.alloc (.cells #[v1] 81)) v1 l:=aZ.mono ni ((br.refl w).alloc _) hv;have K:eU 116 (w.alloc (.cells #[v1] 81)) v1:=q.call ((vaa w.heap.size w).alloc AJ _);generalize w.alloc (.cells #[v1] 81)=w1 at *;clear h hv q;have A:∀k,dR.ownBlock=some k->w0.heap.size<=k:=λk hk=>(d.pZ.lt k hk).1;have u:cy w0 w2:=d.below.grown p d.below.size A;have hst:∀{T:uab}{b:Nat}{cs:fi},ag w1 b cs T->T≠81->w2.heap[b]?=w1.heap[b]?:=by intro T b cs m o;refine p.block b m.lt (λe=>?_);obtain⟨bq,i⟩:=xh d.pZ e.symm;exact m.ne i o Y
 have s:ag w2 bs #[ed,bS,dR,cM] 86:=by have:=hst d.box AU;unfold ag;rw[this];exact d.box
 have E:∀{T:uab}{b:Nat}{cs:fi},ag w2 b cs T->T≠86->(w2.setCell ⟨bs,2,none⟩ (.S g 0 (bk.length+1) cap)).heap[b]?=w2.heap[b]?:=by intro T b cs m o;exact vaw _ _ _ _ (m.ne s o)
 have nX:∀{v:Value}{l:fK},eF w1 v l->eU 116 w1 v->eF (w2.setCell ⟨bs,2,none⟩ (.S g 0 (bk.length+1) cap)) v l/\eU 116 (w2.setCell ⟨bs,2,none⟩ (.S g 0 (bk.length+1) cap)) v:=by
  intro v l y r;have hk:∀b off n c,v=.S b off n c->(w2.setCell ⟨bs,2,none⟩ (.S g 0 (bk.length+1) cap)).heap[b]?=w1.heap[b]?:=by
   intro b off n c e;obtain⟨k,hk⟩:=r b off n c e;obtain⟨cs,f⟩:∃cs fr,w1.heap[b]?=some (.cells cs 116 fr):=by simp[World.shape?]at hk;grind
   obtain⟨fr,f⟩:=f;have D:w2.heap[b]?=w1.heap[b]?:=by refine p.block b AJ (λe=>?_);obtain⟨bq,i⟩:=xh d.pZ e.symm;grind[ag]
   rw[vaw _ _ _ _ (show b≠bs from ?_),D];rintro rfl;grind[ag]
  exact⟨y.yD hk,r.yD hk⟩
 refine⟨u.setCell d.F9 _,d.AO,d.nodes,d.F9,s.set 2 _,?_,?_,AJ,d.MW,?_⟩
 .grind[F_,xh]
 .refine F_ d.qV (λg' t=>?_);obtain⟨bq,i⟩:=xh d.qV t;have I:=hst i AU;have B:ag w2 g' bq 4:=by grind[ag]
  grind
 .intro j z;rw[List.length_append,List.length_singleton]at z;have F:vals.length=bk.length:=by have:=d.pZ.1;omega
  by_cases C:j<bk.length
  .obtain⟨v,a,b,c⟩:=d.each j C;grind
  grind
def Own.amf(h:Own w0 w bs ed bS dR cM ts ns bk aS vals)(t:aS.length+1<=1000)(D:w2.ownsRow w0.heap.size 4 1 (.S g 0 (aS.length+1) cap) (aS.length+1) (aS.map .bool++[.F]))(o:(w.alloc (.cells #[.F] 4)).grownBy w2 cM.ownBlock):
 Own w0 (w2.setCell ⟨bs,3,none⟩ (.S g 0 (aS.length+1) cap)) bs ed bS dR (.S g 0 (aS.length+1) cap) ts ns bk (aS++[false]) vals:=by
 have d:=h.call ((vaa w.heap.size w).alloc AJ (.cells #[.F] 4));generalize w.alloc (.cells #[.F] 4)=w1 at *;clear h;have y:∀k,cM.ownBlock=some k->w0.heap.size<=k:=λk hk=>(d.qV.lt k hk).1;have s:cy w0 w2:=d.below.grown o d.below.size y;have hst:∀{T:uab}{b:Nat}{cs:fi},ag w1 b cs T->T≠4->w2.heap[b]?=w1.heap[b]?:=by intro T b cs l m;refine o.block b l.lt (λe=>?_);obtain⟨bq,i⟩:=xh d.qV e.symm;exact l.ne i m Y
 have q:ag w2 bs #[ed,bS,dR,cM] 86:=by have:=hst d.box AU;unfold ag;rw[this];exact d.box
 have B:∀{T:uab}{b:Nat}{cs:fi},ag w2 b cs T->T≠86->(w2.setCell ⟨bs,3,none⟩ (.S g 0 (aS.length+1) cap)).heap[b]?=w2.heap[b]?:=by intro T b cs l m;exact vaw _ _ _ _ (l.ne q m)
 refine⟨s.setCell d.F9 _,d.AO,d.nodes,d.F9,q.set 3 _,?_,?_,d.small,AJ,?_⟩
 .refine F_ d.pZ (λg' r=>?_);obtain⟨bq,i⟩:=xh d.pZ r;have C:=hst i AU;have z:ag w2 g' bq 81:=by grind[ag]
  grind
 .grind[F_,xh]
 .intro j x;obtain⟨v,a,u,p⟩:=d.each j x;have hk:∀b off n c,v=.S b off n c->(w2.setCell ⟨bs,3,none⟩ (.S g 0 (aS.length+1) cap)).heap[b]?=w1.heap[b]?:=by
   intro b off n c e;obtain⟨k,hk⟩:=p b off n c e;obtain⟨cs,f⟩:∃cs fr,w1.heap[b]?=some (.cells cs 116 fr):=by simp[World.shape?]at hk;grind
   obtain⟨fr,f⟩:=f;have A:w2.heap[b]?=w1.heap[b]?:=by refine o.block b AJ (λe=>?_);obtain⟨bq,i⟩:=xh d.qV e.symm;grind[ag]
   rw[vaw _ _ _ _ (show b≠bs from ?_),A];rintro rfl;grind[ag]
  exact⟨v,a,u.yD hk,p.yD hk⟩
def Own.amg(h:Own w0 w bs ed bS dR cM ts ns bk aS vals){o:Obj}(c:(w.alloc o).grownBy w2 dR.ownBlock):ag w2 bs #[ed,bS,dR,cM] 86:=by have a:=h.call ((vaa w.heap.size w).alloc AJ o);refine a.box.grown c (λg hg=>?_);obtain⟨bq,b⟩:=xh a.pZ hg;exact a.box.ne b AU
def Own.amh(h:Own w0 w bs ed bS dR cM ts ns bk aS vals){o:Obj}(c:(w.alloc o).grownBy w2 cM.ownBlock):ag w2 bs #[ed,bS,dR,cM] 86:=by have a:=h.call ((vaa w.heap.size w).alloc AJ o);refine a.box.grown c (λg hg=>?_);obtain⟨bq,b⟩:=xh a.qV hg;exact a.box.ne b AU
def MY{x:Value}(h:ag w b #[x] T):∀j u,([x]:uaj)[j]?=some u->w.cell? (.a b j)=some u:=by intro j u a;rw[h.rules.1 j];grind
def lA(aS:ubt)(cs:ubd):List Bool:=cs.foldl (λt c=>t.set c.toNat true) aS
theorem ZL(aS:ubt)(cs:ubd):(lA aS cs).length=aS.length:=by induction cs generalizing aS with|nil=>rfl|cons c r a=>simp_all[lA]
theorem ami(aS:ubt)(cs:ubd)(c:Int):lA aS (cs++[c])=(lA aS cs).set c.toNat true:=by simp[lA]
end
namespace bM
open RowKit au bU
structure eV where
 e:TypeId
 v:Value
 xs:List Value
structure eQ(B:Nat)(W:aH)(L:List eV):Prop where
 own:∀i(h:i<L.length),W.ownsRow B L[i].e 1 L[i].v L[i].xs.length L[i].xs
 apart:∀i j(hi:i<L.length)(hj:j<L.length) g,i≠j->L[i].v.ownBlock=some g->L[j].v.ownBlock≠some g
def ia(L:List eV)(b:Nat):Prop:=∀i(h:i<L.length),L[i].v.ownBlock≠some b
variable{B g i:Nat}{W:aH}{L:List eV}
theorem eQ.lt(h:eQ B W L)(hi:i<L.length)(hg:L[i].v.ownBlock=some g):B<=g/\g<W.heap.size:=(h.own i hi).lt g hg
variable{b:Nat}
def eQ.nY(h:eQ B W L)(a:W.heap.size<=b\/b<B):ia L b:=λi hi hg=>by have:=h.lt hi hg;omega
variable{W':aH}
def eQ.kept(h:eQ B W L)(hk:∀g,¬ia L g->W'.heap[g]?=W.heap[g]?):eQ B W' L:=
 ⟨λi hi=>F_ (h.own i hi) λg hg=>hk g λa=>a i hi hg,h.apart⟩
variable{cap:Nat}{xs:uaj}
def eQ.push(h:eQ B W L)(hi:i<L.length)(p:W'.ownsRow B L[i].e 1 (.S g 0 xs.length cap) xs.length xs)(hg:W.grownBy W' L[i].v.ownBlock)(cR:L[i].v.ownBlock=some g\/g=W.heap.size):
 eQ B W' (L.set i ⟨L[i].e,.S g 0 xs.length cap,xs⟩):=by
 have m:∀j(a:j<L.length),j≠i->L[j].v.ownBlock≠some g:=λj a b f=>by
  rcases cR with cR|cR
  .exact h.apart i j hi a g (Ne.symm b) cR f
  .have:=(h.lt a f).2;omega
 refine⟨λj a=>?_,λj k a hk g' b c=>?_⟩
 .rw[vds]at a;by_cases e:i=j
  .grind
  .simp only[List.getElem_set,e,vbv];exact F_ (h.own j a) λg' d=>hg.block g' (h.lt a d).2 λo=>h.apart i j hi a g' e o.symm d
 .rw[vds]at a hk;simp only[List.getElem_set]at c⊢;by_cases n:i=j
  .simp_all[Value.ownBlock,Ne.symm]
  .simp[n]at c;by_cases l:i=k
   .simp only[l,vbr,Value.ownBlock];grind
   .simp only[l,vbv];exact h.apart j k a hk g' b c
theorem amt(h:eQ B W L)(hi:i<L.length){n:Nat}{e:uab}(cR:L[i].v.ownBlock=some g\/g=W.heap.size)(k:b<W.heap.size)(d:ia L b):ia (L.set i ⟨e,.S g 0 n cap,xs⟩) b:=by
 intro j c a;rw[vds]at c;simp[List.getElem_set]at a;by_cases f:i=j
 .simp[f,Value.ownBlock]at a;subst a;rcases cR with cR|cR
  .exact d i hi cR
  .omega
 .simp[f]at a;exact d j c a
structure qW(L:List eV)(w w':aH):Prop where
 size:w.heap.size<=w'.heap.size
 os:w'.os=w.os
 tape:w'.tape=w.tape
 output:w'.output=w.output
 block:∀b,b<w.heap.size->ia L b->w'.heap[b]?=w.heap[b]?
@[simp] theorem aFe:dk true 32:=ved func32
theorem eQ.at(h:eQ B W L){r:eV}(a:L[i]?=some r):W.ownsRow B r.e 1 r.v r.xs.length r.xs:=by obtain⟨hi,rfl⟩:=vab.1 a;exact h.own i hi
theorem eQ.alloc(h:eQ B W L)(o:Obj):eQ B (W.alloc o) L:=h.kept λg hg=>vdm _ _ _ (by
 apply vap;intro a;exact hg (h.nY AJ))
def eQ.set(h:eQ B W L)(a:ia L b)(o:Nat)(v:Value):eQ B (W.setCell ⟨b,o,none⟩ v) L:=h.kept λg hg=>vaw _ _ _ _ AJ
def eQ.Jo(h:eQ B W L){e:uab}{v:Value}(c:L[i]?=some ⟨e,v,xs⟩){x:Value}(j:W'.ownsRow B e 1 (.S g 0 (xs.length+1) cap) (xs.length+1) (xs++[x]))(hg:W.grownBy W' v.ownBlock)(cR:v.ownBlock=some g\/g=W.heap.size):
 eQ B W' (L.set i ⟨e,.S g 0 (xs.length+1) cap,xs++[x]⟩)/\∀b,b<W.heap.size->ia L b->ia (L.set i ⟨e,.S g 0 (xs.length+1) cap,xs++[x]⟩) b:=by
 obtain⟨hi,a⟩:=vab.1 c;have f:L[i].e=e:=by rw[a]
 have k:L[i].v=v:=by rw[a]
 have d:(xs++[x]).length=xs.length+1:=AQ;have:=h.push hi (xs:=xs++[x]) (by rw[d,f];exact j) AJ AJ;grind[amt]
def eQ.below(h:eQ B W L)(a:Below W.heap.size W.drew W'):eQ B W' L:=h.kept λg hg=>a.block g (by
 apply vap;intro b;exact hg (h.nY AJ))
variable{w:aH}{K:uag}{Q:ual}{ats:uap}
def amu{P:cf}{ops:fC}{o:Oper}{a:Act}{F:Prop}(k:o.guard=none){f:uah}{fn:Func}{args:uaw}(b:o.op=.call {callee:=.value (.func f),args,argTypes:=ats})(g:P.funcs[f]?=some fn)(c:(fn.name== "runtime.NumGoroutine")=false)(i:fn.body.isNone=false){vs:fi}(hv:args.map a.eval=vs)(h:Calls P f vs w λ| .returned v,w'=>K (a.put o.dst v) w'| _,_=>False):if veg o ops a.tmps=true then Oper.wp P o a w K Q else F:=by
 subst hv;have d:veg o ops a.tmps=true:=by grind[Region.wanted]
 rw[vbz d];unfold Oper.wp;rw[Conc.run_call_body b g c i];refine h.mono λe w' j=>?_;grind
def amv{ops:fC}{o:Oper}{a:Act}{F:Prop}(c:o.guard=none){x:uau}(b:o.op=.call {callee:=.value (.func 40),args:=#[x],argTypes:=ats}){s:ByteArray}(hv:a.eval x=.string s)(ht:s.size<=1000000)(h:∀w',cy w w'->K (a.put o.dst (.string s)) w'):if veg o ops a.tmps=true then Oper.wp vee o a w K Q else F:=
 amu c b (vea func40) AS Y (vs:=#[.string s]) AJ ((Sk s w ht).mono AJ)
variable{j:Nat}
def iT(h:i≠j)(x:eV):(L.set i x)[j]?=L[j]?:=by simp[h]
variable{cs:fi}
def M4{c:Nat}{T:uab}(h:ag w c cs T)(a:c≠b)(o:Nat)(v:Value):ag (w.setCell ⟨b,o,none⟩ v) c cs T:=by grind[ag,Below.heap_setCell]
def qW.set{w':aH}(h:qW L w w')(o:Nat)(v:Value)(c:w.heap.size<=b):qW L w (w'.setCell ⟨b,o,none⟩ v):=
 ⟨by simp[World.setCell];exact h.size,h.os,h.tape,h.output,λk hk a=>(vaw _ _ _ _ AJ).trans (h.block k hk a)⟩
def qW.ZV{w1 w2:aH}(h:qW L w w1)(hs:w1.heap.size<=w2.heap.size)(e:w2.os=w1.os)(ht:w2.tape=w1.tape)(d:w2.output=w1.output)(f:∀b,b<w.heap.size->ia L b->w2.heap[b]?=w1.heap[b]?):qW L w w2:=
 ⟨vac h.size hs,e.trans h.os,ht.trans h.tape,d.trans h.output,λb a c=>(f b a c).trans (h.block b a c)⟩
def amw(h:eQ B w L)(hB:B<=w.heap.size){k:Nat}{c7 vs bS:Value}{is l ns:uaj}(h0:L[k]?=some ⟨2,c7,is⟩)(h1:L[k+1]?=some ⟨9,vs,l⟩)(h2:L[k+2]?=some ⟨4,bS,ns⟩)(kind eK:Int)(d:bw)(ht:d.text.size<=1000000)(hl:is.length<=1000/\l.length<=1000/\ns.length<=1000):
 Calls vee 32 #[.agg #[.I kind,.I eK,c7,vs,bS],du d] w λe w'=>(∃g c f a,(kind≠3/\e=.returned (.agg #[.I kind,.I eK,.S g 0 (is.length+1) c,vs,.S f 0 (ns.length+1) a])/\
  eQ B w' ((L.set (k+2) ⟨4,.S f 0 (ns.length+1) a,ns++[.bool d.dL]⟩).set k ⟨2,.S g 0 (is.length+1) c,is++[.I d.num]⟩))\/
  (kind=3/\e=.returned (.agg #[.I kind,.I eK,c7,.S g 0 (l.length+1) c,.S f 0 (ns.length+1) a])/\
   eQ B w' ((L.set (k+2) ⟨4,.S f 0 (ns.length+1) a,ns++[.bool d.dL]⟩).set (k+1) ⟨9,.S g 0 (l.length+1) c,l++[.string d.text]⟩)))/\qW L w w':=by
 obtain⟨sa,x,e0⟩:=qS (show w.ownsRow B 9 1 vs l.length l from h.at h1);subst e0;obtain⟨t,q,e1⟩:=qS (show w.ownsRow B 2 1 c7 is.length is from h.at h0);obtain⟨an,C,A⟩:=qS (show w.ownsRow B 4 1 bS ns.length ns from h.at h2);subst e1;subst A;have Sp:Hid _:=h0;have Jp:Hid _:=h1;have k5:Hid _:=h2;have E:Hid _:=hl;have X:Hid (eQ B w L):=h;clear h0 h1 h2 hl h;have b2:=(((ag.new w #[.I kind,.I eK,.slice t is.length q,.slice sa l.length x,.slice an ns.length C] 34).alloc (.cells #[.bool d.dL,.I d.num,.I d.eK,.string d.text] 96)).alloc (.cells #[.I 0,.I 0,.N,.N,.N] 34)).alloc (.cells #[.bool d.dL] 4);have cd:=((ag.new (w.alloc (.cells #[.I kind,.I eK,.slice t is.length q,.slice sa l.length x,.slice an ns.length C] 34)) #[.bool d.dL,.I d.num,.I d.eK,.string d.text] 96).alloc (.cells #[.I 0,.I 0,.N,.N,.N] 34)).alloc (.cells #[.bool d.dL] 4);have cm:=(ag.new ((w.alloc (.cells #[.I kind,.I eK,.slice t is.length q,.slice sa l.length x,.slice an ns.length C] 34)).alloc (.cells #[.bool d.dL,.I d.num,.I d.eK,.string d.text] 96)) #[.I 0,.I 0,.N,.N,.N] 34).alloc (.cells #[.bool d.dL] 4);have cK:=ag.new (((w.alloc (.cells #[.I kind,.I eK,.slice t is.length q,.slice sa l.length x,.slice an ns.length C] 34)).alloc (.cells #[.bool d.dL,.I d.num,.I d.eK,.string d.text] 96)).alloc (.cells #[.I 0,.I 0,.N,.N,.N] 34)) #[.bool d.dL] 4;have Sq:=(((X.out.alloc (.cells #[.I kind,.I eK,.slice t is.length q,.slice sa l.length x,.slice an ns.length C] 34)).alloc (.cells #[.bool d.dL,.I d.num,.I d.eK,.string d.text] 96)).alloc (.cells #[.I 0,.I 0,.N,.N,.N] 34)).alloc (.cells #[.bool d.dL] 4);simp at cd cm cK;have np:Hid _:=b2;have xj:Hid _:=cd;have xk:Hid _:=cm;have H:Hid _:=MY cK;have Jq:Hid _:=Sq;have F:Hid _:=Sq.at k5.out;have r:Hid (∀u∈([.bool d.dL]:uaj),u.oneCell'=true):=Hz;have mn:Hid (B<=w.heap.size):=hB;clear b2 cd cm cK Sq hB;go_enter (vea func32),ntmps32
 go_wp2_with (at_builtin;apply CD)
 unfold AR;refine IR MF _ rfl _ _ rfl B (.slice an ns.length C) ns.length ns rfl F.out (w.heap.size+1+1+1) 1 1 _ rfl rfl H.out r.out AU E3 E3 (by have:=mn.out;simp;omega) (w.heap.size+1+1+1+1) AQ ?_;intro f a io Sr n ZW ZX;have dW:∀i g,i<3->(Value.slice an ns.length C).ownBlock=some g->w.heap.size+i≠g:=λi g _ hg=>by obtain⟨hi,z⟩:=vab.1 k5.out;have:=(X.out.lt hi (by rw[z];exact hg)).2;omega
 obtain⟨ua,fO⟩:=eQ.Jo Jq.out k5.out Sr n BR;have co:=(ag.grown np.out n (λg hg=>dW 0 g AU hg)).set 4 (.S f 0 (ns.length+1) a);have db:=ag.grown xj.out n BR;have c4:=ag.grown xk.out n (λg hg=>dW 2 g AU hg);have D:∀i,i<3->ia (L.set (k+2) ⟨4,.S f 0 (ns.length+1) a,ns++[.bool d.dL]⟩) (w.heap.size+i):=λi hi=>fO _ An (X.out.nY AJ);have M5:qW L w io:=⟨by have:=n.size;simp at this;omega,n.os,n.tape,n.output,λb hb Y=>(n.block b An (λe=>by
  obtain⟨hi,z⟩:=vab.1 k5.out;exact Y _ hi AJ)).trans (by
   grind[Below.heap_alloc])⟩
 obtain⟨K,J,I⟩:=(ag.grown np.out n (λg hg=>dW 0 g AU hg)).all;by_cases k7:kind=3
 .subst k7;go_upto_region 3 with fail
  have Q:=ua.set (D 0 AU) 4 (.S f 0 (ns.length+1) a);have M:=M4 db (b:=w.heap.size) AP 4 (.S f 0 (ns.length+1) a);have d4:=M4 c4 (b:=w.heap.size) AP 4 (.S f 0 (ns.length+1) a);have Jr:=M5.set 4 (.S f 0 (ns.length+1) a) Kj;simp at Q;generalize io.setCell ⟨w.heap.size,4,none⟩ (.S f 0 (ns.length+1) a)=W at *;simp at co;clear K J I ua db c4 M5 Sr n ZW ZX Jq F H r;have P:(L.set (k+2) ⟨4,.S f 0 (ns.length+1) a,ns++[.bool d.dL]⟩)[k+1]?=some ⟨9,.slice sa l.length x,l⟩:=(iT AP _).trans Jp.out;have O:Hid _:=co;have ZY:Hid _:=M;have Js:Hid _:=d4;have o:Hid _:=Jr;have ZZ:Hid _:=Q;have N:Hid _:=P;have ub:Hid _:=D;have r:Hid (∀u∈([.string d.text]:uaj),u.oneCell'=true):=Hz;obtain⟨K,J,I⟩:=co.all;obtain⟨kl,oY,V⟩:=M.all;clear P co M d4 Jr D Q;have T:∀i g,i<3->(Value.slice sa l.length x).ownBlock=some g->w.heap.size+i≠g:=λi g vq hg=>by obtain⟨hi,z⟩:=vab.1 Jp.out;have:=(X.out.lt hi (by rw[z];exact hg)).2;omega
  have HOW:Hid _:=T;clear T;go_region_law
   (first|(refine amv A_ A_ (s:=d.text) A_ ht ?_;intro xm m;obtain⟨cu,dr,gB⟩:=(ag.call (ag.drew O.out) m).all)|(refine MD Y8 _ A_ _ _ A_ B (.slice sa l.length x) l.length l A_ ((eQ.alloc (eQ.below ZZ.out m) _).at N.out) xm.heap.size 1 1 [.string d.text] A_ rfl BR r.out AP E3 E3 (by have:=mn.out;have:=o.out.size;have:=m.size;simp at this⊢;omega) (xm.heap.size+1) AQ ?_;intro g c AT Jt j Ss St;have A:=ag.grown ((ag.call (ag.drew O.out) m).alloc _) j (λg hg=>HOW.out 0 g AU hg);have e3:=ag.grown ((ag.call (ag.drew ZY.out) m).alloc _) j (λg hg=>HOW.out 1 g AU hg);obtain⟨u1,u2,u3⟩:=A.all))
  all_goals
   obtain⟨R,S⟩:=eQ.Jo (eQ.alloc (eQ.below ZZ.out m) _) N.out Jt j BR;have Z:=ag.grown ((ag.call (ag.drew Js.out) m).alloc _) j (λg hg=>HOW.out 2 g AU hg);have Ju:qW L w AT:=o.out.ZV (by have s1:=j.size;have je:=m.size;simp at s1 je;omega) (j.os.trans m.os) (j.tape.trans m.tape) (j.output.trans m.output) (λb hb Y=>(j.block b (by have:=o.out.size;have:=m.size;simp at this⊢;omega) (λe=>by
    obtain⟨hi,z⟩:=vab.1 Jp.out;exact Y _ hi AJ)).trans ((vdm _ _ _ AJ).trans (m.block b (by have:=o.out.size;simp;omega))))
   obtain⟨t1,d_,t3⟩:=Z.all;have vu:Hid _:=Ju;have Su:Hid _:=R;have Jv:Hid (∀i,i<3->ia _ (w.heap.size+i)):=λi hi=>S _ (by have:=o.out.size;have:=V;have:=m.size;simp at this⊢;omega) (ub.out i hi);clear A e3 Z Ju R S K J I kl oY V cu dr gB Jt j Ss St N O ZY Js o r m;go_wp2
   have U:=Jv.out 0 AU;have p:=Jv.out 2 AU;simp at U;exact vai (v:=.agg #[.I 3,.I eK,.slice t is.length q,.S g 0 (l.length+1) c,.S f 0 (ns.length+1) a]) (by simp[results,results32,go_sem,t1]) rfl
    ⟨⟨g,c,f,a,rfl,(((((Su.out.set U _ _).set p _ _).set p _ _).set p _ _).set p _ _).set p _ _⟩,(((((vu.out.set _ _ AJ).set _ _ AP).set _ _ AP).set _ _ AP).set _ _ AP).set _ _ AP⟩
 .have kq:(kind==3)=false:=by grind
  have amx:Hid _:=k7;clear k7;go_upto_region 4 with fail
  have Q:=ua.set (D 0 AU) 4 (.S f 0 (ns.length+1) a);have M:=M4 db (b:=w.heap.size) AP 4 (.S f 0 (ns.length+1) a);have d4:=M4 c4 (b:=w.heap.size) AP 4 (.S f 0 (ns.length+1) a);have Jr:=M5.set 4 (.S f 0 (ns.length+1) a) Kj;simp at Q;generalize io.setCell ⟨w.heap.size,4,none⟩ (.S f 0 (ns.length+1) a)=W at *;simp at co;clear K J I ua db c4 M5 Sr n ZW ZX Jq F H r;have P:(L.set (k+2) ⟨4,.S f 0 (ns.length+1) a,ns++[.bool d.dL]⟩)[k]?=some ⟨2,.slice t is.length q,is⟩:=(iT AP _).trans Sp.out;have Sv:=Q.alloc (.cells #[.I d.num] 2);have F:Hid _:=Sv.at P;have H:Hid _:=MY (ag.new W #[.I d.num] 2);have r:Hid (∀u∈([.I d.num]:uaj),u.oneCell'=true):=Hz;have O:Hid _:=co.alloc (.cells #[.I d.num] 2);have Js:Hid _:=d4.alloc (.cells #[.I d.num] 2);have o:Hid _:=Jr;have Z0:Hid _:=Sv;have N:Hid _:=P;have ub:Hid _:=D;have amy:Hid (B<=(W.alloc (.cells #[.I d.num] 2)).heap.size):=by grind[Hid]
  obtain⟨K,J,I⟩:=co.all;obtain⟨kl,oY,V⟩:=M.all;clear Sv P co M d4 Jr D;go_wp2_with (at_builtin;apply CD)
  unfold AR;refine IR Y7 _ rfl _ _ rfl B (.slice t is.length q) is.length is rfl F.out W.heap.size 1 1 _ rfl rfl H.out r.out AU E3 E3 amy.out (W.heap.size+1) AQ ?_;intro ud ci AT Jt j Ss St;have T:∀i g,i<3->(Value.slice t is.length q).ownBlock=some g->w.heap.size+i≠g:=λi g vq hg=>by obtain⟨hi,z⟩:=vab.1 Sp.out;have:=(X.out.lt hi (by rw[z];exact hg)).2;omega
  obtain⟨R,S⟩:=eQ.Jo Z0.out N.out Jt j BR;have A:=ag.grown O.out j (λg hg=>T 0 g AU hg);have Z:=ag.grown Js.out j (λg hg=>T 2 g AU hg);have Ju:qW L w AT:=o.out.ZV (by have:=j.size;simp at this;omega) j.os j.tape j.output (λb hb Y=>(j.block b (by have:=o.out.size;simp;omega) (λe=>by
   obtain⟨hi,z⟩:=vab.1 Sp.out;exact Y _ hi AJ)).trans (vdm _ _ _ AJ))
  obtain⟨u1,u2,u3⟩:=A.all;obtain⟨t1,d_,t3⟩:=Z.all;have vu:Hid _:=Ju;have Su:Hid _:=R;have Jv:Hid (∀i,i<3->ia _ (w.heap.size+i)):=λi hi=>S _ (by have:=o.out.size;have:=V;simp;omega) (ub.out i hi);clear A Z Ju R S K J I kl oY V Jt j Ss St Z0 N O Js o F H r;go_wp2
  have U:=Jv.out 0 AU;have p:=Jv.out 2 AU;simp at U;exact vai (v:=.agg #[.I kind,.I eK,.S ud 0 (is.length+1) ci,.slice sa l.length x,.S f 0 (ns.length+1) a]) (by simp[results,results32,go_sem,t1]) rfl
   ⟨⟨ud,ci,f,a,.inl ⟨amx.out,rfl,(((((Su.out.set U _ _).set p _ _).set p _ _).set p _ _).set p _ _).set p _ _⟩⟩,(((((vu.out.set _ _ AJ).set _ _ AP).set _ _ AP).set _ _ AP).set _ _ AP).set _ _ AP⟩
open Shelf
@[simp] theorem aFg:dk true 31:=ved func31
def CH(cs:fi)(l:fK)(k:Nat):Prop:=∀j(h:j<l.length),j<k->cs[j*5]?=some (.I l[j].1)/\cs[j*5+1]?=some (.I l[j].2)/\cs[j*5+2]?=some (.N)/\cs[j*5+3]?=some (.N)/\cs[j*5+4]?=some (.N)
abbrev r6(cs:fi)(k:Nat)(a b c d e:Value):Array Value:=((((cs.setIfInBounds (k*5) a).setIfInBounds (k*5+1) b).setIfInBounds (k*5+2) c).setIfInBounds (k*5+3) d).setIfInBounds (k*5+4) e
def xn{k:Nat}(a b c d e:Value)(h:j≠k)(hi:i<5):(r6 cs k a b c d e)[j*5+i]?=cs[j*5+i]?:=by simp only[r6,vam];grind
theorem Z1{k:Nat}(a b c d e:Value)(h:k*5+4<cs.size):(r6 cs k a b c d e)[k*5]?=some a/\(r6 cs k a b c d e)[k*5+1]?=some b/\(r6 cs k a b c d e)[k*5+2]?=some c/\(r6 cs k a b c d e)[k*5+3]?=some d/\(r6 cs k a b c d e)[k*5+4]?=some e:=by simp[r6,vam];omega
theorem CH.step{cs:fi}{l:fK}{k:Nat}(h:CH cs l k)(hk:k<l.length)(hs:cs.size=l.length*5):CH (r6 cs k (.I l[k].1) (.I l[k].2) (.N) (.N) (.N)) l (k+1):=by
 intro j a b;by_cases e:j=k
 .grind[Z1]
 .have:=h j a AP;refine⟨(xn (i:=0) _ _ _ _ _ e AU).trans this.1,(xn _ _ _ _ _ e AU).trans this.2.1,(xn _ _ _ _ _ e AU).trans this.2.2.1,(xn _ _ _ _ _ e AU).trans this.2.2.2.1,(xn _ _ _ _ _ e AU).trans this.2.2.2.2⟩
def amz(l:fK)(v:Value)(w:aH)(hv:eF w v l)(A:l.length<=1000000):
 Calls vee 31 #[v] w λe w'=>∃b cs,e=.returned (.S b 0 l.length l.length)/\ag w' b cs 34/\cs.size=l.length*5/\CH cs l l.length/\w.heap.size<=b/\cy w w':=by
 obtain⟨N,cap,rfl,J,x⟩:=hv;go_enter (vea func31),ntmps31
 go_wp2_with (at_make;refine ML ala _ Y _ _ Y _ _ l.length Y Y AP AP ?_;intro w1 bq t f u)
 have y:Hid (ag w1 w.heap.size bq 34):=t;have C:Hid (cy w w1):=u;have F:Hid _:=f;clear t u f;go_loopw [11] (λn W=>∃(k:Nat)(cs:fi),k<=l.length/\n=.I k/\ag W w.heap.size cs 34/\cs.size=l.length*5/\CH cs l k/\cy w W)
  (λi _=>l.length-(intOf i).toNat)
 case atStart=>exact⟨0,bq,vba _,Y,y.out,F.out,λj _ K=>AJ,C.out⟩
 case round=>
  obtain⟨k,cs,hk,rfl,r,p,q,s⟩:=hrel;have a:Hid (ag wr w.heap.size cs 34):=r;have o:Hid (CH cs l k):=q;have m:Hid (cy w wr):=s;have c:Hid _:=p;clear r q s p;by_cases d:k<l.length
  .obtain⟨b,off,rfl,g,d1⟩:=x k d;simp at g;have h:=br.ck m.out;have B:=h _ _ _ g;have M:=h _ _ _ d1;have L:=fB B;have E:w.heap.size<wr.heap.size:=a.out.lt;clear h g d1 x;have H:(0:Int)<=(k:Int):=AP;have I:(k:Int)<(l.length:Int):=AP;have S:wr.cell? (.a w.heap.size (k*5))=some (cs[k*5]'F7):=by rw[a.out.rules.1];simp
   have R:wr.cell? (.a w.heap.size (k*5+1))=some (cs[k*5+1]'F7):=by rw[a.out.rules.1];simp
   have P:wr.cell? (.a w.heap.size (k*5+2))=some (cs[k*5+2]'F7):=by rw[a.out.rules.1];simp
   have O:wr.cell? (.a w.heap.size (k*5+3))=some (cs[k*5+3]'F7):=by rw[a.out.rules.1];simp
   have D:wr.cell? (.a w.heap.size (k*5+4))=some (cs[k*5+4]'F7):=by rw[a.out.rules.1];simp
   have Q:=a.out.rules.2;go_wp2_with fail
   go_roundw
   case rel=>
    exact⟨k+1,_,AP,by go_num,(((((a.out.set _ _).set _ _).set _ _).set _ _).set _ _).alloc _,by simp;exact c.out,o.out.step d c.out,(((((m.out.setCell AQ _).setCell AQ _).setCell AQ _).setCell AQ _).setCell AQ _).alloc An _⟩
   case measure=>simp[intOf];omega
  .have z:k=l.length:=by omega
   go_wp2_with fail
   go_ret
   exact⟨_,_,Y,a.out,c.out,by rw[<-z];exact o.out,AP,m.out⟩
