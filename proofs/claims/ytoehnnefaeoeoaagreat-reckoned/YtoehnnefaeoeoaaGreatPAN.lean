import Derived.Test.YtoehnnefaeoeoaaGreatPAH
import Derived.Test.YtoehnnefaeoeoaaGreatPAI
import Derived.Test.YtoehnnefaeoeoaaGreatPAJ
set_option linter.all false
set_option maxRecDepth 100000
set_option maxHeartbeats 16000000
namespace Go.Proofs.YtoehnnefaeoeoaaGreat
open Go.Proofs.Tryz
namespace cA
open RowKit az
variable {w:World}{es:List (List cd)}{k:Nat}{st:List (Int×Int)}
section
attribute [local go_sem ↓] Go.wp_at_zero Go.wp_at_succ
abbrev ai_(n:ps)(kK c9 nt bW:Value):Value:=.agg #[.int .i64 n.op,.int .i64 n.a,.int .i64 n.b,kK,c9,nt,bW]
attribute [local go_sem ↓] Go.wp_at_zero Go.wp_at_succ
theorem aja{a:Value}(h:mP w a es)(d:k<es.length):
 ∃b off cap v,a=.slice (some ⟨b,off,none⟩) es.length cap/\b<w.heap.size/\w.cell? ⟨b,off+k,none⟩=some v/\Fy w v es[k]:=by
 obtain⟨f,cap,rfl,hl,e⟩:=h;obtain⟨b,off,rfl,v,h0,c⟩:=e k d;simp at h0;exact⟨b,off,cap,v,rfl,gX h0,h0,c⟩
def kL(bw:List (Int×Int)):List (List cd)->Option (List (Int×Int))
 | []=>some []
 |e::r=>if(kW e bw).2=true/\(kW e bw).1.1≠4 then(kL bw r).map ((kW e bw).1:: ·)else none
theorem XT(bw:List (Int×Int))(l:List (List cd))(e:List cd):kL bw (l++[e])=(kL bw l).bind (fun s=>if(kW e bw).2=true/\(kW e bw).1.1≠4 then some (s++[(kW e bw).1])else none):=by
 induction l with
 |nil=>grind[kL]
 |cons a r b=>
  simp only[List.cons_append,kL];split
  ·rw[b];cases kL bw r with|none=>rfl|some s=>grind
  ·rfl
theorem ajb(bw:List (Int×Int))(l r:List (List cd))(h:kL bw l=none):kL bw (l++r)=none:=by induction l with|nil=>simp[kL]at h|cons a l b=>simp_all[kL]
theorem ajc{bw:List (Int×Int)}(b:k<es.length)(h:kL bw (es.take k)=some st)(a:¬((kW es[k] bw).2=true/\(kW es[k] bw).1.1≠4)):kL bw es=none:=by
 have c:kL bw (es.take (k+1))=none:=by rw[List.take_succ_eq_append_getElem b,XT,h,Option.bind_some,if_neg a]
 grind[ajb,List.take_append_drop]
theorem ajd{bw:List (Int×Int)}(b:k<es.length)(h:kL bw (es.take k)=some st)(a:(kW es[k] bw).2=true/\(kW es[k] bw).1.1≠4):kL bw (es.take (k+1))=some (st++[(kW es[k] bw).1]):=by rw[List.take_succ_eq_append_getElem b,XT,h,Option.bind_some,if_pos a]
def AX(w':World)(e:Ending)(o:Option (List (Int×Int))):Prop:=
 match o with
 |some l=>∃v,e=.returned (.tuple #[v,.bool true])/\fh w' v l/\fT 115 w' v
 |none=>∃v,e=.returned (.tuple #[v,.bool false])
theorem aje(n:ps)(I c9 E L M:Value)(bw:List (Int×Int))(w:World)(u:AO w I c9 E L n)(s6:∀e∈n.n4,∀t∈e,Met t.op)(h_:n.n4.length<=8)(hv:fh w M bw):
 Calls (ai prog true) 45 #[ai_ n I c9 E L,M] w fun e w'=>AX w' e (kL bw n.n4)/\Below w.heap.size w w':=by
 have p:=u.n4;have CK:Hid _:=s6;obtain⟨w8,ce,w9,kU,bL,co,aa,cN,rfl,rfl,rfl,rfl⟩:=u.shape;clear u s6;go_enter (bl (upd:=true) func45 AS),ntmps45
 go_wp2
 go_loopw [6,14] (fun v i W=>∃(k:Nat)(st:List (Int×Int)),k<=n.n4.length/\i=.int .i64 k/\kL bw (n.n4.take k)=some st/\st.length=k/\W.ownsRow (w.heap.size+1) 115 2 v st.length (kn st)/\Below w.heap.size w W)
  (fun _ i _=>n.n4.length-(intOf i).toNat)
 case atStart=>exact⟨0,[],Nat.zero_le _,rfl,rfl,rfl,World.ownsRow_nil _ _ _ _,(Below.refl _ _).alloc Jr _⟩
 case round=>
  obtain⟨k,st,hk,rfl,hrun,P,f,r⟩:=hrel;have H:Hid _:=hrun;have j:Hid (Below w.heap.size w wr):=r;have s:Hid _:=P;by_cases a:k<n.n4.length
  ·obtain⟨b,off,cap,aCc,C,hb,dw,o⟩:=aja p a;simp at C;obtain⟨rfl,rfl⟩:=C;have l:=bC.cW j.out;have K:=l _ _ _ dw;have gK:=gX K;have J:=bd.mono w7 l o;have d:=bd.mono s3 l hv;obtain⟨aCd,aCe,rfl,-⟩:=o.shape;have Z:Hid (wr.ownsRow (w.heap.size+1) 115 2 u6 st.length (kn st)):=f;clear hrun P f r l dw o;go_wp2_with fail
   refine(aiP _ (CK.out _ (List.getElem_mem a)) bw _ _ _ J d).mono ?_;rintro e w1 ⟨rfl,q⟩;have y:Hid (w1.ownsRow (w.heap.size+1) 115 2 u6 st.length (kn st)):=FA Z.out q;have c:Hid (Below w.heap.size w w1):=Below.step q j.out j.out.size;clear q J d K;generalize N:kW n.n4[k] bw=R at *;have x:Hid _:=N;clear N;by_cases h:R.2=true/\R.1.1≠4
   ·obtain⟨A,O⟩:=h;have aCf:(R.1.1==4)=false:=AU;have Ib:Hid (kL bw (n.n4.take (k+1))=some (st++[R.1])):=by have:=ajd a H.out (by rw[x.out];grind);rw[x.out]at this;exact this
    have m:=(af.new (w1.alloc (.cells #[.int .i64 R.1.1,.int .i64 R.1.2] 115)) #[.int .i64 R.1.1,.int .i64 R.1.2] 115);rw[show(w1.alloc (.cells #[.int .i64 R.1.1,.int .i64 R.1.2] 115)).heap.size=w1.heap.size+1 by simp]at m;have Y:Hid _:=Xo m;have X:Hid _:=(y.out.alloc (.cells #[.int .i64 R.1.1,.int .i64 R.1.2] 115)).alloc (.cells #[.int .i64 R.1.1,.int .i64 R.1.2] 115);have S:Hid (((w1.alloc (.cells #[.int .i64 R.1.1,.int .i64 R.1.2] 115)).alloc (.cells #[.int .i64 R.1.1,.int .i64 R.1.2] 115)).heap.size=w1.heap.size+1+1):=Bp;have V:Hid (w.heap.size+1<=((w1.alloc (.cells #[.int .i64 R.1.1,.int .i64 R.1.2] 115)).alloc (.cells #[.int .i64 R.1.1,.int .i64 R.1.2] 115)).heap.size):=by have:=c.out.size;grind[Hid]
    have z:Hid (st.length<=8):=by grind[Hid]
    have Ia:Hid (∀g,u6.ownBlock=some g->w.heap.size+1<=g):=fun g hg=>(y.out.lt g hg).1;clear m O;go_wp2_with (at_builtin;refine H5 LG _ B2 _ _ B2 (w.heap.size+1) u6 st.length (kn st) B2 X.out (w1.heap.size+1) 1 1 _ B2 rfl Y.out (Qn _ _) Ay (by have:=z.out;omega) (by have:=z.out;omega) V.out (w1.heap.size+1+1) S.out ?_;intro gL U B CM D CN AT)
    have Q:=(c.out.alloc I7 (.cells #[.int .i64 R.1.1,.int .i64 R.1.2] 115)).alloc (by have:=c.out.size;simp;omega) (.cells #[.int .i64 R.1.1,.int .i64 R.1.2] 115);have CO:Hid (Below w.heap.size w B):=Q.grown D (by have:=c.out.size;simp;omega) (fun k' dK=>by have:=Ia.out k' dK;omega);have ly:(st++[R.1]).length=st.length+1:=Aa;have Ic:Hid (B.ownsRow (w.heap.size+1) 115 2 (.slice (some ⟨gL,0,none⟩) (st.length+1) U) (st++[R.1]).length (kn (st++[R.1]))):=by grind[Hid,Xm]
    clear Q D CM CN AT;go_roundw
    case rel=>exact⟨k+1,st++[R.1],Ay,by go_num,Ib.out,by rw[ly,s.out],Ic.out,CO.out⟩
    case measure=>simp[intOf];omega
   ·have F:Hid (kL bw n.n4=none):=ajc a H.out (by rw[x.out];exact h);by_cases A:R.2=true
    ·have O:(R.1.1==4)=true:=by grind
     clear h;go_wp2_with fail
     go_ret2
     exact⟨by rw[F.out];exact⟨_,rfl⟩,c.out.alloc I7 _⟩
    ·have aiS:R.2=false:=by grind
     clear h A;go_wp2_with fail
     go_ret2
     exact⟨by rw[F.out];exact⟨_,rfl⟩,c.out.alloc I7 _⟩
  ·have Ie:n.n4.take k=n.n4:=AU;have T:Hid (kL bw n.n4=some st):=AU;have fZ:Hid (fh wr u6 st/\fT 115 wr u6):=⟨fh.AP f Ay,fT.AP f⟩;clear hrun f r Ie;go_wp2_with fail
   go_ret2
   exact⟨by rw[T.out];exact⟨_,rfl,fZ.out⟩,j.out⟩
end
variable {o:Option (List (Int×Int))}{v:Value}
section
attribute [local go_sem ↓] Go.wp_at_zero Go.wp_at_succ
def XV(w:World)(rd:Nat->Option Value)(x:List (Int×Int)):Prop:=∃v,rd 0=some v/\fh w v x
theorem ajg:sV XV:=fun _ _ _ _ _ b a⟨v,h0,h⟩=>⟨v,a _ _ h0,h.mono s3 b⟩
abbrev FJ(w:World):=bd w 1 XV
attribute [local go_sem ↓] Go.wp_at_zero Go.wp_at_succ
def Ii(w:World)(v:Value)(ok:Bool)(o:Option (List (Int×Int))):Prop:=
 match o with
 |some l=>ok=true/\fh w v l/\fT 115 w v
 |none=>ok=false
theorem AX.shape{e:Ending}(h:AX w e o):∃v ok,e=.returned (.tuple #[v,.bool ok])/\Ii w v ok o:=by
 cases o with
 |none=>obtain⟨v,h⟩:=h;exact⟨v,false,h,rfl⟩
 |some l=>obtain⟨v,h,a⟩:=h;exact⟨v,true,h,rfl,a⟩
theorem Ii.ret{ok:Bool}(h:Ii w v ok o):AX w (.returned (.tuple #[v,.bool ok])) o:=by cases o with|none=>simp[Ii]at h;subst h;exact⟨v,rfl⟩|some l=>obtain⟨h,a⟩:=h;subst h;exact⟨v,rfl,a⟩
theorem ajh{cX:List (List (Int×Int))}(h:FJ w v cX)(e:k<cX.length):
 ∃b off cap a c,v=.slice (some ⟨b,off,none⟩) cX.length cap/\b<w.heap.size/\w.cell? ⟨b,off+k,none⟩=some (.slice a cX[k].length c)/\fh w (.slice a cX[k].length c) cX[k]:=by
 obtain⟨g,cap,rfl,hl,f⟩:=h;obtain⟨b,off,rfl,v,h0,d⟩:=f k e;simp at h0;obtain⟨a,c,rfl,-⟩:=d.shape;exact⟨b,off,cap,a,c,rfl,gX h0,h0,d⟩
theorem aji{bJ:List (List br)}(h:CI w v bJ)(e:k<bJ.length):
 ∃b off cap a c,v=.slice (some ⟨b,off,none⟩) bJ.length cap/\b<w.heap.size/\w.cell? ⟨b,off+k,none⟩=some (.slice a bJ[k].length c)/\lV w (.slice a bJ[k].length c) bJ[k]:=by
 obtain⟨g,cap,rfl,hl,f⟩:=h;obtain⟨b,off,v,rfl,h0,d⟩:=XS f e;obtain⟨a,c,rfl,-⟩:=d.shape;exact⟨b,off,cap,a,c,rfl,gX h0,h0,d⟩
theorem ajj(bs p:Nat)(b:Int)(ea:Value)(bJ:List (List br))(f d j aa:Option Addr)(le lk lo n8 ce g co h:Nat)(w:World)(x:w.cell? ⟨bs,0,none⟩=some ea)(ht:CI w ea bJ)(t:p<bJ.length)(A:bJ[p].length<=8):
 Calls (ai prog true) 34 #[.pointer (some ⟨bs,0,none⟩),.agg #[.int .i64 1,.int .i64 p,.int .i64 b,.slice f le ce,.slice d lk g,.slice j lo co,.slice aa n8 h]] w fun e w'=>AX w' e (some (qn bJ[p]))/\Below w.heap.size w w':=by
 obtain⟨m,k,ct,a,c,rfl,C,dw,q⟩:=aji ht t;have B:=gX x;have z:(0:Int)<=(p:Int):=Ay;have y:(p:Int)<(bJ.length:Int):=Ay;have n:=((bC.refl w).alloc (.cells #[.int .i64 1,.int .i64 p,.int .i64 b,.slice f le ce,.slice d lk g,.slice j lo co,.slice aa n8 h] 37)).drew;have o:=bd.mono se n q;have HC:Hid _:=o;have l:=((Below.refl w.heap.size w).alloc Jr (.cells #[.int .i64 1,.int .i64 p,.int .i64 b,.slice f le ce,.slice d lk g,.slice j lo co,.slice aa n8 h] 37)).drew;have v:Hid _:=l;clear n q o ht l;go_enter (bl (upd:=true) func34 AS),ntmps34
 go_wp2_with fail
 go_region_held3 (fun W=>W.cell? ⟨bs,0,none⟩=some (.slice (some ⟨m,k,none⟩) bJ.length ct)/\W.cell? ⟨w.heap.size,1,none⟩=some (.int .i64 p)/\W.cell? ⟨m,k+p,none⟩=some (.slice a bJ[p].length c))
  ((go_split_ands;refine⟨?_,?_,?_⟩<;>first|(exact(bC.cW i) _ _ _ AU)|(go_keep;done)))
  (first|(go_at_call 43;refine(ai8 bJ[p] _ _ HC.out Ay).mono ?_;rintro e w1 ⟨v1,rfl,r,u,i⟩))
 have s:Hid (Below w.heap.size w w1):=Below.step i v.out Aa;clear i;go_wp2_with fail
 go_ret2
 exact⟨⟨_,rfl,r,u⟩,s.out⟩
theorem ajk(bs p:Nat)(b:Int)(es:List (List cd))(cJ os:List Int)(d:List (Int×Int))(d3:Value)(cX:List (List (Int×Int)))(v c9 u y:Value)(w:World)(f:AO w v c9 u y ⟨3,p,b,es,cJ,os,d⟩)(E:w.cell? ⟨bs,2,none⟩=some d3)(ht:FJ w d3 cX)(K:p<cX.length)(s6:∀e∈es,∀t∈e,Met t.op)(I:es.length<=8):
 Calls (ai prog true) 34 #[.pointer (some ⟨bs,0,none⟩),.agg #[.int .i64 3,.int .i64 p,.int .i64 b,v,c9,u,y]] w fun e w'=>AX w' e (kL cX[p] es)/\Below w.heap.size w w':=by
 obtain⟨x,s,ct,a,c,rfl,Q,dw,r⟩:=ajh ht K;have P:=gX E;have O:(0:Int)<=(p:Int):=Ay;have N:(p:Int)<(cX.length:Int):=Ay;obtain⟨h,ce,g,i,l,co,aa,j,rfl,rfl,rfl,rfl⟩:=f.shape;simp only at f;have q:=((bC.refl w).alloc (.cells #[.int .i64 3,.int .i64 p,.int .i64 b,.slice h es.length ce,.slice g cJ.length i,.slice l os.length co,.slice aa d.length j] 37)).drew;have A:=bd.mono s3 q r;have D:=f.mono q;have HC:Hid (fh _ _ cX[p]):=A;have F:Hid _:=D;have L:Hid _:=((Below.refl w.heap.size w).alloc Jr (.cells #[.int .i64 3,.int .i64 p,.int .i64 b,.slice h es.length ce,.slice g cJ.length i,.slice l os.length co,.slice aa d.length j] 37)).drew;have M:Hid _:=s6;clear q r A ht f D s6;generalize C:(kL cX[p] es)=o;have H:Hid _:=C;clear C;go_enter (bl (upd:=true) func34 AS),ntmps34
 go_wp2_with fail
 go_region_held3 (fun W=>W.cell? ⟨bs,2,none⟩=some (.slice (some ⟨x,s,none⟩) cX.length ct)/\W.cell? ⟨w.heap.size,0,none⟩=some (.int .i64 3)/\W.cell? ⟨w.heap.size,1,none⟩=some (.int .i64 p)/\W.cell? ⟨w.heap.size,2,none⟩=some (.int .i64 b)/\W.cell? ⟨w.heap.size,3,none⟩=some (.slice h es.length ce)/\W.cell? ⟨w.heap.size,4,none⟩=some (.slice g cJ.length i)/\W.cell? ⟨w.heap.size,5,none⟩=some (.slice l os.length co)/\W.cell? ⟨w.heap.size,6,none⟩=some (.slice aa d.length j)/\W.cell? ⟨x,s+p,none⟩=some (.slice a cX[p].length c))
  ((go_split_ands;refine⟨?_,?_,?_,?_,?_,?_,?_,?_,?_⟩<;>first|(exact(bC.cW k) _ _ _ DR)|(go_keep;done)))
  (first|(go_at_call 45;refine(aje ⟨3,p,b,es,cJ,os,d⟩ _ _ _ _ _ cX[p] _ F.out M.out I HC.out).mono ?_;rintro e w1 ⟨B,k⟩;obtain⟨v1,n,rfl,z⟩:=AX.shape B))
 have J:Hid (Below w.heap.size w w1):=Below.step k L.out Aa;have m:Hid (Ii w1 v1 n _):=z;clear k B z;go_wp2_with fail
 go_ret2
 exact⟨by rw[<-H.out];exact m.out.ret,J.out⟩
end
end cA
open RowKit az cA
variable {w w' w0 w2:World}{bo c9 d3 ea v:Value}{b bs cap g n q size:Nat}{cs:Array Value}{T e:TypeId}{bJ:List (List br)}{b3:List ps}{cX:List (List (Int×Int))}{a2:List Bool}{vals xs:List Value}
section
attribute [local go_sem ↓] Go.wp_at_zero Go.wp_at_succ
attribute [local go_sem ↓] Go.wp_at_zero Go.wp_at_succ
theorem Il{l:List Int}(h:km w v l){k:Nat}(a:k<l.length):
 ∃b off cap,v=.slice (some ⟨b,off,none⟩) l.length cap/\b<w.heap.size/\w.cell? ⟨b,off+k,none⟩=some (.int .i64 l[k]):=by
 obtain⟨d,cap,rfl,hl,c⟩:=h;obtain⟨b,off,rfl,h0⟩:=c k a;simp[w5]at h0;exact⟨b,off,cap,rfl,gX h0,h0⟩
theorem km.box(h:af w b cs T)(xs:List Int)(cap:Nat)(hl:xs.length<=9223372036854775807)(a:∀i(h:i<xs.length),cs[i]?=some (.int .i64 xs[i])):km w (.slice (some ⟨b,0,none⟩) xs.length cap) xs:=
 ⟨_,cap,rfl,hl,fun i hi=>⟨b,0,rfl,by simp[w5];rw[h.bT.1 i];grind⟩⟩
structure LY(w:World)(bs:Nat)(ea bo d3 c9:Value)(bJ:List (List br))(b3:List ps)(cX:List (List (Int×Int)))(a2:List Bool):Prop where
 cu:w.cell? ⟨bs,0,none⟩=some ea
 c1:w.cell? ⟨bs,1,none⟩=some bo
 bH:w.cell? ⟨bs,2,none⟩=some d3
 eI:w.cell? ⟨bs,3,none⟩=some c9
 AZ:CI w ea bJ
 nodes:Qk w bo b3
 types:FJ w d3 cX
 taken:H2 w c9 a2
theorem LY.mono(a:bC w w')(h:LY w bs ea bo d3 c9 bJ b3 cX a2):LY w' bs ea bo d3 c9 bJ b3 cX a2:=
 ⟨a _ _ _ h.cu,a _ _ _ h.c1,a _ _ _ h.bH,a _ _ _ h.eI,h.AZ.mono LA a,h.nodes.mono Qj a,h.types.mono ajg a,h.taken.mono Xh a⟩
theorem Im(h:af w b cs T):w.shape? b=some (T,cs.size):=by grind[af,World.shape?]
theorem fT.zB{a:TypeId}{off c:Nat}(h:fT T w (.slice (some ⟨b,off,none⟩) n c))(f:af w g cs a)(d:T≠a):b≠g:=by rintro rfl;obtain⟨k,e⟩:=h _ _ _ _ rfl;rw[Im f]at e;grind
theorem bd.XZ{ar:Type}{iI:Nat}{R:World->(Nat->Option Value)->ar->Prop}{xs:List ar}(h:bd w iI R v xs)(k:∀rd a x,(∀j,a j=rd j)->R w rd x->R w' a x)
 (g:∀b off n c,v=.slice (some ⟨b,off,none⟩) n c->∀o,w'.cell? ⟨b,o,none⟩=w.cell? ⟨b,o,none⟩):bd w' iI R v xs:=by
 obtain⟨d,cap,rfl,hl,e⟩:=h;refine⟨d,cap,rfl,hl,fun i hi=>?_⟩;obtain⟨b,off,rfl,f⟩:=e i hi;grind
theorem fh.zC{l:List (Int×Int)}(h:fh w v l)(g:∀b off n c,v=.slice (some ⟨b,off,none⟩) n c->w'.heap[b]?=w.heap[b]?):fh w' v l:=by refine bd.XZ h ?_ (fun b off n c e o=>World.cell?_of_block (w:=w) AU);intro rd f x d a;exact⟨by rw[d];exact a.1,by rw[d];exact a.2⟩
theorem km.zC{l:List Int}(h:km w v l)(a:∀b off n c,v=.slice (some ⟨b,off,none⟩) n c->w'.heap[b]?=w.heap[b]?):km w' v l:=by grind[bd.XZ,World.cell?_of_block,w5]
theorem fT.zC(h:fT T w v)(a:∀b off n c,v=.slice (some ⟨b,off,none⟩) n c->w'.heap[b]?=w.heap[b]?):fT T w' v:=by intro b off n c e;obtain⟨k,d⟩:=h b off n c e;grind[World.shape?]
structure Own(w0 w:World)(bs:Nat)(ea bo d3 c9:Value)(bJ:List (List br))(b3:List ps)(cX:List (List (Int×Int)))(a2:List Bool)(vals:List Value):Prop where
 below:Below w0.heap.size w0 w
 AZ:CI w0 ea bJ
 nodes:Qk w0 bo b3
 FK:w0.heap.size<=bs
 box:af w bs #[ea,bo,d3,c9] 85
 tO:w.ownsRow w0.heap.size 80 1 d3 cX.length vals
 s_:w.ownsRow w0.heap.size 4 1 c9 a2.length (a2.map .bool)
 small:cX.length<=1000
 LZ:a2.length<=1000
 each:∀j(h:j<cX.length),∃v,vals[j]?=some v/\fh w v cX[j]/\fT 115 w v
theorem H2.AP{base:Nat}{l:List Bool}(h:w.ownsRow base e 1 v l.length (l.map .bool))(hl:l.length<=9223372036854775807):H2 w v l:=by
 have a:=h;rcases a.2 with⟨rfl,h0⟩|⟨g,cap,bp,rfl,b⟩
 ·grind[bd.nil]
 ·refine⟨_,cap,rfl,hl,fun i hi=>⟨g,0,rfl,?_⟩⟩;simp[AN];grind[uK]
theorem FJ.AP{base:Nat}{l:List (List (Int×Int))}(h:w.ownsRow base e 1 v l.length vals)(hl:l.length<=9223372036854775807)(b:∀j(h:j<l.length),∃v,vals[j]?=some v/\fh w v l[j]):FJ w v l:=by
 have c:=h;rcases c.2 with⟨rfl,h0⟩|⟨g,cap,bp,rfl,a⟩
 ·grind[bd.nil]
 ·refine⟨_,cap,rfl,hl,fun i hi=>⟨g,0,rfl,?_⟩⟩;obtain⟨u,d,a⟩:=b i hi;refine⟨u,?_,a⟩;simp;grind[uK]
theorem Own.ajn(h:Own w0 w bs ea bo d3 c9 bJ b3 cX a2 vals):LY w bs ea bo d3 c9 bJ b3 cX a2:=by have f:=h.box.bT.1;have c:=bC.cW h.below;have e:=h.small;have hl:=h.LZ;exact⟨AU,AU,AU,AU,h.AZ.mono LA c,h.nodes.mono Qj c,FJ.AP h.tO Ay (fun j d=>let⟨v,a,b,_⟩:=h.each j d;⟨v,a,b⟩),H2.AP h.s_ Ay⟩
theorem Own.call(h:Own w0 w bs ea bo d3 c9 bJ b3 cX a2 vals)(d:Below w.heap.size w w'):Own w0 w' bs ea bo d3 c9 bJ b3 cX a2 vals:=
 ⟨h.below.trans (d.mono h.below.size),h.AZ,h.nodes,h.FK,h.box.call d,FA h.tO d,FA h.s_ d,h.small,h.LZ,fun j e=>let⟨v,a,b,c⟩:=h.each j e;⟨v,a,bd.mono s3 (bC.cW d) b,c.call d⟩⟩
theorem L0{base:Nat}(h:w.ownsRow base e 1 (.slice (some ⟨g,0,none⟩) n cap) n xs)(j:q<n)(u:Value):(w.setCell ⟨g,q,none⟩ u).ownsRow base e 1 (.slice (some ⟨g,0,none⟩) n cap) n (xs.set q u):=by
 obtain⟨k,i⟩:=h;rcases i with⟨h0,_⟩|⟨g',cap',bp,a,f,c,d,b,l,ht⟩
 ·grind
 ·simp at a;obtain⟨rfl,rfl⟩:=a;refine⟨AU,.inr ⟨g,cap,bp.setIfInBounds q u,rfl,f,?_,d,b,AU,?_⟩⟩
  ·exact af.set (show af w g bp e from c) q u
  ·rw[Array.toList_setIfInBounds,List.take_set,ht]
theorem Own.take{gk uS m:Nat}(h:Own w0 w bs ea bo d3 (.slice (some ⟨gk,0,none⟩) uS m) bJ b3 cX a2 vals)(z:q<a2.length):
 Own w0 (w.setCell ⟨gk,q,none⟩ (.bool true)) bs ea bo d3 (.slice (some ⟨gk,0,none⟩) uS m) bJ b3 cX (a2.set q true) vals:=by
 have f:=h.s_;have l:uS=a2.length:=by
  rcases f.2 with⟨h0,_⟩|⟨g,c,bp,h0,_⟩
  ·grind
  grind
 subst l;obtain⟨k,y⟩:=f.lt gk rfl;obtain⟨bp,o⟩:∃bp,af w gk bp 4:=by
  rcases f.2 with⟨h0,_⟩|⟨g,c,bp,h0,_,d,_⟩
  ·grind
  ·simp only[Value.slice.injEq,Option.some.injEq,Addr.mk.injEq,and_true]at h0;obtain⟨rfl,-,-⟩:=h0;exact⟨bp,d⟩
 have r:∀{T:TypeId}{v:Value},fT T w v->T≠4->∀b off n c,v=.slice (some ⟨b,off,none⟩) n c->(w.setCell ⟨gk,q,none⟩ (.bool true)).heap[b]?=w.heap[b]?:=by intro T v p u b off n c e;subst e;exact Below.heap_setCell _ _ _ _ (p.zB o u)
 refine⟨h.below.setCell k _,h.AZ,h.nodes,h.FK,?_,?_,?_,h.small,by simpa using h.LZ,?_⟩
 ·refine h.box.fu ?_ _;rintro rfl;have x:=Im h.box;rw[Im o]at x;grind
 ·refine⟨h.tO.1,?_⟩;rcases h.tO.2 with A|⟨g,cap,i,e,t,d,rest⟩
  ·grind
  ·refine .inr ⟨g,cap,i,e,t,?_,rest⟩;rw[Below.heap_setCell _ _ _ _ (show g≠gk from ?_)]
   ·exact d
   ·rintro rfl;grind[af]
 ·grind[L0,List.map_set]
 ·intro j s;obtain⟨v,a,b,c⟩:=h.each j s;exact⟨v,a,b.zC AU,c.set _ _⟩
theorem ajr{base:Nat}(h:w.ownsRow base e size (.slice (some ⟨g,0,none⟩) n cap) n xs):∃bp,af w g bp e:=by
 rcases h.2 with⟨h0,_⟩|⟨g',c,bp,h0,_,a,_⟩
 ·grind
 ·simp only[Value.slice.injEq,Option.some.injEq,Addr.mk.injEq,and_true]at h0;obtain⟨rfl,-,-⟩:=h0;exact⟨bp,a⟩
theorem ym{base:Nat}(h:w.ownsRow base e size v n xs)(a:v.ownBlock=some g):∃bp,af w g bp e:=by
 rcases h.2 with⟨rfl,_⟩|⟨g',c,bp,rfl,_,b,_⟩
 ·simp[Value.ownBlock]at a
 ·simp[Value.ownBlock]at a;subst a;exact⟨bp,b⟩
theorem af.zB{a:Nat}{g i:Array Value}{d c:TypeId}(f:af w a g d)(e:af w b i c)(h:d≠c):a≠b:=by rintro rfl;have:=Im f;rw[Im e]at this;grind
theorem FL{base:Nat}(h:w.ownsRow base e size v n xs)(a:∀g,v.ownBlock=some g->w'.heap[g]?=w.heap[g]?):w'.ownsRow base e size v n xs:=by
 refine⟨h.1,?_⟩;rcases h.2 with d|⟨g,cap,bp,rfl,b,c,rest⟩
 ·grind
 ·exact .inr ⟨g,cap,bp,rfl,b,by rw[a g rfl];grind,rest⟩
theorem Own.ajs(h:Own w0 w bs ea bo d3 c9 bJ b3 cX a2 vals)
 {v1:Value} {l:List (Int×Int)} (r:fh w v1 l) (s:fT 115 w v1) (B:cX.length+1<=1000) 
 (N:w2.ownsRow w0.heap.size 80 1 (.slice (some ⟨g,0,none⟩) (cX.length+1) cap) (cX.length+1) (vals++[v1])) (q:(w.alloc (.cells #[v1] 80)).grownBy w2 d3.ownBlock):
 Own w0 (w2.setCell ⟨bs,2,none⟩ (.slice (some ⟨g,0,none⟩) (cX.length+1) cap)) bs ea bo (.slice (some ⟨g,0,none⟩) (cX.length+1) cap) c9 bJ b3 (cX++[l]) a2 (vals++[v1]):=by
 have d:=h.call ((Below.refl w.heap.size w).alloc AU (.cells #[v1] 80));have L:fh (w.alloc (.cells #[v1] 80)) v1 l:=bd.mono s3 ((bC.refl w).alloc _) r;have O:fT 115 (w.alloc (.cells #[v1] 80)) v1:=s.call ((Below.refl w.heap.size w).alloc AU _);generalize w.alloc (.cells #[v1] 80)=w1 at *;clear h r s;have E:∀k,d3.ownBlock=some k->w0.heap.size<=k:=fun k f=>(d.tO.lt k f).1;have z:Below w0.heap.size w0 w2:=d.below.grown q d.below.size E;have i:∀{T:TypeId}{b:Nat}{cs:Array Value},af w1 b cs T->T≠80->w2.heap[b]?=w1.heap[b]?:=by intro T b cs o p;refine q.block b o.lt (fun e=>?_);obtain⟨bp,m⟩:=ym d.tO e.symm;exact o.zB m p rfl
 have x:af w2 bs #[ea,bo,d3,c9] 85:=by have:=i d.box AW;unfold af;rw[this];exact d.box
 have K:∀{T:TypeId}{b:Nat}{cs:Array Value},af w2 b cs T->T≠85->(w2.setCell ⟨bs,2,none⟩ (.slice (some ⟨g,0,none⟩) (cX.length+1) cap)).heap[b]?=w2.heap[b]?:=by intro T b cs o p;exact Below.heap_setCell _ _ _ _ (o.zB x p)
 have J:∀{v:Value}{l:List (Int×Int)},fh w1 v l->fT 115 w1 v->fh (w2.setCell ⟨bs,2,none⟩ (.slice (some ⟨g,0,none⟩) (cX.length+1) cap)) v l/\fT 115 (w2.setCell ⟨bs,2,none⟩ (.slice (some ⟨g,0,none⟩) (cX.length+1) cap)) v:=by
  intro v l C u;have f:∀b off n c,v=.slice (some ⟨b,off,none⟩) n c->(w2.setCell ⟨bs,2,none⟩ (.slice (some ⟨g,0,none⟩) (cX.length+1) cap)).heap[b]?=w1.heap[b]?:=by
   intro b off n c e;obtain⟨k,f⟩:=u b off n c e;obtain⟨cs,t⟩:∃cs fr,w1.heap[b]?=some (.cells cs 115 fr):=by simp[World.shape?]at f;grind
   obtain⟨fr,t⟩:=t;have y:w2.heap[b]?=w1.heap[b]?:=by refine q.block b AU (fun e=>?_);obtain⟨bp,m⟩:=ym d.tO e.symm;grind[af]
   rw[Below.heap_setCell _ _ _ _ (show b≠bs from ?_),y];rintro rfl;grind[af]
  exact⟨C.zC f,u.zC f⟩
 refine⟨z.setCell d.FK _,d.AZ,d.nodes,d.FK,x.set 2 _,?_,?_,AU,d.LZ,?_⟩
 ·grind[FL,ym]
 ·refine FL d.s_ (fun g' A=>?_);obtain⟨bp,m⟩:=ym d.s_ A;have M:=i m AW;have F:af w2 g' bp 4:=by grind[af]
  grind
 ·intro j D;rw[List.length_append,List.length_singleton]at D;have I:vals.length=cX.length:=by have:=d.tO.1;omega
  by_cases H:j<cX.length
  ·obtain⟨v,a,b,c⟩:=d.each j H;grind
  grind
theorem Own.aju(h:Own w0 w bs ea bo d3 c9 bJ b3 cX a2 vals)
 (y:a2.length+1<=1000) 
 (F:w2.ownsRow w0.heap.size 4 1 (.slice (some ⟨g,0,none⟩) (a2.length+1) cap) (a2.length+1) (a2.map .bool++[.bool false])) (p:(w.alloc (.cells #[.bool false] 4)).grownBy w2 c9.ownBlock):
 Own w0 (w2.setCell ⟨bs,3,none⟩ (.slice (some ⟨g,0,none⟩) (a2.length+1) cap)) bs ea bo d3 (.slice (some ⟨g,0,none⟩) (a2.length+1) cap) bJ b3 cX (a2++[false]) vals:=by
 have d:=h.call ((Below.refl w.heap.size w).alloc AU (.cells #[.bool false] 4));generalize w.alloc (.cells #[.bool false] 4)=w1 at *;clear h;have B:∀k,c9.ownBlock=some k->w0.heap.size<=k:=fun k f=>(d.s_.lt k f).1;have u:Below w0.heap.size w0 w2:=d.below.grown p d.below.size B;have i:∀{T:TypeId}{b:Nat}{cs:Array Value},af w1 b cs T->T≠4->w2.heap[b]?=w1.heap[b]?:=by intro T b cs m o;refine p.block b m.lt (fun e=>?_);obtain⟨bp,l⟩:=ym d.s_ e.symm;exact m.zB l o rfl
 have s:af w2 bs #[ea,bo,d3,c9] 85:=by have:=i d.box AW;unfold af;rw[this];exact d.box
 have D:∀{T:TypeId}{b:Nat}{cs:Array Value},af w2 b cs T->T≠85->(w2.setCell ⟨bs,3,none⟩ (.slice (some ⟨g,0,none⟩) (a2.length+1) cap)).heap[b]?=w2.heap[b]?:=by intro T b cs m o;exact Below.heap_setCell _ _ _ _ (m.zB s o)
 refine⟨u.setCell d.FK _,d.AZ,d.nodes,d.FK,s.set 3 _,?_,?_,d.small,AU,?_⟩
 ·refine FL d.tO (fun g' x=>?_);obtain⟨bp,l⟩:=ym d.tO x;have E:=i l AW;have C:af w2 g' bp 80:=by grind[af]
  grind
 ·grind[FL,ym]
 ·intro j A;obtain⟨v,a,z,r⟩:=d.each j A;have f:∀b off n c,v=.slice (some ⟨b,off,none⟩) n c->(w2.setCell ⟨bs,3,none⟩ (.slice (some ⟨g,0,none⟩) (a2.length+1) cap)).heap[b]?=w1.heap[b]?:=by
   intro b off n c e;obtain⟨k,f⟩:=r b off n c e;obtain⟨cs,q⟩:∃cs fr,w1.heap[b]?=some (.cells cs 115 fr):=by simp[World.shape?]at f;grind
   obtain⟨fr,q⟩:=q;have t:w2.heap[b]?=w1.heap[b]?:=by refine p.block b AU (fun e=>?_);obtain⟨bp,l⟩:=ym d.s_ e.symm;grind[af]
   rw[Below.heap_setCell _ _ _ _ (show b≠bs from ?_),t];rintro rfl;grind[af]
  exact⟨v,a,z.zC f,r.zC f⟩
theorem Own.ajv(h:Own w0 w bs ea bo d3 c9 bJ b3 cX a2 vals){o:Obj}(d:(w.alloc o).grownBy w2 d3.ownBlock):af w2 bs #[ea,bo,d3,c9] 85:=by have a:=h.call ((Below.refl w.heap.size w).alloc AU o);refine a.box.grown d (fun g c=>?_);obtain⟨bp,b⟩:=ym a.tO c;exact a.box.zB b AW
theorem Own.ajw(h:Own w0 w bs ea bo d3 c9 bJ b3 cX a2 vals){o:Obj}(d:(w.alloc o).grownBy w2 c9.ownBlock):af w2 bs #[ea,bo,d3,c9] 85:=by have a:=h.call ((Below.refl w.heap.size w).alloc AU o);refine a.box.grown d (fun g c=>?_);obtain⟨bp,b⟩:=ym a.s_ c;exact a.box.zB b AW
theorem L3{x:Value}(h:af w b #[x] T):∀j u,([x]:List Value)[j]?=some u->w.cell? ⟨b,j,none⟩=some u:=by intro j u a;rw[h.bT.1 j];grind
def mV(a2:List Bool)(cs:List Int):List Bool:=cs.foldl (fun t c=>t.set c.toNat true) a2
theorem X2(a2:List Bool)(cs:List Int):(mV a2 cs).length=a2.length:=by induction cs generalizing a2 with|nil=>rfl|cons c r a=>simp_all[mV]
theorem ajx(a2:List Bool)(cs:List Int)(c:Int):mV a2 (cs++[c])=(mV a2 cs).set c.toNat true:=by simp[mV]
end
namespace cA
open RowKit az b_
structure e8 where
 e:TypeId
 v:Value
 xs:List Value
structure eZ(B:Nat)(W:World)(L:List e8):Prop where
 own:∀i(h:i<L.length),W.ownsRow B L[i].e 1 L[i].v L[i].xs.length L[i].xs
 apart:∀i j(hi:i<L.length)(hj:j<L.length) g,i≠j->L[i].v.ownBlock=some g->L[j].v.ownBlock≠some g
def ip(L:List e8)(b:Nat):Prop:=∀i(h:i<L.length),L[i].v.ownBlock≠some b
variable {B g i:Nat}{W:World}{L:List e8}
theorem eZ.lt(h:eZ B W L)(hi:i<L.length)(a:L[i].v.ownBlock=some g):B<=g/\g<W.heap.size:=(h.own i hi).lt g a
variable {b:Nat}
theorem eZ.oa(h:eZ B W L)(c:W.heap.size<=b\/b<B):ip L b:=fun i hi a=>by have:=h.lt hi a;omega
variable {W':World}
theorem eZ.kept(h:eZ B W L)(a:∀g,¬ip L g->W'.heap[g]?=W.heap[g]?):eZ B W' L:=
 ⟨fun i hi=>FL (h.own i hi) fun g b=>a g fun c=>c i hi b,h.apart⟩
variable {cap:Nat}{xs:List Value}
theorem eZ.push(h:eZ B W L)(hi:i<L.length)(r:W'.ownsRow B L[i].e 1 (.slice (some ⟨g,0,none⟩) xs.length cap) xs.length xs)(o:W.grownBy W' L[i].v.ownBlock)(dF:L[i].v.ownBlock=some g\/g=W.heap.size):
 eZ B W' (L.set i ⟨L[i].e,.slice (some ⟨g,0,none⟩) xs.length cap,xs⟩):=by
 have n:∀j(a:j<L.length),j≠i->L[j].v.ownBlock≠some g:=fun j a b f=>by
  rcases dF with dF|dF
  ·exact h.apart i j hi a g (Ne.symm b) dF f
  ·have:=(h.lt a f).2;omega
 refine⟨fun j a=>?_,fun j k a l g' b c=>?_⟩
 ·rw[List.length_set]at a;by_cases e:i=j
  ·grind
  ·simp only[List.getElem_set,e,if_false];exact FL (h.own j a) fun g' d=>o.block g' (h.lt a d).2 fun p=>h.apart i j hi a g' e p.symm d
 ·rw[List.length_set]at a l;simp only[List.getElem_set]at c⊢;by_cases q:i=j
  ·simp_all[Value.ownBlock,Ne.symm]
  ·simp[q]at c;by_cases m:i=k
   ·simp only[m,if_true,Value.ownBlock];grind
   ·simp only[m,if_false];exact h.apart j k a l g' b c
variable {n:Nat}
theorem ajN(h:eZ B W L)(hi:i<L.length){e:TypeId}(dF:L[i].v.ownBlock=some g\/g=W.heap.size)(k:b<W.heap.size)(d:ip L b):ip (L.set i ⟨e,.slice (some ⟨g,0,none⟩) n cap,xs⟩) b:=by
 intro j c a;rw[List.length_set]at c;simp[List.getElem_set]at a;by_cases f:i=j
 ·simp[f,Value.ownBlock]at a;subst a;rcases dF with dF|dF
  ·exact d i hi dF
  ·omega
 ·simp[f]at a;exact d j c a
structure tb(L:List e8)(w w':World):Prop where
 size:w.heap.size<=w'.heap.size
 os:w'.os=w.os
 tape:w'.tape=w.tape
 output:w'.output=w.output
 block:∀b,b<w.heap.size->ip L b->w'.heap[b]?=w.heap[b]?
@[simp] theorem aCB (a:Array Value) (w:World):Sem.run (ai prog true) (callFunc 31 a) w=.ok (.enter 31 a) w:=c8 (bl (upd:=true) func31 AS) AS a w
theorem eZ.at(h:eZ B W L){r:e8}(a:L[i]?=some r):W.ownsRow B r.e 1 r.v r.xs.length r.xs:=by obtain⟨hi,rfl⟩:=List.getElem?_eq_some_iff.1 a;exact h.own i hi
theorem eZ.alloc(h:eZ B W L)(o:Obj):eZ B (W.alloc o) L:=h.kept fun g a=>Below.heap_alloc _ _ _ (by
 apply Classical.byContradiction;intro b;exact a (h.oa AU))
theorem eZ.set(h:eZ B W L)(c:ip L b)(o:Nat)(v:Value):eZ B (W.setCell ⟨b,o,none⟩ v) L:=h.kept fun g a=>Below.heap_setCell _ _ _ _ AU
theorem eZ.Iu(h:eZ B W L){e:TypeId}{v:Value}(c:L[i]?=some ⟨e,v,xs⟩){x:Value}(f:W'.ownsRow B e 1 (.slice (some ⟨g,0,none⟩) (xs.length+1) cap) (xs.length+1) (xs++[x]))(j:W.grownBy W' v.ownBlock)(dF:v.ownBlock=some g\/g=W.heap.size):
 eZ B W' (L.set i ⟨e,.slice (some ⟨g,0,none⟩) (xs.length+1) cap,xs++[x]⟩)/\∀b,b<W.heap.size->ip L b->ip (L.set i ⟨e,.slice (some ⟨g,0,none⟩) (xs.length+1) cap,xs++[x]⟩) b:=by
 obtain⟨hi,a⟩:=List.getElem?_eq_some_iff.1 c;have d:L[i].e=e:=by rw[a]
 have k:L[i].v=v:=by rw[a]
 have hl:(xs++[x]).length=xs.length+1:=Aa;have:=h.push hi (xs:=xs++[x]) (by rw[hl,d];exact f) AU AU;grind[ajN]
theorem eZ.below(h:eZ B W L)(b:Below W.heap.size W.drew W'):eZ B W' L:=h.kept fun g a=>b.block g (by
 apply Classical.byContradiction;intro c;exact a (h.oa AU))
variable {w:World}{K:Act->World->Prop}{Q:Exit->Act->World->Prop}{ats:Array TypeId}
theorem ajO{P:Program}{ops:Array Oper}{o:Oper}{a:Act}{F:Prop}(k:o.guard=none){f:FuncId}{fn:Func}{args:Array Operand}(b:o.op=.call {callee:=.value (.func f),args,argTypes:=ats})(i:P.funcs[f]?=some fn)(c:(fn.name== "runtime.NumGoroutine")=false)(j:fn.body.isNone=false){vs:Array Value}(g:args.map a.eval=vs)
 (h:Calls P f vs w fun| .returned v,w'=>K (a.put o.dst v) w'| _,_=>False):if Region.wanted o (yielded ops a.tmps)=true then Oper.wp P o a w K Q else F:=by
 subst g;have d:Region.wanted o (yielded ops a.tmps)=true:=by grind[Region.wanted]
 rw[if_pos d];unfold Oper.wp;rw[Conc.run_call_body b i c j];refine h.mono fun e w' l=>?_;grind
theorem ajP{ops:Array Oper}{o:Oper}{a:Act}{F:Prop}(c:o.guard=none){x:Operand}(b:o.op=.call {callee:=.value (.func 39),args:=#[x],argTypes:=ats}){s:ByteArray}(d:a.eval x=.string s)(ht:s.size<=1000000)
 (h:∀w',Below w.heap.size w w'->K (a.put o.dst (.string s)) w'):if Region.wanted o (yielded ops a.tmps)=true then Oper.wp (ai prog true) o a w K Q else F:=
 ajO c b (bl (upd:=true) func39 AS) BB rfl (vs:=#[.string s]) AU ((ajD s w ht).mono AU)
theorem jR{j:Nat}(h:i≠j)(x:e8):(L.set i x)[j]?=L[j]?:=by simp[h]
theorem uW{c:Nat}{cs:Array Value}{T:TypeId}(h:af w c cs T)(a:c≠b)(o:Nat)(v:Value):af (w.setCell ⟨b,o,none⟩ v) c cs T:=by grind[af,Below.heap_setCell]
theorem tb.set{w':World}(h:tb L w w')(o:Nat)(v:Value)(d:w.heap.size<=b):tb L w (w'.setCell ⟨b,o,none⟩ v):=
 ⟨by simp[World.setCell];exact h.size,h.os,h.tape,h.output,fun k a c=>(Below.heap_setCell _ _ _ _ AU).trans (h.block k a c)⟩
theorem tb.Ya{w1 w2:World}(h:tb L w w1)(d:w1.heap.size<=w2.heap.size)(e:w2.os=w1.os)(ht:w2.tape=w1.tape)(g:w2.output=w1.output)(f:∀b,b<w.heap.size->ip L b->w2.heap[b]?=w1.heap[b]?):tb L w w2:=
 ⟨Nat.le_trans h.size d,e.trans h.os,ht.trans h.tape,g.trans h.output,fun b a c=>(f b a c).trans (h.block b a c)⟩
theorem ajQ(h:eZ B w L)(ao:B<=w.heap.size){k:Nat}{bQ vs bo:Value}{is m b3:List Value}(h0:L[k]?=some ⟨2,bQ,is⟩)(h1:L[k+1]?=some ⟨9,vs,m⟩)(h2:L[k+2]?=some ⟨4,bo,b3⟩)(kind cE:Int)(d:bU)(ht:d.text.size<=1000000)(hl:is.length<=1000/\m.length<=1000/\b3.length<=1000):
 Calls (ai prog true) 31 #[.agg #[.int .i64 kind,.int .i64 cE,bQ,vs,bo],ib d] w fun e w'=>(∃g c a f,(kind≠3/\e=.returned (.agg #[.int .i64 kind,.int .i64 cE,.slice (some ⟨g,0,none⟩) (is.length+1) c,vs,.slice (some ⟨a,0,none⟩) (b3.length+1) f])/\
  eZ B w' ((L.set (k+2) ⟨4,.slice (some ⟨a,0,none⟩) (b3.length+1) f,b3++[.bool d.fj]⟩).set k ⟨2,.slice (some ⟨g,0,none⟩) (is.length+1) c,is++[.int .i64 d.cb]⟩))\/
  (kind=3/\e=.returned (.agg #[.int .i64 kind,.int .i64 cE,bQ,.slice (some ⟨g,0,none⟩) (m.length+1) c,.slice (some ⟨a,0,none⟩) (b3.length+1) f])/\
   eZ B w' ((L.set (k+2) ⟨4,.slice (some ⟨a,0,none⟩) (b3.length+1) f,b3++[.bool d.fj]⟩).set (k+1) ⟨9,.slice (some ⟨g,0,none⟩) (m.length+1) c,m++[.string d.text]⟩)))/\tb L w w':=by
 obtain⟨x,z,e0⟩:=s4 (show w.ownsRow B 9 1 vs m.length m from h.at h1);subst e0;obtain⟨y,r,e1⟩:=s4 (show w.ownsRow B 2 1 bQ is.length is from h.at h0);obtain⟨an,E,D⟩:=s4 (show w.ownsRow B 4 1 bo b3.length b3 from h.at h2);subst e1;subst D;have Iv:Hid _:=h0;have Iw:Hid _:=h1;have mi:Hid _:=h2;have F:Hid _:=hl;have X:Hid (eZ B w L):=h;clear h0 h1 h2 hl h;have b2:=(((af.new w #[.int .i64 kind,.int .i64 cE,.slice y is.length r,.slice x m.length z,.slice an b3.length E] 48).alloc (.cells #[.bool d.fj,.int .i64 d.cb,.int .i64 d.cE,.string d.text] 95)).alloc (.cells #[.int .i64 0,.int .i64 0,.slice none 0 0,.slice none 0 0,.slice none 0 0] 48)).alloc (.cells #[.bool d.fj] 4);have eH:=((af.new (w.alloc (.cells #[.int .i64 kind,.int .i64 cE,.slice y is.length r,.slice x m.length z,.slice an b3.length E] 48)) #[.bool d.fj,.int .i64 d.cb,.int .i64 d.cE,.string d.text] 95).alloc (.cells #[.int .i64 0,.int .i64 0,.slice none 0 0,.slice none 0 0,.slice none 0 0] 48)).alloc (.cells #[.bool d.fj] 4);have bS:=(af.new ((w.alloc (.cells #[.int .i64 kind,.int .i64 cE,.slice y is.length r,.slice x m.length z,.slice an b3.length E] 48)).alloc (.cells #[.bool d.fj,.int .i64 d.cb,.int .i64 d.cE,.string d.text] 95)) #[.int .i64 0,.int .i64 0,.slice none 0 0,.slice none 0 0,.slice none 0 0] 48).alloc (.cells #[.bool d.fj] 4);have aO:=af.new (((w.alloc (.cells #[.int .i64 kind,.int .i64 cE,.slice y is.length r,.slice x m.length z,.slice an b3.length E] 48)).alloc (.cells #[.bool d.fj,.int .i64 d.cb,.int .i64 d.cE,.string d.text] 95)).alloc (.cells #[.int .i64 0,.int .i64 0,.slice none 0 0,.slice none 0 0,.slice none 0 0] 48)) #[.bool d.fj] 4;have QV:=(((X.out.alloc (.cells #[.int .i64 kind,.int .i64 cE,.slice y is.length r,.slice x m.length z,.slice an b3.length E] 48)).alloc (.cells #[.bool d.fj,.int .i64 d.cb,.int .i64 d.cE,.string d.text] 95)).alloc (.cells #[.int .i64 0,.int .i64 0,.slice none 0 0,.slice none 0 0,.slice none 0 0] 48)).alloc (.cells #[.bool d.fj] 4);simp at eH bS aO;have Yb:Hid _:=b2;have ajR:Hid _:=eH;have ajS:Hid _:=bS;have K:Hid _:=L3 aO;have Ix:Hid _:=QV;have J:Hid _:=QV.at mi.out;have t:Hid (∀u∈([.bool d.fj]:List Value),u.oneCell'=true):=LC;have sj:Hid (B<=w.heap.size):=ao;clear b2 eH bS aO QV ao;go_enter (bl (upd:=true) func31 AS),ntmps31
 go_wp2_with (at_builtin;apply yn)
 unfold xh;refine H5 LH _ rfl _ _ rfl B (.slice an b3.length E) b3.length b3 rfl J.out (w.heap.size+1+1+1) 1 1 _ rfl rfl K.out t.out AW K7 K7 (by have:=sj.out;simp;omega) (w.heap.size+1+1+1+1) Aa ?_;intro a f lz QW o Yc Yd;have dr:∀i g,i<3->(Value.slice an b3.length E).ownBlock=some g->w.heap.size+i≠g:=fun i g _ j=>by obtain⟨hi,C⟩:=List.getElem?_eq_some_iff.1 mi.out;have:=(X.out.lt hi (by rw[C];exact j)).2;omega
 obtain⟨gw,gD⟩:=eZ.Iu Ix.out mi.out QW o Bp;have bH:=(af.grown Yb.out o (fun g j=>dr 0 g AW j)).set 4 (.slice (some ⟨a,0,none⟩) (b3.length+1) f);have eI:=af.grown ajR.out o Bp;have c4:=af.grown ajS.out o (fun g j=>dr 2 g AW j);have I:∀i,i<3->ip (L.set (k+2) ⟨4,.slice (some ⟨a,0,none⟩) (b3.length+1) f,b3++[.bool d.fj]⟩) (w.heap.size+i):=fun i hi=>gD _ Bu (X.out.oa AU);have L_:tb L w lz:=⟨by have:=o.size;simp at this;omega,o.os,o.tape,o.output,fun b hb Z=>(o.block b Bu (fun e=>by
  obtain⟨hi,C⟩:=List.getElem?_eq_some_iff.1 mi.out;exact Z _ hi AU)).trans (by
   grind[Below.heap_alloc])⟩
 obtain⟨O,N,M⟩:=(af.grown Yb.out o (fun g j=>dr 0 g AW j)).all;by_cases lZ:kind=3
 ·subst lZ;go_upto_region 3 with fail
  have H:=gw.set (I 0 AW) 4 (.slice (some ⟨a,0,none⟩) (b3.length+1) f);have fS:=uW eI (b:=w.heap.size) Ay 4 (.slice (some ⟨a,0,none⟩) (b3.length+1) f);have gJ:=uW c4 (b:=w.heap.size) Ay 4 (.slice (some ⟨a,0,none⟩) (b3.length+1) f);have Iy:=L_.set 4 (.slice (some ⟨a,0,none⟩) (b3.length+1) f) Jr;simp at H;generalize lz.setCell ⟨w.heap.size,4,none⟩ (.slice (some ⟨a,0,none⟩) (b3.length+1) f)=T at *;simp at bH;clear O N M gw eI c4 L_ QW o Yc Yd Ix J K t;have R:(L.set (k+2) ⟨4,.slice (some ⟨a,0,none⟩) (b3.length+1) f,b3++[.bool d.fj]⟩)[k+1]?=some ⟨9,.slice x m.length z,m⟩:=(jR Ay _).trans Iw.out;have Q:Hid _:=bH;have Ye:Hid _:=fS;have Iz:Hid _:=gJ;have p:Hid _:=Iy;have Yf:Hid _:=H;have P:Hid _:=R;have vY:Hid _:=I;have t:Hid (∀u∈([.string d.text]:List Value),u.oneCell'=true):=LC;obtain⟨O,N,M⟩:=bH.all;obtain⟨jv,lR,V⟩:=fS.all;clear R bH fS gJ Iy I H;have S:∀i g,i<3->(Value.slice x m.length z).ownBlock=some g->w.heap.size+i≠g:=fun i g A0 j=>by obtain⟨hi,C⟩:=List.getElem?_eq_some_iff.1 Iw.out;have:=(X.out.lt hi (by rw[C];exact j)).2;omega
  have s8:Hid _:=S;clear S;go_region_law
   (first|(refine ajP B2 B2 (s:=d.text) B2 ht ?_;intro IA n;obtain⟨db,dA,cY⟩:=(af.call (af.drew Q.out) n).all)|(refine LF Xq _ B2 _ _ B2 B (.slice x m.length z) m.length m B2 ((eZ.alloc (eZ.below Yf.out n) _).at P.out) IA.heap.size 1 1 [.string d.text] B2 rfl Bp t.out Ay K7 K7 (by have:=sj.out;have:=p.out.size;have:=n.size;simp at this⊢;omega) (IA.heap.size+1) Aa ?_;intro g c qo IB l QX QY;have D:=af.grown ((af.call (af.drew Q.out) n).alloc _) l (fun g j=>s8.out 0 g AW j);have e3:=af.grown ((af.call (af.drew Ye.out) n).alloc _) l (fun g j=>s8.out 1 g AW j);obtain⟨u1,u2,u3⟩:=D.all))
  all_goals
   obtain⟨Y,W⟩:=eZ.Iu (eZ.alloc (eZ.below Yf.out n) _) P.out IB l Bp;have e4:=af.grown ((af.call (af.drew Iz.out) n).alloc _) l (fun g j=>s8.out 2 g AW j);have IC:tb L w qo:=p.out.Ya (by have s1:=l.size;have s2:=n.size;simp at s1 s2;omega) (l.os.trans n.os) (l.tape.trans n.tape) (l.output.trans n.output) (fun b hb Z=>(l.block b (by have:=p.out.size;have:=n.size;simp at this⊢;omega) (fun e=>by
    obtain⟨hi,C⟩:=List.getElem?_eq_some_iff.1 Iw.out;exact Z _ hi AU)).trans ((Below.heap_alloc _ _ _ AU).trans (n.block b (by have:=p.out.size;simp;omega))))
   obtain⟨t1,t2,t3⟩:=e4.all;have QZ:Hid _:=IC;have Q0:Hid _:=Y;have ID:Hid (∀i,i<3->ip _ (w.heap.size+i)):=fun i hi=>W _ (by have:=p.out.size;have:=V;have:=n.size;simp at this⊢;omega) (vY.out i hi);clear D e3 e4 IC Y W O N M jv lR V db dA cY IB l QX QY P Q Ye Iz p t n;go_wp2
   have U:=ID.out 0 AW;have q:=ID.out 2 AW;simp at U;exact bodyPost_ret (v:=.agg #[.int .i64 3,.int .i64 cE,.slice y is.length r,.slice (some ⟨g,0,none⟩) (m.length+1) c,.slice (some ⟨a,0,none⟩) (b3.length+1) f]) (by simp[results,results31,go_sem,t1]) rfl
    ⟨⟨g,c,a,f,rfl,(((((Q0.out.set U _ _).set q _ _).set q _ _).set q _ _).set q _ _).set q _ _⟩,(((((QZ.out.set _ _ AU).set _ _ Ay).set _ _ Ay).set _ _ Ay).set _ _ Ay).set _ _ Ay⟩
 ·have mm:(kind==3)=false:=by grind
  have ajT:Hid _:=lZ;clear lZ;go_upto_region 4 with fail
  have H:=gw.set (I 0 AW) 4 (.slice (some ⟨a,0,none⟩) (b3.length+1) f);have fS:=uW eI (b:=w.heap.size) Ay 4 (.slice (some ⟨a,0,none⟩) (b3.length+1) f);have gJ:=uW c4 (b:=w.heap.size) Ay 4 (.slice (some ⟨a,0,none⟩) (b3.length+1) f);have Iy:=L_.set 4 (.slice (some ⟨a,0,none⟩) (b3.length+1) f) Jr;simp at H;generalize lz.setCell ⟨w.heap.size,4,none⟩ (.slice (some ⟨a,0,none⟩) (b3.length+1) f)=T at *;simp at bH;clear O N M gw eI c4 L_ QW o Yc Yd Ix J K t;have R:(L.set (k+2) ⟨4,.slice (some ⟨a,0,none⟩) (b3.length+1) f,b3++[.bool d.fj]⟩)[k]?=some ⟨2,.slice y is.length r,is⟩:=(jR Ay _).trans Iv.out;have Q1:=H.alloc (.cells #[.int .i64 d.cb] 2);have J:Hid _:=Q1.at R;have K:Hid _:=L3 (af.new T #[.int .i64 d.cb] 2);have t:Hid (∀u∈([.int .i64 d.cb]:List Value),u.oneCell'=true):=LC;have Q:Hid _:=bH.alloc (.cells #[.int .i64 d.cb] 2);have Iz:Hid _:=gJ.alloc (.cells #[.int .i64 d.cb] 2);have p:Hid _:=Iy;have Yg:Hid _:=Q1;have P:Hid _:=R;have vY:Hid _:=I;have ajU:Hid (B<=(T.alloc (.cells #[.int .i64 d.cb] 2)).heap.size):=by grind[Hid]
  obtain⟨O,N,M⟩:=bH.all;obtain⟨jv,lR,V⟩:=fS.all;clear Q1 R bH fS gJ Iy I;go_wp2_with (at_builtin;apply yn)
  unfold xh;refine H5 Xp _ rfl _ _ rfl B (.slice y is.length r) is.length is rfl J.out T.heap.size 1 1 _ rfl rfl K.out t.out AW K7 K7 ajU.out (T.heap.size+1) Aa ?_;intro vZ ci qo IB l QX QY;have S:∀i g,i<3->(Value.slice y is.length r).ownBlock=some g->w.heap.size+i≠g:=fun i g A0 j=>by obtain⟨hi,C⟩:=List.getElem?_eq_some_iff.1 Iv.out;have:=(X.out.lt hi (by rw[C];exact j)).2;omega
  obtain⟨Y,W⟩:=eZ.Iu Yg.out P.out IB l Bp;have D:=af.grown Q.out l (fun g j=>S 0 g AW j);have e4:=af.grown Iz.out l (fun g j=>S 2 g AW j);have IC:tb L w qo:=p.out.Ya (by have:=l.size;simp at this;omega) l.os l.tape l.output (fun b hb Z=>(l.block b (by have:=p.out.size;simp;omega) (fun e=>by
   obtain⟨hi,C⟩:=List.getElem?_eq_some_iff.1 Iv.out;exact Z _ hi AU)).trans (Below.heap_alloc _ _ _ AU))
  obtain⟨u1,u2,u3⟩:=D.all;obtain⟨t1,t2,t3⟩:=e4.all;have QZ:Hid _:=IC;have Q0:Hid _:=Y;have ID:Hid (∀i,i<3->ip _ (w.heap.size+i)):=fun i hi=>W _ (by have:=p.out.size;have:=V;simp;omega) (vY.out i hi);clear D e4 IC Y W O N M jv lR V IB l QX QY Yg P Q Iz p J K t;go_wp2
  have U:=ID.out 0 AW;have q:=ID.out 2 AW;simp at U;exact bodyPost_ret (v:=.agg #[.int .i64 kind,.int .i64 cE,.slice (some ⟨vZ,0,none⟩) (is.length+1) ci,.slice x m.length z,.slice (some ⟨a,0,none⟩) (b3.length+1) f]) (by simp[results,results31,go_sem,t1]) rfl
   ⟨⟨vZ,ci,a,f,.inl ⟨ajT.out,rfl,(((((Q0.out.set U _ _).set q _ _).set q _ _).set q _ _).set q _ _).set q _ _⟩⟩,(((((QZ.out.set _ _ AU).set _ _ Ay).set _ _ Ay).set _ _ Ay).set _ _ Ay).set _ _ Ay⟩
open Shelf
def I2(w0:World)(rs:List dY)(t:Nat)(W:World)(x:Value):Prop:=∃(h:t<rs.length)(ed:Option Addr)(pc:Nat)(bW:Option Addr)(bO:Nat),x=.agg #[.slice ed rs[t].1.length pc,.slice bW rs[t].2.length bO]/\k0 w0 (.slice bW rs[t].2.length bO) rs[t].2/\bC w0 W
theorem func29:(ai prog true).funcs[(29:Nat)]?=some f29:=bl (upd:=true) Tryz.func29 AS
theorem amw(rs:List dY)(a9:Value)(cV:Nat)(w0:World)(L:g9 w0 a9 rs)(K:rs.length<=1000000)(k:w0.cell? ⟨cV,0,none⟩=some a9):
 FM n (ai prog true) 29 #[.pointer (some ⟨cV,0,none⟩)] (I2 w0 rs) rs.length w0.heap.size w0:=by
 intro l S J W f v H z h0;have A:=QM v H;clear H v;have j:=bC.cW f;have t:=j _ _ _ k;obtain⟨Y,cap,rfl,-,q⟩:=L;refine callsIn_of_wp func29 rfl trivial ?_ rfl;simp[Array.replicate_succ];gi_wp2
 gi_loopw [7] (fun p wr=>∃i:Nat,i<=rs.length/\p=.int .i64 (i:Int)/\J i wr/\Below w0.heap.size w0 wr/\Below w0.heap.size W wr) (fun p _=>rs.length-(intOf p).toNat)
 case atStart=>exact⟨0,Nat.zero_le _,rfl,h0,f,Below.refl _ _⟩
 case round=>
  obtain⟨i,R,rfl,B,C,D⟩:=hrel;have s:Hid (J i wr):=B;have c:Hid (Below w0.heap.size w0 wr):=C;have x:Hid (Below w0.heap.size W wr):=D;clear B C D;by_cases a:i<rs.length
  ·obtain⟨b,off,rfl,X,V,dw,d1,u,g⟩:=q i a;obtain⟨E,pc,rfl,-,-⟩:=id u;obtain⟨m,o,rfl,-,-⟩:=id g;have r:=bC.cW c.out;simp at dw;have M:=r _ _ _ dw;have T:=r _ _ _ d1;have U:=gX M;have N:Hid (k0 w0 (.slice m rs[i].2.length o) rs[i].2):=g;have O:(i:Int)<(rs.length:Int):=Ay;have Z:(0:Int)<=(i:Int):=Ay;clear r dw d1 q u g h0 f j t k;have d:Below wr.heap.size wr (wr.alloc (.cells #[.slice E rs[i].1.length pc,.slice m rs[i].2.length o] 78)):=(Below.refl _ wr).alloc Jr _;obtain⟨fn,tmps,assign,body,I,F⟩:=z i _ _ (A _ _ _ s.out d) a ⟨a,E,pc,m,o,rfl,N.out,bC.cW (c.out.trans (d.mono c.out.size))⟩;have w:Hid _:=d;clear z A d;gi_wp2
   refine⟨fun h=>Dn,F.mono ?_⟩;rintro e Q ⟨rfl,P,y⟩;clear F I;gi_wp2
   go_roundw
   case rel=>exact⟨i+1,Ay,Aa,P,c.out.trans ((w.out.mono c.out.size).trans y),x.out.trans ((w.out.mono c.out.size).trans y)⟩
   case measure=>simp[intOf];omega
  ·have O:¬(i:Int)<(rs.length:Int):=by omega
   clear q h0 f j t k;gi_wp2
   go_end0
   have e:rs.length=i:=Ay;rw[e];exact⟨⟨_,rfl⟩,s.out,x.out⟩
end cA
namespace bD
open Conc ConcM az bu cZ dD
abbrev df(P:Program):cU:=ei P true
section
variable {ρ:ay}
theorem ZF(m:∀a b d,ρ.rel a b->ρ.rel a d->b=d){a b c:Addr}(h:dC ρ a b)(k:dC ρ a c):b=c:=by obtain⟨p,q,r⟩:=b;obtain⟨l,j,i⟩:=c;obtain⟨n,g,f⟩:=h;obtain⟨q1,o,e⟩:=k;grind
theorem Sa(q:∀a b u,ρ.rel a b->ρ.rel a u->b=u){x y:Value}(h:aA ρ x y):∀{z:Value},aA ρ x z->y=z:=by
 have all:∀{a a':Array Value},a.size=a'.size->(∀(i:Nat)(v d:Value),a[i]?=some v->a'[i]?=some d->∀{z:Value},aA ρ v z->d=z)->∀{b:Array Value},a.size=b.size->(∀(i:Nat)(v d:Value),a[i]?=some v->b[i]?=some d->aA ρ v d)->a'=b:=by
  intro a a' j g b p k;apply Array.ext
  ·grind
  ·intro i hi J;have I:i<a.size:=j▸hi;exact g i a[i] a'[i] AU AU (k i _ _ AU AU)
 induction h with
 |bool b=>intro z k;cases k;rfl
 |int k n=>intro z k;cases k;rfl
 |string s=>intro z k;cases k;rfl
 |lP=>intro z k;cases k;rfl
 |e7 r=>intro z k;cases k with|e7 e=>rw[ZF q r e]
 |hA l c=>intro z k;cases k;rfl
 |slice l c r=>intro z k;cases k with|slice _ _ e=>rw[ZF q r e]
 |sU=>intro z k;cases k;rfl
 |map r=>intro z k;cases k with|map e=>grind
 |r7=>intro z k;cases k;rfl
 |func E F p _ _ D C=>intro z k;cases k with|func o m A B H=>rw[all F D m B,all p C A H];cases E with|func f=>cases o;rfl|yield r=>cases o with|yield e=>grind
 |nilFunc=>intro z k;cases k;rfl
 |iface t _ g=>intro z k;cases k with|iface _ k'=>grind
 |nilIface=>intro z k;cases k;rfl
 |agg j _ g=>intro z k;cases k with|agg w k'=>grind
 |tuple j _ g=>intro z k;cases k with|tuple w k'=>grind
end
def kv(P:Program):Item->Bool
 | .code c| .inLoop c| .inScope c=>j3 P true c
 | .inBlock _=>true
 | .inRegion ops _=>ops.all fun o=>sa P true o.op
 | _=>false
variable {P:Program}
variable {c:Code}
theorem Sb(a:(df P).Good)(h:j3 P true c=true):(df P).ma c:=(a.qg c).2 ((Xb P true true c).trans h)
theorem am_(a:(df P).Good){ρ:ay}{x:Item}(h:kv P x=true):uD (df P) ρ x x:=by cases x with|code c=>exact .code (Sb a h)|inLoop c=>exact .inLoop (Sb a h)|inScope c=>exact .inScope (Sb a h)|inBlock id=>exact .inBlock id|inRegion ops l=>exact .inRegion (fun o b=>(Xa P true true o.op).trans (Array.all_eq_true_iff_forall_mem.1 h o b)) l| _=>cases h
theorem ZG(a:(df P).Good){ρ:ay}:∀{l:List Item},l.all (kv P)=true->nr (df P) ρ l l
 | [],_=>.nil
 |x::l,h=>by simp only[List.all_cons,Bool.and_eq_true]at h;exact .cons (am_ a h.1) (ZG a h.2)
theorem ZH{ρ:ay}:∀{l b:List Item},l.all (kv P)=true->nr (df P) ρ l b->b=l
 | [],_,_,h=>by cases h;rfl
 |x::l,_,a,h=>by simp only[List.all_cons,Bool.and_eq_true]at a;cases h with|cons c hl=>rw[ZH a.2 hl];cases c<;>first|rfl|cases a.1
def mz(P:Program)(f:FuncId):Prop:=∃fn c,(ai P true).funcs[f]?=some fn/\fn.body=some c
theorem M9(e:(df P).Good){ρ:ay}{f:FuncId}(c:mz P f){a:Act}(d:a3 ρ a.tmps a.tmps)(hd:a.defers=[]){k:List Item}(b:k.all (kv P)=true):en (df P) ρ ((base f).at a k) ((base f).at a k):=
 ⟨rfl,c,d,ZG e b,by show tK ρ a.defers a.defers;rw[hd];exact .nil,.run,rfl,.inl rfl,.none⟩
theorem M_{ρ:ay}{f:FuncId}{a:Act}(hd:a.defers=[]){k:List Item}(m:k.all (kv P)=true){g:Frame}(h:en (df P) ρ ((base f).at a k) g):∃a':Act,g=(base f).at a' k/\a3 ρ a.tmps a'.tmps/\a'.defers=[]:=by obtain⟨fn,tmps,todo,defers,mode,kind,ro⟩:=g;obtain⟨c,_,o,n,b,p,d,_,i⟩:=h;have e:todo=k:=ZH m n;have b:tK ρ a.defers defers:=b;rw[hd]at b;have l:wW ρ .run mode:=p;have j:qe ρ.rel none ro:=i;cases b;cases l;cases j;refine⟨⟨tmps,[]⟩,?_,o,rfl⟩;subst e;have c:f=fn:=c;have d:CallKind.normal=kind:=d;subst c;subst d;rfl
structure jW where
 n:Nat
 heap:Array Obj
abbrev ig(M:Nat->Prop):Nat->Prop:=M
abbrev cB(M:Nat->Prop):ay:=fE M (ig M)
structure Home(O:jW)(P:Program)(M:Nat->Prop)(Shun:Loc->Prop)(w:World):Prop where
 cl:i7 (df P) M (ig M) w
 Gg:∀g,g<=P.globals.size->M g
 kp:∀b,M b\/w.heap.size<=b->∀l,fF l=some b->¬Shun l
 new:∀b,M b->b≠0->O.n<=b
 ob:O.n<=w.heap.size
 old:∀b,0<b->b<O.n->w.heap[b]?=O.heap[b]?
 so:∀b,b<O.n->∀l,fF l=some b->¬Shun l
structure pE(w w':World):Prop where
 size:w.heap.size<=w'.heap.size
 later:OsLater w.os w'.os
 output:w'.output=w.output
 tape:w'.tape=w.tape
theorem pE.refl(w:World):pE w w:=⟨Nat.le_refl _,.refl _,rfl,rfl⟩
theorem pE.trans{a b c:World}(h:pE a b)(k:pE b c):pE a c:=⟨Nat.le_trans h.size k.size,h.later.trans k.later,k.output.trans h.output,k.tape.trans h.tape⟩
def l3(ρ:ay):Nat->Prop:=fun b=>∃a,ρ.rel a b
section
variable {O:jW} {Post:Value->World->Prop} {n:Nat} {Shun:Loc->Prop} {M:Nat->Prop} {w:World}
theorem Home.at(h:Home O P M Shun w)(k:Nat):Home O P M Shun (w.at k):=⟨h.cl,h.Gg,h.kp,h.new,h.ob,h.old,h.so⟩
theorem Home.lt(h:Home O P M Shun w){b:Nat}(a:M b):b<w.heap.size:=by obtain⟨o,c,_⟩:=h.cl b a;grind
structure Behind(O:jW)(P:Program)(M:Nat->Prop)(Shun:Loc->Prop)(w:World)(ρ:ay)(bx w':World):Prop where
 rel:∃S,eN (df P) S ρ bx w'
 le:ay.le (cB M) ρ
 dH:Home O P (l3 ρ) Shun w'
 gA:pE w w'
 old:∀a b,ρ.rel a b->(a=b/\M b)\/w.heap.size<=b
theorem Behind.same{ρ:ay}{e w':World}(h:Behind O P M Shun w ρ e w'){v a:Value}(c:aA (cB M) v v)(d:aA ρ v a):a=v:=by obtain⟨S,b⟩:=h.rel;exact(Sa b.one (c.mono h.le) d).symm
theorem Behind.mem{ρ:ay}{c w':World}(h:Behind O P M Shun w ρ c w'){b:Nat}(a:M b):l3 ρ b:=⟨b,h.le.1 b b ⟨rfl,a⟩⟩
theorem Behind.val{ρ:ay}{e w':World}(_:Behind O P M Shun w ρ e w'){v b:Value}(c:aA ρ v b):aA (cB (l3 ρ)) b b:=aA.right (σ:=cB (l3 ρ)) (fun a _ d=>⟨rfl,a,d⟩) c
theorem Behind.all{ρ:ay}{e w':World}(_:Behind O P M Shun w ρ e w'){v b:Array Value}(c:a3 ρ v b):a3 (cB (l3 ρ)) b b:=a3.right (σ:=cB (l3 ρ)) (fun a _ d=>⟨rfl,a,d⟩) c
theorem Behind.cw{ρ:ay}{a w':World}(h:Behind O P M Shun w ρ a w'):vg ρ a w':=by obtain⟨S,b⟩:=h.rel;exact b.cw
theorem Home.cell(h:Home O P M Shun w){a:Addr}{v:Value}(k:M a.block)(i:w.cell? a=some v):aA (cB M) v v:=by
 obtain⟨c,e,fr,g,l,d⟩:=vJ i;obtain⟨o,f,b⟩:=h.cl _ k;rw[g]at f;cases f;rcases b with b|b
 ·cases b with|cells _ j _=>exact j.get _ _ _ d d
 ·exact b.elim
theorem Home.su(h:Home O P M Shun w){b:World}(i:gW (df P) M (ig M) w b){a:Addr}{v:Value}(g:M a.block)(f:w.cell? a=some v):b.cell? a=some v:=by obtain⟨c,e,fr,d,m,l⟩:=vJ f;obtain⟨j,k,_⟩:=i.cells h.cl g d;grind[kH]
theorem Behind.kept{ρ:ay}{f e w':World}(h:Behind O P M Shun w ρ e w')(g:Home O P M Shun w)(k:gW (df P) M (ig M) w f){a:Addr}{v:Value}(b:M a.block)(c:w.cell? a=some v)(j:f.cell? a=some v->e.cell? a=some v):w'.cell? a=some v:=by obtain⟨v2,d,i⟩:=h.cw a a v ⟨h.le.1 _ _ ⟨rfl,b⟩,rfl,rfl⟩ (j (g.su k b c));rw[h.same (g.cell b c) i]at d;exact d
theorem Behind.tY{ρ:ay}{g d w':World}(h:Behind O P M Shun w ρ d w')(i:Home O P M Shun w)(k:gW (df P) M (ig M) w g)(j:bC g d):vg (cB M) w w':=by
 rintro a a' v ⟨⟨n,hd⟩,m,l⟩ c;have e:a=a':=by obtain⟨x,y,z⟩:=a';obtain⟨p,q,r⟩:=a;grind
 subst e;refine⟨v,h.kept i k hd c fun x=>?_,i.cell hd c⟩;obtain⟨b,o,sp⟩:=a;obtain⟨_,_,_,_,f,_⟩:=vJ c;simp only at f;subst f;exact j b o v x
theorem Home.next(c:Home O P M Shun w){X Y:a6}(hl:cZ.Left X Y)(i:X.w=w/\X.mine=ig M){ρ:ay}{S:Sync}{n:World}{k:Nat}(j:eN (df P) S ρ n (Y.w.at k))(e:ay.le (cB M) ρ)(hold:∀a b,ρ.rel a b->(cB M).rel a b\/w.heap.size<=b):Home O P (l3 ρ) Shun (Y.w.at k):=by
 obtain⟨rfl,o⟩:=i;have kept:∀b,b<X.w.heap.size->¬ig M b->Y.w.heap[b]?=X.w.heap[b]?:=fun b m p=>hl.kept b m AU;refine⟨j.closed _,fun g l=>⟨g,e.1 g g ⟨rfl,c.Gg g l⟩⟩,fun b d=>?_,fun b⟨a,f⟩ d=>?_,Nat.le_trans c.ob hl.size,fun b h0 d=>?_,c.so⟩
 ·rcases d with⟨a,f⟩|d
  ·rcases hold a b f with h|h
   ·exact c.kp b (.inl h.2)
   ·exact c.kp b (.inr h)
  ·exact c.kp b (.inr (Nat.le_trans hl.size d))
 ·rcases hold a b f with h|h
  ·exact c.new b h.2 d
  ·exact Nat.le_trans c.ob h
 ·refine(kept b (Nat.lt_of_lt_of_le d c.ob) fun x=>?_).trans (c.old b h0 d);have:=c.new b x Ay;omega
theorem ZI(v:(df P).Good)(g:Home O P M Shun w){f:FuncId}{fr:Frame}{cs0 bs:List Frame}(z:en (df P) (cB M) fr fr)(y:jg (df P) (cB M) cs0 cs0)(A:jh fr cs0){R:Frame->List Frame->World->World->Prop}
 (hrun:∀e,gW (df P) M (ig M) w e->∀T,∃c cse d,Steps (ai P true) (lone fr (cs0++[eP f]) {e with tape:=T}) (lone c (cse++[eP f]) d)/\R c cse e d)
 (x:∀ρ c cse e d j i w',gW (df P) M (ig M) w e->R c cse e d->en (df P) ρ c j->jg (df P) ρ cse i->Behind O P M Shun w ρ d w'->cp P Post n Shun 0 (bb j (i++bs)) w'):
 cp P Post n Shun 0 (bb fr (cs0++bs)) w:=by
 obtain⟨e,o⟩:=HZ (df P) M (ig M) w;have q:=W8 (C:=(df P)) (f:=f) (base:=bs) (w0:=e) (mO:=w) (K:=fun _=>False) (tM:=ig M) (R:=fun c cse d=>R c cse e d) v z y A (o.rel g.cl g.Gg AU) (fun b h=>h) (fun a b h=>.inr h.2)
  (fun T=>by obtain⟨c,cse,d,⟨k,s⟩,m⟩:=hrun e o T;exact⟨k,c,cse,d,s,m⟩) true
 refine Bs (R_ q rfl (fun b u=>g.lt AU) (fun b u=>g.kp b AU) ?_);rintro Y ⟨ρ,c,cse,d,T,m,ht⟩ hl;obtain⟨j,i,t,r,l⟩:=ht.frames;rw[t];refine .stop fun k=>x ρ c cse e d j i (Y.w.at k) o m r l ?_;have p:=ht.world.rely (w':=Y.w.at k) (bound:=0) (⟨fun _ _=>rfl,Nat.le_refl _,rfl⟩:kl (fun _=>False) Y (Y.w.at k)) ht.wZ AU;exact⟨⟨_,p⟩,ht.le,g.next hl ⟨rfl,rfl⟩ p ht.le ht.old,⟨hl.size,hl.os,hl.output,hl.tape⟩,fun a b h=>(ht.old a b h).imp id id⟩
end
section
open nG
variable {O:jW}
section
variable {P:Program} {Post:Value->World->Prop} {n:Nat} {Shun:Loc->Prop} {M:Nat->Prop} {w:World}
theorem ZS(H:(df P).Good)(hF:P.follows .rangeFuncRecover=true){D:gp}(l:Home O P M Shun w){f:FuncId}{fr:Frame}{cs0 bs:List Frame}{g:Goroutine}(hd:D.d<=bs.length)(y:nJ P D (bb fr (cs0++bs)) g)(L:en (df P) (cB M) fr fr)(J:jg (df P) (cB M) cs0 cs0)(N:jh fr cs0){R:Frame->List Frame->World->World->Prop}
 (hrun:∀e,gW (df P) M (ig M) w e->∀T,∃c cse d,Steps (ai P true) (lone fr (cs0++[eP f]) {e with tape:=T}) (lone c (cse++[eP f]) d)/\R c cse e d)
 (I:∀ρ c cse e d o m w' g',gW (df P) M (ig M) w e->R c cse e d->en (df P) ρ c o->jg (df P) ρ cse m->Behind O P M Shun w ρ d w'->nJ P D (bb o (m++bs)) g'->cp P Post n Shun 0 g' w'):
 cp P Post n Shun 0 g w:=by
 obtain⟨e,u⟩:=HZ (df P) M (ig M) w;have A:=qj.var hF hd (W5 (C:=(df P)) (f:=f) (base:=bs) (w0:=e) (mO:=w) (K:=fun _=>False) (tM:=ig M) (R:=fun c cse d=>R c cse e d) H L J N (u.rel l.cl l.Gg fun _ _ i=>.inl i) (fun b h=>h) (fun a b h=>.inr h.2)
  (fun T=>by obtain⟨c,cse,d,⟨k,E⟩,s⟩:=hrun e u T;exact⟨k,c,cse,d,E,s⟩) true) g y
 refine Bs (R_ A y.zl.1 (fun b i=>l.lt (i.resolve_left fun x=>x)) (fun b i=>l.kp b (i.resolve_left fun x=>x)) ?_);rintro z ⟨Y,⟨ρ,c,cse,d,T,s,ht⟩,v,t,Q⟩ hl;obtain⟨o,m,F,B,r⟩:=ht.frames;rw[F]at v;refine .stop fun k=>I ρ c cse e d o m (z.w.at k) z.g u s B r ?_ v;have p:=ht.world.rely (w':=Y.w.at k) (bound:=0) (⟨fun _ _=>rfl,Nat.le_refl _,rfl⟩:kl (fun _=>False) Y (Y.w.at k)) ht.wZ (fun j q h=>absurd h (Nat.not_lt_zero _));rw[<-t]at p;exact⟨⟨_,p⟩,ht.le,l.next hl ⟨rfl,rfl⟩ p ht.le ht.old,⟨hl.size,hl.os,hl.output,hl.tape⟩,fun a b h=>(ht.old a b h).imp id id⟩
structure jX(D:gp)(a b:Act):Prop where
 size:b.tmps.size=a.tmps.size
 same:∀i,D.T i=false->b.tmps[i]?=a.tmps[i]?
 gone:∀i v,D.T i=true->a.tmps[i]?=some v->v=undef
 kept:∀i,D.K i=true->b.tmps[i]?=D.V i
 defers:b.defers=a.defers
structure DN(P:Program)(D:gp)(f:FuncId):Prop where
 Gh:∃fn,P.funcs[f]?=some fn/\fn.results.all (DJ D)=true
 sl:∀t,D.sl t=true->∃e,P.underlying t=some (.slice e)
 Nc:P.inits.idxOf? f=none
section
variable {D:gp} {f:FuncId} {a b:Act} {k:List Item}
theorem jX.ZT(h:jX D a b)(f:FuncId)(k:List Item):fa D ((base f).at a k) ((base f).at b k):=
 ⟨by simp only[Frame.at,base,h.defers],h.size,h.same,fun _=>h.gone,fun _=>h.kept⟩
theorem DN.bQ(h:DN P D f)(b:k.all (iP D)=true)(a:Act):nH P D ((base f).at a k):=⟨fun _=>b,rfl,h.Gh,h.sl,h.Nc⟩
theorem fa.act{fr:Frame}(h:fa D ((base f).at a k) fr):∃b:Act,fr=(base f).at b k/\jX D a b:=by refine⟨⟨fr.tmps,a.defers⟩,?_,h.size,h.same,h.gone rfl,h.kept rfl,rfl⟩;have:=h.eq;rw[this];rfl
end
end
end
section
open nG
variable {O:jW}
section
variable {P:Program} {Post:Value->World->Prop} {n:Nat} {Shun:Loc->Prop} {M:Nat->Prop} {w:World}
theorem gQ(a:Act)(d:Option Tmp)(v:Value):(a.put d v).tmps.size=a.tmps.size:=by cases d<;>simp[Act.put]
theorem put_defers(a:Act)(d:Option Tmp)(v:Value):(a.put d v).defers=a.defers:=by cases d<;>rfl
structure anr(P:Program)(M:Nat->Prop)(eV:FuncId)(a₁:Act)(aG:Array Oper)(i₁:Nat)(k₁:List Item)(D:Nat->gp)(ap:Act):Prop where
 ol:∀n,jX (D n) ap a₁
 all:a3 (cB M) ap.tmps ap.tmps
 d:∀n,(D n).d=n
 fn:∀n,DN P (D n) eV
 ops:∀n,aG.all (wz (D n) aG)=true
 items:∀n,k₁.all (iP (D n))=true
 dst:∀n d,(aG[i₁]?).bind (·.dst)=some d->(D n).T d=false
 a2:∀n i,(D n).T i=true->(D n).K i=true
 follows:P.follows .rangeFuncRecover=true
structure yM(P:Program)(M:Nat->Prop)(eV:FuncId)(a₁:Act)(aG:Array Oper)(i₁:Nat)(k₁:List Item):Prop where
 known:mz P eV
 tmps:a3 (cB M) a₁.tmps a₁.tmps\/∃D ap,anr P M eV a₁ aG i₁ k₁ D ap
 defers:a₁.defers=[]
 ops:kv P (.inRegion aG [])=true
 items:k₁.all (kv P)=true
 dst:∃d,(aG[i₁]?).bind (·.dst)=some d/\d<a₁.tmps.size
def qH(O:jW)(P:Program)(Post:Value->World->Prop)(f:FuncId)(args:Array Value)(M:Nat->Prop)(w:World)(d:Nat)(V:Value->(Nat->Prop)->World->Prop):Prop:=
 ∀n Shun,n+16*d<=200->Home O P M Shun w->∀eV a₁ aG i₁ aP k₁ cs₁,yM P M eV a₁ aG i₁ k₁->
  (∀u M' w' n' cR,n'<=n+16*d->Home O P M' cR w'->(∀b,M b->M' b)->aA (cB M') u u->pE w w'->V u M' w'->
   cp P Post n' cR 0 (bb ((base eV).at (a₁.put ((aG[i₁]?).bind (·.dst)) u) (.inRegion aG aP::k₁)) cs₁) w')->
  cp P Post n Shun 0 (bb (Frame.enter P f args .normal) ((base eV).at a₁ (.inRegion aG (i₁::aP)::k₁)::cs₁)) w
theorem sG{M M':Nat->Prop}(h:∀b,M b->M' b):ay.le (cB M) (cB M'):=⟨fun _ b k=>⟨k.1,h b k.2⟩,fun b k=>h b k⟩
theorem yM.rel(c:(df P).Good){a:FuncId}{a₁:Act}{aG:Array Oper}{i₁:Nat}{k₁:List Item}(h:yM P M a a₁ aG i₁ k₁)(l:List Nat){ap:Act}(b:a3 (cB M) ap.tmps ap.tmps)(hd:ap.defers=[]):en (df P) (cB M) ((base a).at ap (.inRegion aG l::k₁)) ((base a).at ap (.inRegion aG l::k₁)):=
 M9 c h.known b hd (by simp only[List.all_cons,Bool.and_eq_true];exact⟨h.ops,h.items⟩)
theorem yM.mono{M':Nat->Prop}(c:∀b,M b->M' b){a:FuncId}{a₁:Act}{aG:Array Oper}{i₁:Nat}{k₁:List Item}(h:yM P M a a₁ aG i₁ k₁):yM P M' a a₁ aG i₁ k₁:=
 ⟨h.known,h.tmps.imp (fun x=>x.mono (sG c)) (fun⟨D,ap,x⟩=>⟨D,ap,x.ol,x.all.mono (sG c),x.d,x.fn,x.ops,x.items,x.dst,x.a2,x.follows⟩),h.defers,h.ops,h.items,h.dst⟩
theorem ZU{ρ:ay}{n w':World}(o:Behind O P M Shun w ρ n w'){a₁ a':Act}{d:Nat}(e:d<a₁.tmps.size)(l:a3 (cB M) a₁.tmps a₁.tmps)(f:a₁.defers=[]){v:Value}(b:a3 ρ (a₁.put (some d) v).tmps a'.tmps)(a:a'.defers=[]):∃u,aA ρ v u/\a'=a₁.put (some d) u:=by
 have hsz:a'.tmps.size=a₁.tmps.size:=by rw[<-b.size,gQ]
 obtain⟨u,k⟩:∃u,a'.tmps[d]?=some u:=⟨a'.tmps[d]'(hsz▸e),AU⟩;refine⟨u,b.get d v u (by simp[Act.put,e]) k,?_⟩;obtain⟨m,g⟩:=a';have a:g=[]:=a;subst a;show _=(⟨a₁.tmps.setIfInBounds d u,a₁.defers⟩:Act);rw[f];congr 1
 apply Array.ext
 ·grind
 ·intro j c i;have q:j<a₁.tmps.size:=AU;apply Option.some.inj;rw[<-Array.getElem?_eq_getElem c,<-Array.getElem?_eq_getElem i,Array.getElem?_setIfInBounds];by_cases p:d=j
  ·grind
  ·simp[p];have h:aA ρ a₁.tmps[j] m[j]:=b.get j _ _ FC AU;rw[Array.getElem?_eq_getElem c,Array.getElem?_eq_getElem q,o.same (l.get j _ _ AU AU) h]
theorem ans(B:(df P).Good)(Z:Home O P M Shun w){fr:Frame}(Y:en (df P) (cB M) fr fr){j:FuncId}{a₁:Act}{aG:Array Oper}{i₁:Nat}{aP:List Nat}{k₁:List Item}{cs₁:List Frame}(r:yM P M j a₁ aG i₁ k₁){hJ:World->Value->World->Prop}
 (hrun:∀m,gW (df P) M (ig M) w m->∀T,∀c cs,∃v p,hJ m v p/\Steps (ai P true) (lone fr (c::cs) {m with tape:=T}) (lone (c.finish v) cs p))
 (d_:∀ρ m v p u w',gW (df P) M (ig M) w m->hJ m v p->aA ρ v u->Behind O P M Shun w ρ p w'->cp P Post n Shun 0 (bb ((base j).at (a₁.put ((aG[i₁]?).bind (·.dst)) u) (.inRegion aG aP::k₁)) cs₁) w'):
 cp P Post n Shun 0 (bb fr ((base j).at a₁ (.inRegion aG (i₁::aP)::k₁)::cs₁)) w:=by
 obtain⟨d,vO,Cx⟩:=r.dst;have Jb:∀ap:Act,∀m,gW (df P) M (ig M) w m->∀T,∃y cse p,Steps (ai P true) (lone fr ([(base j).at ap (.inRegion aG (i₁::aP)::k₁)]++[eP j]) {m with tape:=T}) (lone y (cse++[eP j]) p)/\cse=[]/\∃v,y=(base j).at (ap.put (some d) v) (.inRegion aG aP::k₁)/\hJ m v p:=by intro ap m S T;obtain⟨v,p,E,C⟩:=hrun m S T ((base j).at ap (.inRegion aG (i₁::aP)::k₁)) [eP j];grind[Frame.finish_at]
 have W:(Item.inRegion aG aP::k₁).all (kv P)=true:=by simp only[List.all_cons,Bool.and_eq_true];exact⟨r.ops,r.items⟩
 rcases r.tmps with ZV|⟨D,ap,q⟩
 ·refine ZI B Z (f:=j) (cs0:=[(base j).at a₁ (.inRegion aG (i₁::aP)::k₁)]) (bs:=cs₁) Y (.cons (r.rel B _ ZV r.defers) .nil) ⟨rfl,rfl⟩
   (R:=fun y cse m p=>cse=[]/\∃v,y=(base j).at (a₁.put (some d) v) (.inRegion aG aP::k₁)/\hJ m v p) (Jb a₁) ?_
  rintro ρ y cse m p aY bf w' S ⟨rfl,v,rfl,hv⟩ F z K;cases z;obtain⟨a',rfl,E,C⟩:=M_ (by rw[put_defers];exact r.defers) W F;obtain⟨u,Q,rfl⟩:=ZU K Cx ZV r.defers E C;grind
 ·have s:=q.ol cs₁.length;have h0:ap.defers=[]:=by rw[<-s.defers];exact r.defers
  have N:d<ap.tmps.size:=by rw[<-s.size];grind
  have i9:∀l:List Nat,(Item.inRegion aG l::k₁).all (iP (D cs₁.length))=true:=fun l=>by rw[List.all_cons,Bool.and_eq_true];refine⟨?_,q.items _⟩;simp[iP];intro i _;cases X:aG[i]? with|none=>rfl|some o=>exact Array.all_eq_true_iff_forall_mem.1 (q.ops _) o (Array.mem_of_getElem? X)
  refine ZS B q.follows (D:=D cs₁.length) Z (f:=j) (cs0:=[(base j).at ap (.inRegion aG (i₁::aP)::k₁)]) (bs:=cs₁) (g:=bb fr ((base j).at a₁ (.inRegion aG (i₁::aP)::k₁)::cs₁)) (by rw[q.d];grind) (.under _ (.here (s.ZT _ _) ⟨(q.fn _).bQ (i9 _) _,fun _ ops i rest k e o X d' gu=>?_⟩ _ (q.d _).symm) _ _) Y (.cons (r.rel B _ q.all h0) .nil) ⟨rfl,rfl⟩
   (R:=fun y cse m p=>cse=[]/\∃v,y=(base j).at (ap.put (some d) v) (.inRegion aG aP::k₁)/\hJ m v p) (Jb ap) ?_
  ·have e:Item.inRegion aG (i₁::aP)::k₁=.inRegion ops (i::rest)::k:=e;cases e;exact q.dst _ d' AU
  rintro ρ y cse m p aY bf w' g' S ⟨rfl,v,rfl,hv⟩ F z K V;cases z;obtain⟨a',rfl,E,C⟩:=M_ C8 W F;obtain⟨u,Q,rfl⟩:=ZU K N q.all h0 E C;have ly:(D cs₁.length).d=cs₁.length:=q.d _;have key:∃U,g'=bb U cs₁/\fa (D cs₁.length) ((base j).at (ap.put (some d) u) (.inRegion aG aP::k₁)) U:=by generalize CW:bb ((base j).at (ap.put (some d) u) (.inRegion aG aP::k₁)) ([]++cs₁)=g0 at V;cases V with|same g hl=>grind[bb]|h5 h v=>cases CW;exact⟨_,rfl,h⟩|under a h=>cases CW;have:=h.lt;grind
  obtain⟨U,rfl,L⟩:=key;obtain⟨b,rfl,A⟩:=fa.act L;have e:b=a₁.put (some d) u:=by
   obtain⟨t,ds⟩:=b;have e1:ds=a₁.defers:=A.defers.trans (by rw[put_defers,s.defers]);subst e1;show _=(⟨a₁.tmps.setIfInBounds d u,a₁.defers⟩:Act);congr 1
   have hs:t.size=(a₁.tmps.setIfInBounds d u).size:=by rw[Array.size_setIfInBounds,s.size,<-gQ ap (some d) u];exact A.size
   refine Array.ext_getElem? fun i=>?_;cases J:(D cs₁.length).T i with
   |false=>have H:t[i]?=(ap.tmps.setIfInBounds d u)[i]?:=A.same i J;rw[H,Array.getElem?_setIfInBounds,Array.getElem?_setIfInBounds,s.size,s.same i J]
   |true=>
    have hK:=q.a2 _ i J;have H:t[i]?=(D cs₁.length).V i:=A.kept i hK;have I:d≠i:=fun x=>by have:=q.dst cs₁.length d vO;grind
    rw[H,Array.getElem?_setIfInBounds,if_neg I,s.kept i hK]
  grind
theorem wp_move(e:(df P).Good)(o:Home O P M Shun w){f:FuncId}(l:mz P f){a:Act}(m:a3 (cB M) a.tmps a.tmps)(hd:a.defers=[]){k k':List Item}(j:k.all (kv P)=true)(x:k'.all (kv P)=true){cs:List Frame}{Q:World->Act->World->Prop}
 (hrun:∀c,gW (df P) M (ig M) w c->∀T,∀(b:Frame)(cs:List Frame),∃a1 w1,Q c a1 w1/\a1.defers=[]/\Steps (ai P true) (lone (b.at a k) cs {c with tape:=T}) (lone (b.at a1 k') cs w1))
 (v:∀ρ c a1 w1 a' w',gW (df P) M (ig M) w c->Q c a1 w1->a3 ρ a1.tmps a'.tmps->a'.defers=[]->Behind O P M Shun w ρ w1 w'->cp P Post n Shun 0 (bb ((base f).at a' k') cs) w'):
 cp P Post n Shun 0 (bb ((base f).at a k) cs) w:=by
 refine ZI e o (f:=f) (cs0:=[]) (bs:=cs) (M9 e l m hd j) .nil ⟨rfl,rfl⟩ (R:=fun g cse c h=>cse=[]/\∃a1,g=(base f).at a1 k'/\a1.defers=[]/\Q c a1 h) (fun c i T=>?_) ?_
 ·obtain⟨a1,w1,u,t,s⟩:=hrun c i T (base f) [eP f];grind
 ·rintro ρ g cse c h A y w' i ⟨rfl,a1,rfl,p,r⟩ q d z;cases d;grind[M_]
end
end
variable {j8:Code}
section
variable {O:jW}
def fm(M:Nat->Prop)(w w':World):Prop:=∀b c e fr,M b->w.heap[b]?=some (.cells c e fr)->w'.heap[b]?=some (.cells c e fr)
theorem fm.refl(M:Nat->Prop)(w:World):fm M w w:=fun _ _ _ _ _ h=>h
theorem fm.trans{M M':Nat->Prop}{a b c:World}(h:fm M a b)(g:∀b,M b->M' b)(k:fm M' b c):fm M a c:=fun x c e fr d f=>k x c e fr (g x d) (h x c e fr d f)
theorem fm.My{M:Nat->Prop}{w w':World}(h:∀b,M b->w'.heap[b]?=w.heap[b]?):fm M w w':=fun b _ _ _ a e=>(h b a).trans e
theorem fm.cell{M:Nat->Prop}{w w':World}(h:fm M w w'){a:Addr}{v:Value}(f:M a.block)(d:w.cell? a=some v):w'.cell? a=some v:=by obtain⟨c,e,fr,b,i,g⟩:=vJ d;exact kH (h _ _ _ _ f b) i g
section
variable {P:Program} {Post:Value->World->Prop} {n:Nat} {Shun:Loc->Prop} {M:Nat->Prop} {w:World}
theorem fm.cw{w':World}(h:fm M w w')(c:Home O P M Shun w):vg (cB M) w w':=by
 rintro a a' v ⟨⟨g,hd⟩,f,d⟩ b;have e:a=a':=by obtain⟨x,y,z⟩:=a';obtain⟨p,q,r⟩:=a;grind
 subst e;exact⟨v,h.cell hd b,c.cell hd b⟩
theorem Nh{ρ:ay}(e:∀a b c,ρ.rel a b->ρ.rel a c->b=c){x y:Array Value}(h:a3 ρ x y)(d:a3 ρ x x):y=x:=by
 apply Array.ext
 ·exact h.size.symm
 ·intro i hi f;exact(Sa e (d.get i x[i] x[i] AU AU) (h.get i x[i] y[i] AU AU)).symm
theorem Behind.Gm{ρ:ay}{l j w':World}(h:Behind O P M Shun w ρ j w')(m:Home O P M Shun w)(C:gW (df P) M (ig M) w l)(q:∀b c e z,M b->l.heap[b]?=some (.cells c e z)->j.heap[b]?=some (.cells c e z)):fm M w w':=by
 intro b c e fr a g;obtain⟨p,t,x⟩:=C.cells m.cl a g;have y:=x a;subst y;have A:=q b c e _ a t;obtain⟨S,i⟩:=h.rel;obtain⟨o,o',f,k,v⟩:=i.obj b b (h.le.1 b b ⟨rfl,a⟩);rw[A]at f;cases f;cases v with
 |@cells _ E _ _ B s r=>
  have u:B=p:=r.2 rfl;subst u;obtain⟨D,q1,d⟩:=m.cl b a;rw[g]at q1;cases q1;rcases d with d|d
  ·cases d with|cells _ n _=>rw[Nh i.one s (n.mono h.le)]at k;exact k
  ·exact d.elim
theorem anx{ρ:ay}{r w':World}(g:Behind O P M Shun w ρ r w'){a a':Act}(k:a3 (cB M) a.tmps a.tmps)(hd:a.defers=[])(f:a'.defers=[]){dst:Option Tmp}{v:Value}(h:a3 ρ (a.put dst v).tmps a'.tmps)(l:∀d,dst=some d->d<a.tmps.size):
 ∃u,a'=a.put dst u/\(dst≠none->aA ρ v u):=by
 obtain⟨b,m⟩:=a';have f:m=[]:=f;subst f;obtain⟨S,q⟩:=g.rel;cases dst with
 |none=>refine⟨undef,?_,AU⟩;have e:b=a.tmps:=Nh q.one h (k.mono g.le);subst e;obtain⟨t,ds⟩:=a;have hd:ds=[]:=hd;subst hd;rfl
 |some d=>
  have c:=l d rfl;have hsz:b.size=a.tmps.size:=by have:=h.size;grind[gQ]
  have p:b[d]?=some (b[d]'(hsz▸c)):=AU;refine⟨b[d]'(hsz▸c),?_,fun _=>h.get d _ _ (by simp[Act.put,c]) p⟩;show _=(⟨a.tmps.setIfInBounds d _,a.defers⟩:Act);rw[hd];congr 1
  apply Array.ext
  ·grind
  ·intro j i o;have x:j<a.tmps.size:=AU;apply Option.some.inj;rw[<-Array.getElem?_eq_getElem i,<-Array.getElem?_eq_getElem o,Array.getElem?_setIfInBounds];by_cases s:d=j
   ·grind
   ·simp[s];have n:aA ρ a.tmps[j] b[j]:=h.get j _ _ FC AU;rw[Array.getElem?_eq_getElem i,Array.getElem?_eq_getElem x,g.same (k.get j _ _ AU AU) n]
variable {f:FuncId} {a:Act} {ops:Array Oper} {i:Nat} {rest:List Nat} {k:List Item} {cs:List Frame} {o:Oper}
theorem anz(y:(df P).Good)(B:Home O P M Shun w)(x:mz P f)(m:a3 (cB M) a.tmps a.tmps)(hd:a.defers=[])(g:(Item.inRegion ops []::k).all (kv P)=true)(t:ops[i]?=some o)(r:Region.wanted o (yielded ops a.tmps)=true)(q:∀d,o.dst=some d->d<a.tmps.size){hJ:World->Value->World->Prop}
 (hrun:∀c,gW (df P) M (ig M) w c->∀T,∃v w1,hJ c v w1/\((execOp a.eval o).run (ai P true) {c with tape:=T}=.ok (.value v) w1\/((execOp a.eval o).run (ai P true) {c with tape:=T}=.ok .skip w1/\v=undef)))
 (A:∀ρ c v w1 u w',gW (df P) M (ig M) w c->hJ c v w1->(o.dst≠none->aA ρ v u)->Behind O P M Shun w ρ w1 w'->a3 (cB (l3 ρ)) (a.put o.dst u).tmps (a.put o.dst u).tmps->cp P Post n Shun 0 (bb ((base f).at (a.put o.dst u) (.inRegion ops rest::k)) cs) w'):
 cp P Post n Shun 0 (bb ((base f).at a (.inRegion ops (i::rest)::k)) cs) w:=by
 simp only[List.all_cons,Bool.and_eq_true]at g;refine wp_move y B x m hd (k:=.inRegion ops (i::rest)::k) (k':=.inRegion ops rest::k) In In (Q:=fun c a1 w1=>∃v,a1=a.put o.dst v/\hJ c v w1) (fun c l T b cs=>?_) ?_
 ·obtain⟨v,w1,e,h⟩:=hrun c l T;refine⟨a.put o.dst v,w1,⟨v,rfl,e⟩,C8,.one (step_lone_go ?_)⟩;rw[stepG_op t r];have C:∀v,(b.at a (.inRegion ops (i::rest)::k)).finish v=b.at (a.put o.dst v) (.inRegion ops rest::k):=by grind[Frame.finish_at]
  rcases h with h|⟨h,rfl⟩
  ·simp_all[stepG.apply]
  simp_all[stepG.apply]
 ·rintro ρ c a1 w1 a' w' l ⟨v,rfl,e⟩ p z j;obtain⟨u,rfl,s⟩:=anx j m hd z p q;exact A ρ c v w1 u w' l e s j (j.all p)
theorem anA(B:(df P).Good)(m:Home O P M Shun w)(y:mz P f)(A:a3 (cB M) a.tmps a.tmps)(hd:a.defers=[])(x:(Item.inRegion ops []::k).all (kv P)=true)(t:ops[i]?=some o)(q:Region.wanted o (yielded ops a.tmps)=true){d:Tmp}(p:o.dst=some d/\d<a.tmps.size){v:Value}(r:aA (cB M) v v)
 (hrun:∀c,gW (df P) M (ig M) w c->∀T,(execOp a.eval o).run (ai P true) {c with tape:=T}=.ok (.value v) {c with tape:=T})
 (C:∀M' w',(∀b,M b->M' b)->Home O P M' Shun w'->pE w w'->fm M w w'->a3 (cB M') (a.put (some d) v).tmps (a.put (some d) v).tmps->cp P Post n Shun 0 (bb ((base f).at (a.put (some d) v) (.inRegion ops rest::k)) cs) w'):
 cp P Post n Shun 0 (bb ((base f).at a (.inRegion ops (i::rest)::k)) cs) w:=by
 refine anz B m y A hd x t q AU (hJ:=fun c h w1=>h=v/\∃T,w1={c with tape:=T}) (fun c l T=>⟨v,_,⟨rfl,T,rfl⟩,AU⟩) ?_;rintro ρ c h w1 u w' l ⟨rfl,T,rfl⟩ s g j;have e:u=h:=g.same r (s AU);subst e;rw[p.1]at j⊢;exact C (l3 ρ) w' (fun b z=>g.mem z) g.dH g.gA (g.Gm m l AU) j
theorem Gn{d:Nat}{g:FuncId}{l:Func}{args:Array Operand}{ats:Array TypeId}(c:o.op=.call {callee:=.value (.func g),args,argTypes:=ats})(p:P.funcs[g]?=some l)(m:(l.name== "runtime.NumGoroutine")=false)(q:l.body=some j8){vs:Array Value}(r:args.map a.eval=vs){V:Value->(Nat->Prop)->World->Prop}
 (E:n+16*d<=200) (F:Home O P M Shun w) (x:yM P M f a ops i k) (v:ops[i]?=some o) (t:Region.wanted o (yielded ops a.tmps)=true)
 (s:∀k,qH O P Post g vs M (w.at k) d V)
 (C:∀u M' w' e h,e<=n+16*d->Home O P M' h w'->(∀b,M b->M' b)->aA (cB M') u u->pE w w'->V u M' w'->cp P Post e h 0 (bb ((base f).at (a.put o.dst u) (.inRegion ops rest::k)) cs) w'):
 cp P Post n Shun 0 (bb ((base f).at a (.inRegion ops (i::rest)::k)) cs) w:=by
 refine Bs (pD rfl (w1:=w) (es:=#[]) (fun k'=>(stepG_enter v t (by simp[base]) (jn.tW (b:=base f) c p m q r _).1).trans (congrArg (fun es=>GStep.go _ _ es) (jn.tW (b:=base f) c p m q r _).2)) Aa Jr (.stop fun k'=>?_));refine s k' n Shun E (F.at _) f a ops i rest k cs x (fun u M' w' e h B A z y j D=>?_);have:=C u M' w' e h B A z y ⟨j.size,j.later,j.output,j.tape⟩ D;grind
theorem count_set{aq:Array Bool}{i:Nat}(h:aq.getD i true=false):(aq.setIfInBounds i true).toList.count false+1=aq.toList.count false:=by
 have hi:i<aq.size:=by grind
 have a:aq[i]=false:=Bp;grind
theorem Ni(q:P.follows .mixedOrders=true){I:Array Bool->Act->(Nat->Prop)->World->Nat->(Loc->Prop)->Prop}(dF:∀aq a M w n Shun k,I aq a M w n Shun->I aq a M (w.at k) n Shun)
 (hstep:∀aq a M w n Shun i o rest,I aq a M w n Shun->aq.getD i true=false->ops[i]?=some o->(∀e∈o.after,Region.binds .any e=true->aq.getD e.on false=true)->(∀a' M' w' c g,I (aq.setIfInBounds i true) a' M' w' c g->cp P Post c g 0 (bb ((base f).at a' (.inRegion ops rest::k)) cs) w')->cp P Post n Shun 0 (bb ((base f).at a (.inRegion ops (i::rest)::k)) cs) w)
 (h:∀aq a M w n Shun,I aq a M w n Shun->Region.ready .any ops aq=[]->cp P Post n Shun 0 (bb ((base f).at a (.inRegion ops []::k)) cs) w)
 {id:Nat} (h0:I (Array.replicate ops.size false) a M w n Shun):cp P Post n Shun 0 (bb ((base f).at a (.code (.region id ops true)::k)) cs) w:=by
 have key:∀(m t:Nat)(aq:Array Bool)(a:Act)(M:Nat->Prop)(w:World)(n:Nat)(Shun:Loc->Prop),aq.toList.count false<=m->I aq a M w n Shun->cp P Post n Shun 0 (bb ((base f).at a (.inRegion ops (Region.linearise.go .any ops m t aq [])::k)) cs) w:=by
  intro m;induction m with
  |zero=>intro t aq a M w n Shun l d;refine h aq a M w n Shun d ?_;cases j:Region.ready .any ops aq with|nil=>rfl|cons x xs=>have s:x∈Region.ready .any ops aq:=AU;grind[count_set,mem_ready]
  |succ m r=>
   intro t aq a M w n Shun l d;simp only[Region.linearise.go];change cp P Post n Shun 0 (bb ((base f).at a (.inRegion ops (match(Region.ready .any ops aq)[t % (Region.ready .any ops aq).length]? with
    |some i=>Region.linearise.go .any ops m (t / (Region.ready .any ops aq).length) (aq.setIfInBounds i true) [i]
    |none=>[].reverse)::k)) cs) w
   cases hi:(Region.ready .any ops aq)[t % (Region.ready .any ops aq).length]? with
   |none=>
    have p:Region.ready .any ops aq=[]:=by cases j:Region.ready .any ops aq with|nil=>rfl|cons x xs=>grind[Nat.mod_lt]
    grind
   |some i=>simp only[];rw[linearise_go_acc,List.reverse_singleton,List.singleton_append];obtain⟨y,o,v,u⟩:=mem_ready.1 (List.mem_of_getElem? hi);grind[count_set]
 refine Bs (eU.mk rfl fun k'=>⟨_,_,_,stepG_region_draw,Aa,Nat.le_refl _,.stop fun b=>?_⟩);simp only[Region.schedule,q,Bool.true_or,if_true];exact key ops.size _ _ a M _ n Shun Aa (AU:I _ a M (w.at b) n Shun)
end
end
variable {x y:Code}
section
variable {O:jW}
def ii(R:Act->World->Prop)(e:Exit)(a:Act)(w:World):Prop:=e=.normal/\R a w
section
variable {P:Program}
theorem Nj{ops:Array Oper}{R:Act->World->Prop}(g:List Nat)(l:List Nat):∀(a:Act)(w:World),wpOps P ops (ii R) l a w->∀(b:Frame)(k:List Item)(cs:List Frame),
 ∃a' w',R a' w'/\Steps P (lone (b.at a (.inRegion ops (l++g)::k)) cs w) (lone (b.at a' (.inRegion ops g::k)) cs w'):=by
 induction l with
 |nil=>exact fun a w h b k cs=>⟨a,w,h.2,.refl _ _⟩
 |cons i rest n=>
  intro a w h b k cs;simp[wpOps]at h;simp;cases p:ops[i]? with
  |none=>simp[p]at h;obtain⟨a',w',c,j⟩:=n a w h b k cs;have q:=step_op_skip (P:=P) (b:=b) (a:=a) (k:=k) (cs:=cs) (w:=w) (ops:=ops) (i:=i) (rest:=rest++g) AU;simp[p,Act.put]at q;exact⟨a',w',c,.head q j⟩
  |some o=>
   simp[p]at h;by_cases t:Region.wanted o (yielded ops a.tmps)=true
   ·simp[t]at h;rcases h with h|⟨B,D,C,c⟩
    case inr=>cases c.1
    simp[Oper.wp,Oper.upon]at h;have z:=stepG_op (P:=P) (b:=b) (k:=k) (cs:=cs) (w:=w) (rest:=rest++g) p t;have E:∀v,(b.at a (.inRegion ops (i::(rest++g))::k)).finish v=b.at (a.put o.dst v) (.inRegion ops (rest++g)::k):=by grind[Frame.finish_at]
    split at h
    ·rename_i v w' r;obtain⟨a',m,c,j⟩:=n _ _ h b k cs;refine⟨a',m,c,.head (step_lone_go ?_) j⟩;simp_all[stepG.apply]
    ·rename_i w' r;obtain⟨a',m,c,j⟩:=n _ _ h b k cs;refine⟨a',m,c,.head (step_lone_go ?_) j⟩;simp_all[stepG.apply]
    ·rename_i d w' r;obtain⟨a',m,c,j⟩:=n _ _ h b k cs;refine⟨a',m,c,.head (step_lone_go ?_) j⟩;have:({b.at a (.inRegion ops (i::(rest++g))::k)with defers:=d::a.defers}:Frame).finish undef=
      b.at ({a with defers:=d::a.defers}.put o.dst undef) (.inRegion ops (rest++g)::k):=by
      have:=Frame.finish_at b {a with defers:=d::a.defers} ops i (rest++g) k undef;rw[p]at this;exact this
     rw[z];simp only[stepG.apply,Sem.runT_eq,r,GStep.bare_after];exact congrArg (fun fr=>GStep.go {frame:=fr,callers:=cs,status:=.running,dying:=none} w') this
    ·rename_i f args w' r;obtain⟨e,m,fr,s,y,_,A⟩:=h (b.at a (.inRegion ops (i::(rest++g))::k)::cs);have x:step P (lone (b.at a (.inRegion ops (i::(rest++g))::k)) cs w)=
      .next (lone (Frame.enter P f args .normal) (b.at a (.inRegion ops (i::(rest++g))::k)::cs) w'):=
      step_lone_go (by simp_all[stepG.apply,Frame.at])
     cases e with
     |returned v=>obtain⟨a',u,c,j⟩:=n _ _ s b k cs;refine⟨a',u,c,.head x (Steps.trans y (.head ?_ j))⟩;grind[step_leave_returned]
     |panicked chain=>cases s.1
     |outgrown=>obtain⟨D,C,c⟩:=s;cases c.1
    ·rename_i row args w' r;obtain⟨v,m,s,y⟩:=h (b.at a (.inRegion ops (i::(rest++g))::k)) cs;have x:step P (lone (b.at a (.inRegion ops (i::(rest++g))::k)) cs w)=
      .next (lone (Frame.ofRow P row args .normal) (b.at a (.inRegion ops (i::(rest++g))::k)::cs) w'):=
      step_lone_go (by simp_all[stepG.apply,Frame.at])
     obtain⟨a',u,c,j⟩:=n _ _ s b k cs;refine⟨a',u,c,.head x (Steps.trans ?_ j)⟩;grind
    ·cases h.1
    grind
   ·simp[t]at h;obtain⟨a',w',c,j⟩:=n _ _ h b k cs;have q:=step_op_skip (P:=P) (b:=b) (a:=a) (k:=k) (cs:=cs) (w:=w) (ops:=ops) (i:=i) (rest:=rest++g)
     AU
    simp[p]at q;exact⟨a',w',c,.head q j⟩
def c2(P:Program)(cJ ks':List Item)(Q:Act->World->Prop)(a:Act)(w:World):Prop:=
 ∀(b:Frame)(cs:List Frame),∃a1 w1,Q a1 w1/\Steps P (lone (b.at a cJ) cs w) (lone (b.at a1 ks') cs w1)
variable {cJ ks':List Item} {Q:Act->World->Prop} {a:Act} {w:World}
theorem om(h:Q a w):c2 P cJ cJ Q a w:=fun _ _=>⟨a,w,h,.refl _ _⟩
theorem yN{DO:List Item}{w1:World}(c:∀(b:Frame)(cs:List Frame),step P (lone (b.at a cJ) cs w)=.next (lone (b.at a DO) cs w1))(h:c2 P DO ks' Q a w1):c2 P cJ ks' Q a w:=fun b cs=>by obtain⟨a1,w2,e,d⟩:=h b cs;exact⟨a1,w2,e,.head (c b cs) d⟩
theorem cn(h:c2 P (.code x:: .code y::cJ) ks' Q a w):c2 P (.code (.seq x y)::cJ) ks' Q a w:=yN (fun _ _=>step_seq) h
theorem t5{id:Nat}(h:c2 P (.code c:: .inBlock id::cJ) ks' Q a w):c2 P (.code (.block id c)::cJ) ks' Q a w:=yN (fun _ _=>step_block) h
theorem Bv{id:Nat}(h:c2 P cJ ks' Q a w):c2 P (.inBlock id::cJ) ks' Q a w:=yN (fun _ _=>step_inBlock) h
theorem Jf(h:c2 P (.code c:: .inLoop c::cJ) ks' Q a w):c2 P (.code (.loop c)::cJ) ks' Q a w:=yN (fun _ _=>step_loop) h
theorem Gp(h:c2 P (.code c:: .inLoop c::cJ) ks' Q a w):c2 P (.inLoop c::cJ) ks' Q a w:=yN (fun _ _=>step_inLoop) h
theorem m2{c:Operand}{t:Bool}(ht:a.eval c=.bool t)(h:c2 P (.code (if t then x else y)::cJ) ks' Q a w):c2 P (.code (.cond c x y)::cJ) ks' Q a w:=yN (fun b cs=>by rw[step_cond ht]) h
theorem wB(h:c2 P cJ ks' Q a w):c2 P (.code .skip::cJ) ks' Q a w:=yN (fun _ _=>step_skip) h
theorem Jg{id:Nat}{DO:List Item}(b:exitTo id cJ=some DO)(h:c2 P DO ks' Q a w):c2 P (.code (.exit id)::cJ) ks' Q a w:=yN (fun _ _=>step_exit b) h
theorem zX{id:Nat}{ops:Array Oper}(h:c2 P (.inRegion ops (List.range' 0 ops.size)::cJ) ks' Q a w):c2 P (.code (.region id ops false)::cJ) ks' Q a w:=yN (fun b cs=>by rw[step_region,List.range_eq_range']) h
theorem t6{ops:Array Oper}(h:c2 P cJ ks' Q a w):c2 P (.inRegion ops []::cJ) ks' Q a w:=yN (fun _ _=>step_region_end) h
theorem g_(h:c.wp P (ii (c2 P cJ ks' Q)) a w):c2 P (.code c::cJ) ks' Q a w:=fun b cs=>by obtain⟨e,a1,w1,⟨rfl,f⟩,d⟩:=h b cJ cs;obtain⟨j,w2,i,g⟩:=f b cs;exact⟨j,w2,i,Steps.trans d g⟩
theorem anC{ops:Array Oper}{Q:Exit->Act->World->Prop}(l:List Oper):∀k,(∀j(h:j<l.length),ops[k+j]?=some l[j])->wpOps P ops Q (List.range' k l.length)=wpList P ops Q l:=by induction l with|nil=>grind[wpOps,wpList]|cons o l a=>intro k h;have h0:ops[k]?=some o:=h 0 Aa;have b:=a (k+1) (fun j c=>by have:=h (j+1) AU;grind);simp_all[List.range'_succ,wpOps,wpList]
theorem vk{ops:Array Oper}(m:Nat){k len:Nat}(f:m<=len)(hl:k+len<=ops.size)(h:wpList P ops (ii (c2 P (.inRegion ops (List.range' (k+m) (len-m))::cJ) ks' Q)) ((ops.toList.drop k).take m) a w):c2 P (.inRegion ops (List.range' k len)::cJ) ks' Q a w:=fun b cs=>by
 have ly:((ops.toList.drop k).take m).length=m:=AU;have c:wpOps P ops (ii (c2 P (.inRegion ops (List.range' (k+m) (len-m))::cJ) ks' Q)) (List.range' k m) a w:=by
  have:=anC (P:=P) (ops:=ops) (Q:=ii (c2 P (.inRegion ops (List.range' (k+m) (len-m))::cJ) ks' Q)) ((ops.toList.drop k).take m) k (fun j g=>by
   grind)
  simp_all
 have d:List.range' k len=List.range' k m++List.range' (k+m) (len-m):=by simp_all
 obtain⟨a1,w1,e,n⟩:=Nj (List.range' (k+m) (len-m)) (List.range' k m) a w c b cJ cs;obtain⟨o,w2,l,i⟩:=e b cs;grind[Steps.trans]
def xQ(P:Program)(fn:Func)(cJ:List Item)(hJ:Value->World->Prop)(a:Act)(w:World):Prop:=
 ∀(f:FuncId)(cs:List Frame),P.funcs[f]?=some fn->∃v w1 fr,hJ v w1/\Steps P (lone ((base f).at a cJ) cs w) (lone fr cs w1)/\fr.leaving P w1 (.returned v)
theorem Gq{fn:Func}{hJ:Value->World->Prop}(h:c2 P cJ ks' (xQ P fn ks' hJ) a w):xQ P fn cJ hJ a w:=fun f cs b=>by obtain⟨a1,w1,c,e⟩:=h (base f) cs;obtain⟨v,w2,fr,d,i,g⟩:=c f cs b;grind[Steps.trans]
theorem anD{fn:Func}{hJ:Value->World->Prop}{v:Value}(hd:a.defers=[])(b:(results fn a.tmps).run P w=.ok v w)(h:hJ v w):xQ P fn (.code .ret::cJ) hJ a w:=fun f cs c=>
 ⟨v,w,_,h,.one step_ret,rfl,hd,rfl,fn,c,b⟩
theorem Jh{fn:Func}{hJ:Value->World->Prop}(h:c.wp P (bodyPost P fn fun e w=>∃v,e=.returned v/\hJ v w) a w):xQ P fn [.code c] hJ a w:=fun f cs j=>by
 obtain⟨e,a1,w1,b,i⟩:=h (base f) [] cs;cases e with
 |normal=>obtain⟨hd,v,d,u,e,g⟩:=b;cases e;exact⟨v,w1,_,g,Steps.trans i (.one step_end),rfl,hd,rfl,fn,j,d⟩
 |ret=>obtain⟨hd,v,d,u,e,g⟩:=b;cases e;obtain⟨todo,k⟩:=i;exact⟨v,w1,_,g,k,rfl,hd,rfl,fn,j,d⟩
 |panic chain=>obtain⟨_,u,e,_⟩:=b;cases e
 |exit id=>exact b.elim
 |goto l=>exact b.elim
 |outgrown=>obtain⟨u,e,_⟩:=b;cases e
end
section
variable {P:Program} {Post:Value->World->Prop} {n:Nat} {Shun:Loc->Prop} {M:Nat->Prop} {w:World} {f:FuncId} {a:Act} {k k':List Item} {cs:List Frame}
theorem Ji(h:(df P).Good)(m:Home O P M Shun w)(e:mz P f)(g:a3 (cB M) a.tmps a.tmps)(hd:a.defers=[])(d:k.all (kv P)=true)(j:k'.all (kv P)=true){Q:World->Act->World->Prop}
 (hrun:∀c,gW (df P) M (ig M) w c->∀T,c2 (ai P true) k k' (fun a1 w1=>a1.defers=[]/\Q c a1 w1) a {c with tape:=T})
 (i:∀ρ c a1 w1 a' w',gW (df P) M (ig M) w c->Q c a1 w1->a3 ρ a1.tmps a'.tmps->a'.defers=[]->Behind O P M Shun w ρ w1 w'->cp P Post n Shun 0 (bb ((base f).at a' k') cs) w'):
 cp P Post n Shun 0 (bb ((base f).at a k) cs) w:=
 wp_move h m e g hd d j (fun c l T b cs=>by
  obtain⟨a1,w1,⟨q,p⟩,o⟩:=hrun c l T b cs;grind) i
theorem Nk(e:(df P).Good)(y:Home O P M Shun w){fn:Func}(l:P.funcs[f]?=some fn)(i:i6 P true fn=true)(o:fn.body=some j8)(p:a3 (cB M) a.tmps a.tmps)(hd:a.defers=[])(j:k.all (kv P)=true){d:FuncId}{a₁:Act}{aG:Array Oper}{i₁:Nat}{aP:List Nat}{k₁:List Item}{cs₁:List Frame}(m:yM P M d a₁ aG i₁ k₁){hJ:World->Value->World->Prop}
 (hrun:∀b,gW (df P) M (ig M) w b->∀T,xQ (ai P true) fn k (hJ b) a {b with tape:=T})
 (t:∀ρ b v g u w',gW (df P) M (ig M) w b->hJ b v g->aA ρ v u->Behind O P M Shun w ρ g w'->cp P Post n Shun 0 (bb ((base d).at (a₁.put ((aG[i₁]?).bind (·.dst)) u) (.inRegion aG aP::k₁)) cs₁) w'):
 cp P Post n Shun 0 (bb ((base f).at a k) ((base d).at a₁ (.inRegion aG (i₁::aP)::k₁)::cs₁)) w:=by
 have h:(ai P true).funcs[f]?=some fn:=bl l i;refine ans e y (M9 e ⟨fn,j8,h,o⟩ p hd j) m (hJ:=hJ) (fun b x T c cs=>?_) t;obtain⟨v,w1,fr,s,r,q⟩:=hrun b x T f (c::cs) h;exact⟨v,w1,s,Steps.trans r (.one (step_leave_returned q))⟩
theorem Bw{fn:Func}(b:P.funcs[f]?=some fn)(a:i6 P true fn=true)(c:fn.body=some j8):mz P f:=⟨fn,j8,bl b a,c⟩
end
end
section
variable {O:jW}
def DQ(G:Value->(Nat->Prop)->World->Prop):Prop:=∀v M w M' w',vg (cB M) w w'->aA (cB M) v v->(∀b,M b->M' b)->fm M w w'->G v M w->G v M' w'
theorem ZX(x:Value):DQ fun v _ _=>v=x:=fun _ _ _ _ _ _ _ _ _ h=>h
structure gG(O:jW)(P:Program)(bs:List (Nat×Value))(dd:Nat->Nat)(m N:Nat)(G:Nat->Value->(Nat->Prop)->World->Prop)(iI:Nat)(bt:Nat->Prop)(w0:World)(g n0 wC:Nat)(aq:Array Bool)(a:Act)(M:Nat->Prop)(w:World)(n:Nat)(Shun:Loc->Prop):Prop where
 dH:Home O P M Shun w
 len:aq.size=iI
 size:a.tmps.size=N
 defers:a.defers=[]
 all:a3 (cB M) a.tmps a.tmps
 sub:∀b,bt b->M b
 keep:fm bt w0 w
 gA:pE w0 w
 base:∀p∈bs,a.tmps[p.1]?=some p.2
 facts:∀j,j<m->aq.getD j false=true->∃v,a.tmps[dd j]?=some v/\G j v M w
 d4:n<=wC/\(aq.getD g false=false->n<=n0)
section
variable {P:Program} {bs:List (Nat×Value)} {dd:Nat->Nat} {m N iI:Nat} {G:Nat->Value->(Nat->Prop)->World->Prop} {bt:Nat->Prop} {w0:World} {g n0 wC:Nat} {aq:Array Bool} {a:Act} {M:Nat->Prop} {w:World} {n:Nat} {Shun:Loc->Prop}
theorem gG.start{Shun:Loc->Prop}(f:Home O P bt Shun w0)(c:a.tmps.size=N)(hd:a.defers=[])(e:a3 (cB bt) a.tmps a.tmps)(d:∀p∈bs,a.tmps[p.1]?=some p.2)(b:n<=wC/\n<=n0):gG O P bs dd m N G iI bt w0 g n0 wC (Array.replicate iI false) a bt w0 n Shun:=
 ⟨f,Aa,c,hd,e,fun _ h=>h,fm.refl _ _,pE.refl _,d,fun j _ h=>by
  simp_all[Array.getD],b.1,fun _=>b.2⟩
theorem gG.at(e:∀j v M w k,G j v M w->G j v M (w.at k))(k:Nat)(h:gG O P bs dd m N G iI bt w0 g n0 wC aq a M w n Shun):gG O P bs dd m N G iI bt w0 g n0 wC aq a M (w.at k) n Shun:=
 ⟨(h.dH.at _),h.len,h.size,h.defers,h.all,h.sub,h.keep,⟨h.gA.size,h.gA.later,h.gA.output,h.gA.tape⟩,h.base,fun j c b=>by
  obtain⟨v,d,f⟩:=h.facts j c b;grind,h.d4⟩
theorem gG.eval(h:gG O P bs dd m N G iI bt w0 g n0 wC aq a M w n Shun){t:Nat}{v:Value}(b:(t,v)∈bs):a.eval (.tmp t)=v:=by have:=h.base _ b;simp[Act.eval,this]
theorem pG{aq:Array Bool}{i j:Nat}(hi:i<aq.size):(aq.setIfInBounds i true).getD j false=true↔j=i\/aq.getD j false=true:=by
 rcases Nat.lt_or_ge j aq.size with x|x
 ·simp only[Array.getD,Array.size_setIfInBounds,x,dif_pos,Array.getInternal_eq_getElem,Array.getElem_setIfInBounds];grind
 grind
theorem gG.step(h:gG O P bs dd m N G iI bt w0 g n0 wC aq a M w n Shun){j:Nat}{u:Value}{M':Nat->Prop}{w':World}{c:Nat}{l:Loc->Prop}(y:j<m/\j<iI/\dd j<N)(F:∀p∈bs,dd j≠p.1)(z:∀i,i<m->i≠j->dd j≠dd i)(B:∀i,i<m->DQ (G i))
 (D:Home O P M' l w') (f:∀b,M b->M' b) (d:fm M w w') (x:pE w w') (t:aA (cB M') u u) (E:G j u M' w') (q:c<=wC/\(j≠g->c<=n)):gG O P bs dd m N G iI bt w0 g n0 wC (aq.setIfInBounds j true) (a.put (some (dd j)) u) M' w' c l:=by
 have s:a3 (cB M') a.tmps a.tmps:=h.all.mono (sG f);refine⟨D,by simp[h.len],Hq,FI,?_,fun b A=>f b (h.sub b A),h.keep.trans h.sub d,h.gA.trans x,fun p o=>?_,fun i hi hl=>?_,q.1,fun hl=>?_⟩
 ·exact s.set t _
 ·have:=h.base p o;simp[Act.put,F p o];grind
 ·by_cases e:i=j
  ·subst e;exact⟨u,by simp[Act.put,h.size,y.2.2],E⟩
  ·have r:aq.getD i false=true:=((pG (by rw[h.len];grind)).1 hl).resolve_left e;obtain⟨v,k,C⟩:=h.facts i hi r;refine⟨v,?_,B i hi v M w M' w' (d.cw h.dH) ?_ f d C⟩
   ·simp_all[Act.put]
   ·exact h.all.get _ _ _ k k
 ·by_cases e:j=g
  ·have:=(pG (aq:=aq) (i:=j) (j:=g) (by rw[h.len];grind)).2 (.inl e.symm);grind
  ·refine Nat.le_trans (q.2 e) (h.d4.2 ?_);simp_all
theorem fJ{o:Oper}(h:o.guard=none)(y:Nat->Option Bool):Region.wanted o y=true:=by grind[Region.wanted]
variable {Post:Value->World->Prop} {f:FuncId} {ops:Array Oper} {rest:List Nat} {k:List Item} {cs:List Frame} {o:Oper} {j:Nat}
theorem gG.val(B:(df P).Good)(A:mz P f)(z:(Item.inRegion ops []::k).all (kv P)=true)(hd:∀i,i<m->i<iI/\dd i<N/\(∀p∈bs,dd i≠p.1)/\∀b,b<m->b≠i->dd i≠dd b)(s:∀i,i<m->DQ (G i))(h:gG O P bs dd m N G iI bt w0 g n0 wC aq a M w n Shun)(y:ops[j]?=some o)(l:j<m)(u:o.dst=some (dd j))(x:o.guard=none)(v:Value)(d:aA (cB M) v v)
 (hrun:∀q,gW (df P) M (ig M) w q->∀T,(execOp a.eval o).run (ai P true) {q with tape:=T}=.ok (.value v) {q with tape:=T}) (D:G j v M w)
 (K:∀a' M' w' r t,gG O P bs dd m N G iI bt w0 g n0 wC (aq.setIfInBounds j true) a' M' w' r t->cp P Post r t 0 (bb ((Conc.base f).at a' (.inRegion ops rest::k)) cs) w'):
 cp P Post n Shun 0 (bb ((Conc.base f).at a (.inRegion ops (j::rest)::k)) cs) w:=by
 obtain⟨d1,gV,fS,gJ⟩:=hd j l;refine anA B h.dH A h.all h.defers z y (fJ x _) ⟨u,by rw[h.size];exact gV⟩ d hrun fun M' w' e C E c F=>?_;exact K _ M' w' n Shun (h.step ⟨l,d1,gV⟩ fS gJ s C e c E (d.mono (sG e)) (s j l v M w M' w' (c.cw h.dH) d e c D) ⟨h.d4.1,AU⟩)
theorem Jj{ops:Array Oper}(c:(List.range ops.size).all (fun j=>match ops[j]? with|some o=>o.after.all fun e=> !Region.binds .any e||decide (e.on<j)|none=>true)=true)(hl:aq.size=ops.size)(f:Region.ready .any ops aq=[]):∀j,j<ops.size->aq.getD j false=true:=by
 intro j;induction j using Nat.strongRecOn with
 | _ j d=>
  intro a;apply Classical.byContradiction;intro i;have g:j∈Region.ready .any ops aq:=by
   refine mem_ready.2 ⟨?_,ops[j],AU,fun e b h=>?_⟩
   ·grind
   ·have:=List.all_eq_true.1 c j AU;simp only[Array.getElem?_eq_getElem a]at this;have:=Array.all_eq_true_iff_forall_mem.1 this e b;grind
  grind
end
end
end bD
namespace b_
open Conc ConcM RowKit az bu ab gb iJ gF jn dD
def bF(t:List br)(fr aL:Nat):List dY:=(List.range (aL-fr)).map fun k=>([((fr+k:Nat):Int)],t.map (mW · (fr+k)))
theorem z6(t:List br)(fr aL:Nat):(bF t fr aL).length=aL-fr:=by simp[bF]
theorem DY(w:World)(a:Nat->Question->Nat):bC w {w with tape:=a}:=fun _ _ _ h=>h
theorem yI.tY{t:List br}{fr aL:Nat}{w w':World}{u:Value}(a:bC w w')(h:yI t fr aL w u):yI t fr aL w' u:=by obtain⟨b,g,bs,v,rfl,f,e,d,c⟩:=h;exact⟨b,g,bs,v,rfl,a _ _ _ f,a _ _ _ e,a _ _ _ d,c.mono se a⟩
theorem aoc:i6 prog false f205=true:=by decide+kernel
theorem aam:i6 prog false f111=true:=by decide+kernel
theorem aod:i6 prog false f207=true:=by decide+kernel
theorem lS:(ei prog false).Good:=Xd false AS AS
theorem aoe(t:List br)(fr aL:Nat)(a:t.length<=1000000)(f:fr<=aL)(b:aL<=1000000)(A:aL-fr<=300)(dF:∀i,i<aL->∀c∈t,xk i c)(w:World)(u:Value)(h:yI t fr aL w u):
 Calls (ai prog false) 111 #[u] w fun e w'=>∃v,e=.returned v/\g9 w' v (bF t fr aL):=by
 obtain⟨k,y,bs,v,rfl,x,s,r,o⟩:=h;refine(X7 A w (ajY _ _ _) (fun args w=>c8 Yl aod args w) (ajZ t v fr aL w o a f b dF k y bs x s r)).mono ?_;rintro e w' ⟨g,rfl,hl,-⟩;refine⟨g,rfl,RZ hl _ (z6 _ _ _) Ay fun j m p q l=>?_⟩;have B:j<aL-fr:=by rwa[z6]at m
 have z:(bF t fr aL)[j]=([((fr+j:Nat):Int)],t.map (mW · (fr+j))):=by simp[bF]
 rw[z];refine ams l Aa AU fun d hd=>?_;obtain⟨c,n,rfl⟩:=List.mem_map.1 hd;exact(dF (fr+j) Ay c n).small
theorem aof{Stop:Bool->ab.av aV->a6->Prop}{c:dT}{de:World}{dP:Nat->Prop}(n:∀b,dP b->c.K b)(q:∀g,g<=prog.globals.size->dP g)(e:i7 (ei prog false) (fun b=>dP b\/dz b) dz de)
 {l v:Value} {t:List br} {fr aL:Nat->Nat} (f:lV de v t) (hrel:aA (fE (fun b=>dP b\/dz b) dz) v v)
 (hinv:∀(args:Array Value)(w:World),(callMethod l "Piece" args).run prog w=.ok (.enter 205 (#[.agg #[v]]++args)) w/\(callMethod l "Piece" args).events prog w #[]=#[])
 (j:t.length<=1000000) (o:∀T,T<c.N->fr T<=aL T/\aL T<=1000000/\aL T-fr T<=300/\∀i,i<aL T->∀c∈t,xk i c) (vV:∀T,T<c.N->c.rows T=aL T-fr T):
 xI c de prog Stop 111 l 205 (.agg #[v]) fr aL
  (fun T u M w=>sA (ei prog false) dP c.K (yI t (fr T) (aL T)) u M w) (fun T v M w=>sA (ei prog false) dP c.K (fun w v=>T<c.N/\g9 w v (bF t (fr T) (aL T))) v M w):=by
 refine Zo lS rfl func205 aoc rfl AS func111 aam rfl AS n q e hinv (.ki (.one hrel))
  (Du:=fun T=>yI t (fr T) (aL T)) (Dv:=fun T w v=>T<c.N/\g9 w v (bF t (fr T) (aL T))) (fun T=>amt _ _ _) (fun T _ _ _ _ _ r f h=>⟨h.1,Zr _ _ _ _ _ _ r f h.2⟩) (fun T k w m d A a=>?_) (fun T k d u p a=>?_) (fun T w v h=>?_)
 ·exact amv t v (fr T) (aL T) {d with tape:=a} (az.bd.cw yG (A.cw (wt e m)) hrel (az.bd.cw yG (wu m e) hrel f) |>.mono se (DY d a))
 ·obtain⟨z,y,x,s⟩:=o T k;exact(aoe t (fr T) (aL T) j z y x s {d with tape:=a} u (yI.tY (DY d a) p)).mono AU
 ·obtain⟨k,B,cap,rfl,-,-⟩:=h;simp_all[z6]
end b_
namespace sJ
open Conc ConcM az bu ab iJ gF jn cZ
abbrev e6:fG where
 av:=Unit
 aT:=Unit
 be:=fun _=>0
 sk:=fun _ aU=>aU.length=1
 dN:=fun _ _ _=>True
 K:=fun _=>False
 hV:=fun _=>False
 wb:=fun _ _=>True
 cD:=fun _=>false
 deaf:=fun _=>0
 past:=fun _=>false
 Left:=fun _=>False
 zero:=fun _=>False
 py:=fun _ _=>False
 hU:=fun _=>False
 fk:=fun _=>False
 aC:=⟨0,0,none⟩
 wg:=⟨0,0,none⟩
 qr:=fun _ _ _=>False
theorem pI:e6.Good where
 refl:=AU
 trans:=AU
 mq:=AU
 mt:=AU
 og:=AU
 one:=AU
 pq:=fun _ aU h=>⟨0,(),by
  grind,fun h=>h,fun h=>h⟩
 zero:=AU
 FW:=AU
 C1:=AU
 wa:=AU
section
variable {P:Program} {Shun:Loc->Prop} {Stop:Nat->Goroutine->World->Prop} {d:Nat}
theorem aax{mine:Nat->Prop}{B:Nat}:∀(es:List Event)(d:Nat),qs e6 () mine d es->(∀e∈es,¬yy e6 e)->(∀b,mine b->∀l,fF l=some b->¬Shun l)->(∀b,mine b->b<B)->(∀e∈es,qD Shun B e)/\∀k,deafBehind k es.toArray=k
 | [],_,_,_,_,_=>⟨Aa,fun _=>rfl⟩
 |e::es,d,h,g,i,n=>by
  obtain⟨p,o⟩:=aax es _ h.2 AU i n;have c:=h.1;have f:=g e Aa;have j:zq (fun _=>False) mine e:=by
   unfold we at c;unfold zq;cases hl:e.loc with
   |cell a=>grind
   |obj r=>grind
   |output=>trivial
   |goroutines=>grind
   |mark m=>
    rw[hl]at c;rcases c with c|⟨c,_⟩
    ·cases m with|noRoom=>trivial|extern _=>trivial|disable=>exact absurd (.inl hl) f|enable=>exact absurd (.inr (.inl hl)) f| _=>exact c.elim
    grind
  refine⟨fun t s=>?_,fun k=>?_⟩
  ·grind[ZD]
  ·have v:deafBehind k (e::es).toArray=deafBehind (deafBehind k #[e]) es.toArray:=by simp[deafBehind]
   have u:deafBehind k #[e]=k:=by
    obtain⟨loc,wr,q⟩:=e;cases loc with
    |mark m=>cases m<;>first|exact j.elim|rfl
    | _=>rfl
   grind
theorem aoy{ST:Bool->e6.av->a6->Prop}{m:Bool}{l:e6.av}{γ:e6.aT}{X:a6}(h:bh e6 P ST m l γ X):m=true->(∀b,X.mine b->b<X.w.heap.size)->(∀b,X.mine b\/X.w.heap.size<=b->∀l,fF l=some b->¬Shun l)->
 (∀Y,ST true () Y->cZ.Left X Y->eU P Shun Stop d Y.g Y.w)->eU P Shun Stop d X.g X.w:=by
 induction h with
 |@stop m l γ X h=>rintro rfl _ _ k;exact k X h ⟨fun _ h=>h,fun _ _ _=>rfl,AU,Nat.le_refl _,.refl _,rfl,rfl,id⟩
 |@step m l γ X j ch ok w o x y t D C A=>
  rintro rfl z u k;refine eU.mk j fun n=>?_;have hrel:dX e6 l γ X (X.w.at n):=⟨⟨fun _ _=>rfl,Nat.le_refl _,.refl _⟩,trivial,⟨[l],0,rfl,rfl⟩,.refl _,rfl,rfl⟩;rcases ok (X.w.at n) γ trivial hrel with⟨g1,w1,es,e,q⟩|⟨g1,w1,es,e,q,_⟩|⟨_,_,q,_⟩|⟨_,g1,c,w1,es,e,q⟩
  ·have hsz:X.w.heap.size<=w1.heap.size:=q.keep.size;have r:∀b,grown X.mine (X.w.at n) w1 b->X.mine b\/(X.w.heap.size<=b/\b<w1.heap.size):=fun b h=>h;have s:∀b,grown X.mine (X.w.at n) w1 b->∀l,fF l=some b->¬Shun l:=AU;have f:∀b,grown X.mine (X.w.at n) w1 b->b<w1.heap.size:=AU;obtain⟨g,a⟩:=aax (Shun:=Shun) (B:=w1.heap.size) es.toList 0 q.evs (fun e o v=>q.low (.inl AU)) s f;refine⟨g1,w1,es,e,AU,hsz,?_⟩;have p:deafBehind d es=d:=a d;rw[p];refine t (X.w.at n) γ g1 w1 es trivial hrel e q.run q.low rfl f AU (fun Y i hl=>k Y i ?_);refine⟨fun b h=>hl.sub b (.inl h),fun b g a=>(hl.kept b AU fun h=>?_).trans (q.keep.kept b g a K4),fun b h=>?_,Nat.le_trans hsz hl.size,(show OsLater X.w.os w1.os from q.keep.os).trans hl.os,hl.output.trans q.keep.output,hl.tape.trans q.keep.tape,fun _=>hl.run q.run⟩
   ·grind
   ·rcases hl.new b h with h|h
    ·rcases r b h with h|h
     ·grind
     ·exact .inr ⟨h.1,Nat.lt_of_lt_of_le h.2 hl.size⟩
    grind
  ·exact absurd q.A8.1 AU
  ·grind
  ·exact absurd q.be AU
end
end sJ
namespace sJ
open Conc ConcM az bu ab iJ gF jn
section
section
variable {Z:fG} {Q:Program} {Stop:Bool->Z.av->a6->Prop} {m:Bool} {b:Frame} {ops:Array Oper} {l:Z.av} {M:Nat->Prop} {w0:World} {bs:List (Nat×Obj)}
def jq(Z:fG)(l:Z.av)(M:Nat->Prop)(w0:World)(bs:List (Nat×Obj)):c6 Z:=⟨l,ck M bs,fun w _=>aZ Z M w0 bs w⟩
theorem ND:wk (jq Z l M w0 bs):=fun _ _ _ _ _ h _ a=>aZ.on h (dX.rw a)
def DZ(x:Nat×Obj)(M:Nat->Prop)(w0:World)(bs:List (Nat×Obj)):Prop:=x∈bs\/(M x.1/\w0.heap[x.1]?=some x.2)
theorem DZ.at{x:Nat×Obj}(h:DZ x M w0 bs){w:World}(a:aZ Z M w0 bs w):ck M bs x.1/\w.heap[x.1]?=some x.2:=by
 rcases h with h|⟨b,c⟩
 ·exact⟨.inr AU,a.cV x h⟩
 ·exact⟨.inl b,(a.rw.heap x.1 (.inr b)).trans c⟩
theorem DZ.cons{x y:Nat×Obj}(h:DZ x M w0 bs):DZ x M w0 (y::bs):=h.imp AU id
def NE(Z:fG)(l:Z.av)(xs:List (Nat×Obj))(σ:c6 Z):Prop:=∃M w0 bs,(∀x∈xs,DZ x M w0 bs)/\σ=jq Z l M w0 bs
theorem NF{xs:List (Nat×Obj)}:∀σ,NE Z l xs σ->wk σ:=by rintro _ ⟨M,w0,bs,_,rfl⟩;exact ND
theorem aoz{xs:List (Nat×Obj)}:∀σ,NE Z l xs σ->∀w γ,σ.S w γ->σ.S {w with drawn:=w.drawn+1} γ:=by rintro _ ⟨M,w0,bs,_,rfl⟩ w γ h;exact⟨h.rw.trans ⟨fun _ _=>rfl,Nat.le_refl _,.refl _,rfl,rfl⟩,h.cV,h.lt,h.fy,h.uS,h.Di,h.xw⟩
theorem aaz(s:Z.past l=false){xs:List (Nat×Obj)}{z:Nat×Obj}(j:z∈xs){o:Oper}{v:Value}{a:Act}(c:Region.wanted o (yielded ops a.tmps)=true)
 (h:∀w,w.heap[z.1]?=some z.2->(execOp a.eval o).run Q w=.ok (.value v) w/\∀e∈listed Q b.fn a o w,∃off,e=⟨.cell ⟨z.1,off,none⟩,false,false⟩):oi Q b ops (NE Z l xs) o v a:=by
 refine .inl ⟨c,?_⟩;rintro _ ⟨M,w0,bs,k,rfl⟩ w γ w' t g hS n m;have hZ:=ND (Z:=Z) (l:=l) w γ w' t g hS n m;obtain⟨q,r⟩:=(k z j).at hZ;obtain⟨p,i⟩:=h w' r;refine⟨p,A_ _ _ fun e f d=>?_,?_⟩
 ·obtain⟨off,rfl⟩:=i e AU;exact .inl ⟨rfl,.inr (.inl q),s⟩
 ·rintro⟨e,f,c⟩;obtain⟨off,rfl⟩:=i e f;rcases c with c|c|⟨_,c⟩|⟨_,c⟩|⟨c,_⟩<;>cases c
theorem SK(d:∀b,Z.K b->¬Z.hV b){o:Oper}{ob:Obj}{a:Act}{K:c6 Z->Act->Prop}
 (h:∀w,(execOp a.eval o).run Q w=.ok (.value (.pointer (some ⟨w.heap.size,0,none⟩))) (w.alloc ob)/\listed Q b.fn a o w=#[])
 (k:∀n,K (jq Z l M w0 ((n,ob)::bs)) (a.put o.dst (.pointer (some ⟨n,0,none⟩)))):De Q b o (jq Z l M w0 bs) a K:=by
 intro w γ w' m g hS f e;have hZ:aZ Z M w0 bs w':=ND (Z:=Z) (l:=l) w γ w' m g hS f e;obtain⟨j,i⟩:=h w';refine⟨_,_,jq Z l M w0 ((w'.heap.size,ob)::bs),.inl j,⟨?_,?_,.inl ⟨rfl,hZ.alloc d ob,fun b c _=>Dj c,?_,?_⟩⟩,k _⟩
 ·show ck M ((w'.heap.size,ob)::bs)=grown (ck M bs) w' (w'.alloc ob);rw[RA];exact ck.cons.symm
 ·exact⟨fun b c _ _=>Dj c,Bp,.refl _,rfl,rfl⟩
 ·rw[i];exact trivial
 grind
theorem SL(u:Z.past l=false){pre post:List (Nat×Obj)}{b0:Nat}{bp new:Array Value}{t:TypeId}{o:Oper}{a:Act}{K:c6 Z->Act->Prop}
 (h:∀w,w.heap[b0]?=some (.cells bp t)->(execOp a.eval o).run Q w=.ok .skip (w.setRow b0 new)/\∀e∈listed Q b.fn a o w,∃off,e.loc=.cell ⟨b0,off,none⟩/\e.sync=false)
 (k:K (jq Z l M w0 (pre++(b0,.cells new t)::post)) (a.put o.dst undef)):De Q b o (jq Z l M w0 (pre++(b0,.cells bp t)::post)) a K:=by
 intro w γ w' v g hS s r;have hZ:aZ Z M w0 (pre++(b0,.cells bp t)::post) w':=ND (Z:=Z) (l:=l) w γ w' v g hS s r;have j:ck M (pre++(b0,Obj.cells bp t)::post) b0:=.inr Aa;have A:ck M (pre++(b0,Obj.cells new t)::post)=ck M (pre++(b0,Obj.cells bp t)::post):=by grind[ck]
 obtain⟨z,p⟩:=h w' (hZ.cV (b0,.cells bp t) Aa);have y:grown (ck M (pre++(b0,Obj.cells bp t)::post)) w' (w'.setRow b0 new)=ck M (pre++(b0,Obj.cells bp t)::post):=lD (setRow_size _ _ _);refine⟨_,_,jq Z l M w0 (pre++(b0,.cells new t)::post),AU,⟨?_,?_,.inl ⟨rfl,hZ.row,fun b x i=>Bl _ _ ?_,?_,?_⟩⟩,k⟩
 ·show ck M (pre++(b0,.cells new t)::post)=grown (ck M (pre++(b0,Obj.cells bp t)::post)) w' (w'.setRow b0 new);grind
 ·exact⟨fun k _ f _=>Bl _ _ fun e=>f (e▸j),Nat.le_of_eq (setRow_size _ _ _).symm,.refl _,rfl,rfl⟩
 ·rintro rfl;exact hZ.fy b (.inr j) i
 ·refine A_ _ _ fun e n d=>?_;obtain⟨off,m,q⟩:=p e AU;unfold we;rw[m];refine .inl ⟨q,.inr (.inl ?_),u⟩;show grown (ck M (pre++(b0,Obj.cells bp t)::post)) w' (w'.setRow b0 new) b0;simp_all
 ·rintro⟨e,n,c⟩;obtain⟨off,m,q⟩:=p e n;rcases c with c|c|⟨_,c⟩|⟨_,c⟩|⟨_,k,f,i⟩
  ·grind
  ·grind
  ·grind
  ·grind
  ·rw[m]at f;cases f;exact hZ.fy b0 (.inr j) i
end
end
end sJ
namespace cZ
open Conc ConcN ConcM az bu ab gb jn
section
section
variable {c:dT} {P:Program} {c7:Nat->Value->(Nat->Prop)->World->Prop} {SM:ab.av aV->a6->Prop}
def Ef(P:Program)(c7:Nat->Value->(Nat->Prop)->World->Prop)(SM:ab.av aV->a6->Prop):Bool->ab.av aV->a6->Prop
 |true,l,X=>SM l X
 |false,l,X=>(l.am=.old/\∃k,QuitsD P k l.deaf X.g)\/∃q f,l=⟨.idle,false,1,f,.gone q⟩/\(∃k,QuitsD P k 1 X.g)/\qx c7 q X.mine X.w
theorem aqz:∀(l:ab.av aV) X,Ef P c7 SM false l X->(ah (aE c)).Left l/\∃n,QuitsD P n ((ah (aE c)).deaf l) X.g:=by
 rintro l X (⟨b,a⟩|⟨q,f,rfl,a,_⟩)
 ·grind[tp]
 ·exact⟨trivial,a⟩
theorem aqA{gs:Array Goroutine}{t:Trace}{q:Nat->Nat}{g:Goroutine}{w:World}{M:Nat->Prop}{Shun:Loc->Prop}{f0 v:Nat}{b0:cF}(h0:gs[0]?=some g)(hrun:g.status=.running)(E:Leavers P t gs q)(u:nF Shun w.heap.size 0 gs.size t)
 (D:gs.size=c.rows c.N) (fo:gs.size<=c.d4) (d:b0.a0=0/\b0.eg=false/\b0.gP=0/\b0.taken=0/\b0.came=0/\b0.done.length=c.N)
 (z:w.heap[c.st]?=some (ic (aE c) ⟨false,false,false,0,0,v⟩ b0)/\(aE c).pz b0 w)
 (x:∀b,M b->¬(ah (aE c)).hV b/\¬c.K b) (n:∀b,M b\/c.K b\/(ah (aE c)).hV b->b<w.heap.size/\∀l,fF l=some b->¬Shun l)
 (ht:bh (ah (aE c)) P (Ef P c7 SM) true ⟨.idle,false,0,f0,.main (.spawn 0 false)⟩ ⟨⟨false,false,false,0,0,v⟩,f0+c.C*c.N,b0⟩ ⟨g,w,M⟩):
 Inv (ah (aE c)) P (Ef P c7 SM) gs.size (pK c gs t q ⟨.idle,false,0,f0,.main (.spawn 0 false)⟩ g w M) ⟨⟨false,false,false,0,0,v⟩,f0+c.C*c.N,b0⟩ w t:=by
 have y:0<gs.size:=(Array.getElem?_eq_some_iff.1 h0).1;have G:=aN (bR c);refine⟨fun j r a=>?_,aqy rfl y D fo d,z,fun j r a=>?_,fun j r a b m=>?_,fun j k r s a B A b f p=>?_,AU,fun j r a H _=>?_,⟨none,fun j r a=>?_,?_⟩,by grind[GD]⟩
 ·obtain⟨f,rfl⟩:=xW a;by_cases e:j=0
  ·subst e;exact .runs rfl hrun ht Aa u.hears rfl K4
  ·have C:(j==0)=false:=by simp[e]
   rw[Ee e,C];have o:=E.old j (gs.getD j default) Ay Bp;exact .leaves rfl o trivial (.inl ⟨rfl,_,o⟩)
 ·obtain⟨f,rfl⟩:=xW a;unfold BP;split<;>exact⟨⟨fun _ _=>rfl,Nat.le_refl _,.refl _⟩,.refl _,rfl,rfl⟩
 ·obtain⟨f,rfl⟩:=xW a;by_cases e:j=0
  ·subst e;exact⟨(x b m).1,(x b m).2,(n b (.inl m)).1⟩
  grind[Ee]
 ·obtain⟨_,rfl⟩:=xW a;obtain⟨_,rfl⟩:=xW B;grind[Ee]
 ·obtain⟨_,rfl⟩:=xW a;rw[Ee H];exact⟨trivial,fun b h=>h⟩
 ·obtain⟨_,rfl⟩:=xW a;grind[BP]
 ·refine aqu u GD rfl rfl rfl (Yy G _ _ _ _) (fun b d=>(n b ?_).2) (fun j b a F=>?_) (fun l hl=>?_)
  ·rcases d with d|⟨r,i,d⟩
   ·exact .inr (.inl d)
   ·obtain⟨_,rfl⟩:=xW i;exact .inl d
  ·obtain⟨r,i,d⟩:=F;obtain⟨_,rfl⟩:=xW i;grind[Ee]
  ·rcases hl with hl|hl
   ·obtain⟨b,f,p⟩:=G.FW l hl;grind
   ·obtain⟨b,f,p⟩:=G.C1 l hl;grind
end
section
variable {P:Program} {Post:Value->World->Prop} {p:mY} {g g1:Goroutine} {w:World}
def GF(p:mY)(l:Loc):Prop:=p.fk l\/(Yn p l/\∃b,fF l=some b/\b<p.size)
theorem aqB{t:Trace}(f:eJ p t)(n:∀i j,t.g? i=some j->p.past j->t.counts i->Knows t 0 i)(u:∀j,j≠0->j<p.n->p.past j)(hd:Deaf t 0=0):nF (GF p) p.size 0 p.n t:=by
 have qq:∀i a,touchAt t i=some a->a.loc.isMemory=true->a.kind=.atomic->GF p a.loc:=fun i a o m n=>by obtain⟨b,g⟩:=aj4 m;exact(f.qq i a o m n).imp id fun v=>⟨v,b,g,f.low i a b o g⟩
 have l:∀{i:Nat}{op:MemOp},t[i]?=some op->op.g≠0->p.past op.g:=fun h d=>u _ d (f.gs _ _ h);refine⟨fun op c=>?_,fun op c a e=>?_,qq,f.A4,fun i a o m=>?_,fun i j r d s=>?_,hd,f.low⟩
 ·obtain⟨i,hi⟩:=Array.mem_iff_getElem?.1 c;exact f.gs i op hi
 ·obtain⟨i,hi⟩:=Array.mem_iff_getElem?.1 c;exact f.tS i a (by grind[Trace.act?])
 ·obtain⟨op,q,x⟩:=touch_of o;by_cases e:op.g=0
  ·grind[knows_own]
  ·by_cases w:a.kind=.atomic
   ·grind
   ·exact .inl (n i op.g I8 (l q e) ⟨a,by grind[Trace.act?],m,.inl w⟩)
 ·unfold Trace.g? at r;obtain⟨op,q,rfl⟩:=Option.map_eq_some_iff.1 r;obtain⟨k,z,y,A,g⟩:=n i op.g I8 (l q d) s;refine⟨k,I8,?_⟩;rcases g with rfl|g
  ·grind
  grind
theorem aqC(f:g.status=.running)(hstep:∀w,stepG P true g w=.go g1 w #[⟨.mark (.acquire p.wg),false,true⟩])(S:∀j,j≠0->j<p.n->p.past j)(hsz:w.heap.size=p.size)(B:∀k,cp P Post p.n (GF p) 0 g1 (w.at k)):
 ∀(M:Nat)(gs:Array Goroutine)(sl:Option (Nat×Nat))(q:Nat->Nat)(t:Trace)(b:Nat),sumTo gs.size q<=M->gs.size=p.n->gs[0]?=some g->Leavers P t gs q->eJ p t->Deaf t 0=0->mx P Post (crowd gs (w.at b) sl) t:=by
 have own:∀(gs:Array Goroutine)(sl sl':Option (Nat×Nat))(q:Nat->Nat)(t:Trace)(b k:Nat),stepT P (crowd gs (w.at b) sl)=runT P (crowd gs (w.at k) sl') 0->gs.size=p.n->gs[0]?=some g->Leavers P t gs q->eJ p t->Deaf t 0=0->mx P Post (crowd gs (w.at b) sl) t:=by
  intro gs sl sl' q t b k a h h0 c d hd;have u:=runT_crowd_go (P:=P) (sl:=sl') (i:=0) h0 (show stepG P (0==0) g (w.at k)=_ from hstep _);have e:0<gs.size:=(Array.getElem?_eq_some_iff.1 h0).1;have O:=Ml 0 g.frame.fn g.frame.place (.acquire p.wg);obtain⟨I,N⟩:=d.akb (y:=({g:=0,fn:=g.frame.fn,pos:=g.frame.place,act:=.mark (.acquire p.wg)}:MemOp)) rfl Ay rfl hd;have Q:Deaf (t++MemOp.ofEvents 0 g.frame.fn g.frame.place #[⟨.mark (.acquire p.wg),false,true⟩]) 0=0:=by rw[Deaf_own,hd];rfl
  have T:nF (GF p) p.size 0 p.n (t++MemOp.ofEvents 0 g.frame.fn g.frame.place #[⟨.mark (.acquire p.wg),false,true⟩]):=by grind[aqB,FX]
  refine mx.step (a.trans u) (B k _ _ q _ AU AU ⟨fun j x s r=>?_,fun j s=>?_⟩ (by rw[show(w.at k).heap.size=p.size from hsz];grind))
  ·have m:0≠j:=by omega
   rw[Array.getElem?_setIfInBounds_ne m,Array.getElem?_map]at r;obtain⟨y,z,rfl⟩:=Option.map_eq_some_iff.1 r;have L:=c.old j y s z;grind[woken_quitsD,DH]
  ·rw[DH _ _ _ _ AU];exact c.above j AU
 intro M;induction M with
 |zero=>
  intro gs sl q t b H h h0 c d hd;obtain⟨i,C,k,sl',hi,n,a⟩:=crowd_pick (P:=P) (w:=w.at b) (sl:=sl) (Gf c h0 f) AU;rcases Nat.eq_zero_or_pos i with rfl|l
  ·exact own gs sl sl' q t b k a h h0 c d hd
  ·obtain⟨gs',o,fn,pos,es,_,_,_,_,_,e⟩:=R8 (w:=w) (k:=k) (sl':=sl') c h0 f l hi n;omega
 |succ M v=>
  intro gs sl q t b H h h0 c d hd;obtain⟨i,C,k,sl',hi,n,a⟩:=crowd_pick (P:=P) (w:=w.at b) (sl:=sl) (Gf c h0 f) AU;rcases Nat.eq_zero_or_pos i with rfl|l
  ·exact own gs sl sl' q t b k a h h0 c d hd
  ·obtain⟨gs',o,fn,pos,es,F,R,E,D,K,J⟩:=R8 (w:=w) (k:=k) (sl':=sl') c h0 f l hi n;have e:i<gs.size:=(Array.getElem?_eq_some_iff.1 hi).1;refine mx.step (a.trans F) (v gs' sl' o _ k Ay Ay E D ?_ ?_)
   ·exact eJ.mute (p:=p) (i:=i) Ay fn pos es.toList d AU
   ·rw[Deaf_other t (g':=i) Ay _ (fun op A=>E2)];exact hd
end
end
section
section
variable {c:dT} {P:Program} {Post:Value->World->Prop} {c7:Nat->Value->(Nat->Prop)->World->Prop}
structure JM(c:dT)(c7:Nat->Value->(Nat->Prop)->World->Prop)(M:Nat->Prop)(w0:World)(n':Nat)(cR:Loc->Prop)(M':Nat->Prop)(D:List Value)(w':World):Prop where
 n:n'<=c.d4
 Eg:∀b,M' b\/w'.heap.size<=b->∀l,fF l=some b->¬cR l
 aqD:∀off sp,2<=off->¬cR (.cell ⟨c.st,off,sp⟩)
 aqE:cR (.cell ⟨c.st,0,none⟩)/\cR (.cell ⟨c.st,1,none⟩)
 sub:∀b,M b\/c.K b\/b=c.bG->M' b
 low:∀b,M' b\/b=c.st->b<w'.heap.size
 Tr:¬M' c.st
 len:D.length=c.N
 done:w'.heap[c.bG]?=some (.cells D.toArray c.F6)
 st:∃T m:Nat,w'.heap[c.st]?=some (.cells #[.int .i32 0,.int .u32 0,c.size,c.Bg,.int .i64 (T:Int),.int .i64 (m:Int),c.zQ,c.MG] c.MF)
 stands:∀b,c.K b\/M b->w'.heap[b]?=w0.heap[b]?
 size:w0.heap.size<=w'.heap.size
 os:OsLater w0.os w'.os
 output:w'.output=w0.output
 tape:w'.tape=w0.tape
 Gh:∀p,p<c.N->∃v,D[p]?=some v/\c7 p v M' w'
def JN(c:dT)(P:Program)(M:Nat->Prop)(w0:World)(yU:Goroutine->Prop)(l:ab.av aV)(X:a6):Prop:=
 (l.bB=.idle/\l.deaf=0/\l.am=.main .over)/\(∃g1,(∀w,stepG P true X.g w=.go g1 w #[⟨.mark (.acquire ⟨c.wg,0,none⟩),false,true⟩])/\∃g',yU g'/\∃k,∀w,Goes P true (fun _ _=>True) Go.ConcR.DC0 (fun fR _=>fR=g') k g1 w)/\U (ah (aE c)) M w0 X.w/\∀b,M b->X.mine b
theorem aqF{m:bk}{xs:List bP}(h:du m xs)(hi:∀x∈xs,x=.idle):m.L=false/\m.W=false/\m.S=false/\m.k=0/\m.sema=0:=by
 have ci:=fun f b=>Tq (f:=f) b _ hi;have d:=h.o;rw[ci _ rfl]at d;have e:m.L=false:=AU;have hS:m.S=false:=by cases a:m.S with
  |false=>rfl
  |true=>have:=h.st a;rw[ci ga rfl,ci fH rfl]at this;omega
 have c:=h.nm hS;rw[ci gE rfl,ci dS rfl,ci ga rfl]at c;grind
theorem aqG(jE:∀T v M w M' w',c7 T v M w->(∀b,c.K b\/M b->w'.heap[b]?=w.heap[b]?)->(∀b,M b->M' b)->c7 T v M' w'){n:Nat}{g:Goroutine}{yU:Goroutine->Prop}{w w0:World}{M:Nat->Prop}{Shun:Loc->Prop}{f0 v:Nat}{b0:cF}(hrun:g.status=.running)
 (aj:n=c.rows c.N) (fo:n<=c.d4) (f:b0.a0=0/\b0.eg=false/\b0.gP=0/\b0.taken=0/\b0.came=0/\b0.done.length=c.N)
 (qt:w.heap[c.st]?=some (ic (aE c) ⟨false,false,false,0,0,v⟩ b0)/\(aE c).pz b0 w)
 (dG:∀b,M b->¬(ah (aE c)).hV b/\¬c.K b) (oj:∀b,M b\/c.K b\/(ah (aE c)).hV b->b<w.heap.size/\∀l,fF l=some b->¬Shun l)
 (ht:∀k,bh (ah (aE c)) P (Ef P c7 (JN c P M w0 yU)) true ⟨.idle,false,0,f0,.main (.spawn 0 false)⟩ ⟨⟨false,false,false,0,0,v⟩,f0+c.C*c.N,b0⟩ ⟨g,w.at k,M⟩)
 (Ts:∀g',yU g'->∀n' cR M' D w',JM c c7 M w0 n' cR M' D w'->cp P Post n' cR 0 g' w'):cp P Post n Shun 0 g w:=by
 intro gs sl q t hsz h0 aM g8;have G:=aN (bR c);have aqH:=aqA (c:=c) (c7:=c7) (SM:=JN c P M w0 yU) (M:=M) h0 hrun aM AU (hsz.trans aj) AU f qt dG oj (ht w.drawn);obtain⟨N,m',t1,S,rs,γ,w1,R,rfl,⟨E,y,N0,CW⟩,o,yh⟩:=phase G aqz aqH (by rw[GD];grind) sl;rw[aqw h0]at S;refine mx.leads (q:=fun m t=>m=crowd (kN (ah (aE c)) rs) w1 R/\t=t1) (fun m t z=>?_) N S ⟨rfl,rfl⟩;obtain⟨rfl,rfl⟩:=z;obtain⟨⟨hmx,C_,nD⟩,⟨g1,aqI,g',aqJ,kk,aqK⟩,K,c_⟩:=N0;have U:u_ (aE c) γ (rs.map (·.l)):=o.vZ;have A:dc c.N c.rows γ.am ((rs.map (·.l)).map (·.am)):=U.qw;have QF:∀{j:Nat}{r:cK (ah (aE c))},rs[j]?=some r->(rs.map (·.l))[j]?=some r.l:=fun h=>AU;have Jw:∀{j:Nat}{r:cK (ah (aE c))},rs[j]?=some r->((rs.map (·.l)).map (·.am))[j]?=some (show ab.av aV from r.l).am:=fun h=>AU;have Y:((rs.map (·.l)).map (·.am))[0]?=some (.main .over):=AU;have Q:∀{j:Nat}{r:cK (ah (aE c))},j≠0->rs[j]?=some r->(ah (aE c)).Left r.l:=fun u h=>(A.all Y _ _ (Jw h)).resolve_left u;have aqL:∀{j:Nat}{r:cK (ah (aE c))},j≠0->rs[j]?=some r->QuitsD P r.n (Deaf t j) r.g/\Ef P c7 (JN c P M w0 yU) false r.l r.X:=by intro j r u h;have e0:(j==0)=false:=AU;have s:=o.sits j r h;rw[e0]at s;cases s with|runs _ _ _ _ _ _ hl=>grind|waits _ _ _ _ _ _ _ _ hl=>grind|leaves _ hq _ s=>grind
 obtain⟨a2,Mm,hT⟩:=o.a2;have aqM:E.X.g.status=.running:=by cases o.sits 0 E y with|runs _ d _ _ _ _ _=>exact d|waits _ d _ _ _ _ _ _ _=>exact d|leaves z _ _ _=>cases z
 have aqN:Deaf t 0=0:=by cases o.sits 0 E y with|runs _ _ _ _ hd _ _=>grind|waits _ _ _ _ YE _ hd _ _=>grind|leaves z _ _ _=>cases z
 have aqO:(jk (ah (aE c)) gs.size rs w1.heap.size a2).n=rs.length:=rfl;have aqP:Leavers P t (kN (ah (aE c)) rs) (fun j=>((rs[j]?).map (·.n)).getD 0):=by
  refine⟨fun i x hi C=>?_,fun j u=>?_⟩
  ·grind[C9]
  ·refine Deaf_absent fun i op hi e=>?_;have:=hT.gs i op hi;grind[kN]
 have xq:∀j,j≠0->j<(jk (ah (aE c)) gs.size rs w1.heap.size a2).n->(jk (ah (aE c)) gs.size rs w1.heap.size a2).past j:=by intro j u I;have d:rs[j]?=some rs[j]:=List.getElem?_eq_getElem I;refine⟨rs[j],d,?_⟩;have:=Q u d;show ku (show ab.av aV from rs[j].l).am=true;have F:tp (show ab.av aV from rs[j].l).am:=this;cases X:(show ab.av aV from rs[j].l).am with|gone _=>rfl|old=>rfl|main _=>rw[X]at F;exact F.elim|aR _ _=>rw[X]at F;exact F.elim
 let M':Nat->Prop:=fun b=>M b\/c.K b\/b=c.bG\/∃(j:Nat)(r:cK (ah (aE c))),rs[j]?=some r/\r.X.mine b
 have aqQ:∀b,M' b->b≠c.st/\b≠c.wg:=by
  rintro b (h|h|h|⟨j,r,d,h⟩)
  ·grind
  ·exact⟨(c.Bh b h).1,(c.Bh b h).2.1⟩
  ·exact⟨fun e=>c.fy.2.1 (e.symm.trans h),fun e=>c.fy.2.2 (e.symm.trans h)⟩
  ·have:=(o.kp j r d b h).1;grind
 have kt:∀b,M' b->∀l,fF l=some b->¬GF (jk (ah (aE c)) gs.size rs w1.heap.size a2) l:=by
  intro b f l hl s;rcases s with s|⟨⟨Z,aj⟩,_⟩
  ·have V:l=.cell (ab.fI (aE c))\/l=.cell (ab.k7 (aE c))\/(l=.cell ⟨c.wg,0,none⟩\/l=.cell ⟨c.wg,1,none⟩):=s;rcases V with rfl|rfl|rfl|rfl<;>simp only[fF,Option.some.injEq,ab.fI,ab.k7]at hl
   ·grind
   ·grind
   ·grind
   grind
  ·obtain⟨hK,z⟩:=aj b hl;rcases f with h|h|h|⟨j,r,d,h⟩
   ·exact z 0 ⟨E,y,(c_ b) h⟩
   ·exact hK h
   ·subst h;exact Z (.inr hl)
   ·exact z j ⟨r,d,h⟩
 refine aqC (w:=w1) aqM aqI xq rfl (fun k=>?_) _ _ R _ t w1.drawn Jr (by simp[kN,aqO]) (by rw[C9,y];grind) aqP hT aqN;have AL:∀{j:Nat}{r:cK (ah (aE c))},rs[j]?=some r->∀b,c.K b\/r.X.mine b->w1.heap[b]?=r.X.w.heap[b]?:=fun h b f=>(o.rely _ _ h).1.heap b f;have O:w1.heap[c.st]?=some (ic (aE c) γ.aC γ.am)/\w1.heap[c.wg]?=some (vd c γ.am)/\(True->w1.heap[c.bG]?=some (F7 c γ.am)):=o.mt;have aqR:∀x∈(rs.map (·.l)).map (fun l:ab.av aV=>l.bB),x=.idle:=by
  intro x C;obtain⟨l,hl,rfl⟩:=List.mem_map.1 C;obtain⟨r,d,rfl⟩:=List.mem_map.1 hl;obtain⟨j,u⟩:=List.mem_iff_getElem?.1 d;by_cases e:j=0
  ·grind
  ·exact U.IJ j r.l (QF u) (Q e u)
 obtain⟨m1,uz,F5,tn,Tt⟩:=aqF U.lC aqR;have Mv:γ.aC.word=0:=IS;obtain⟨Lw,X8,aqS,aqT⟩:=o.rely 0 E y;have jN:∀k,JM c c7 M w0 rs.length (GF (jk (ah (aE c)) gs.size rs w1.heap.size a2)) M' γ.am.done (w1.at k):=by
  intro k;refine⟨by have:=U.len;grind,fun b f l hl=>?_,fun off sp F s=>?_,⟨.inl Jt,.inl (.inr Jt)⟩,?_,?_,fun h=>(aqQ _ h).1 rfl,A.len,?_,⟨γ.am.taken,γ.am.came,?_⟩,fun b f=>?_,Nat.le_trans K.size Lw.size,K.later.trans X8,aqS.trans K.output,aqT.trans K.tape,fun p X=>?_⟩
  ·rcases f with f|f
   ·grind
   ·rintro(s|⟨_,aD,H,I⟩)
    ·obtain⟨aD,H,V⟩:=G.C1 l s;rw[hl]at H;cases H;have:=o.low b (.inr V);have e:(w1.at k).heap.size=w1.heap.size:=rfl;omega
    ·rw[hl]at H;cases H;have e:(jk (ah (aE c)) gs.size rs w1.heap.size a2).size=w1.heap.size:=rfl;have fQ:(w1.at k).heap.size=w1.heap.size:=rfl;omega
  ·rcases s with s|⟨⟨Z,_⟩,_⟩
   ·have V:(.cell ⟨c.st,off,sp⟩:Loc)=.cell (ab.fI (aE c))\/(.cell ⟨c.st,off,sp⟩:Loc)=.cell (ab.k7 (aE c))\/((.cell ⟨c.st,off,sp⟩:Loc)=.cell ⟨c.wg,0,none⟩\/(.cell ⟨c.st,off,sp⟩:Loc)=.cell ⟨c.wg,1,none⟩):=s;grind[ab.fI,ab.k7]
   ·exact Z (.inl ⟨off,sp,rfl,F⟩)
  ·rintro b (h|h|h)
   ·exact .inl h
   ·exact .inr (.inl h)
   ·exact .inr (.inr (.inl h))
  ·rintro b ((h|h|h|⟨j,r,d,h⟩)|h)
   ·exact(o.kp 0 E y b ((c_ b) h)).2.2
   ·exact o.low b (.inl h)
   ·exact o.low b (.inr (.inr (.inr h)))
   ·exact(o.kp j r d b h).2.2
   ·exact o.low b (.inr (.inl h))
  ·exact O.2.2 trivial
  ·show w1.heap[c.st]?=_;rw[O.1];unfold ic;rw[Mv,Tt];rfl
  ·exact(AL y b (f.imp id (c_ b))).trans (K.heap b f)
  ·have mr:γ.am.taken=c.N:=by
    rcases A.xA .over Y with⟨q',e⟩|⟨a,W,hw⟩
    ·cases e
    ·have Eh:=(A.all Y _ _ W);refine A.gt ⟨_,a,W,?_⟩;rcases Eh with e|e
     ·rw[e,Y]at W;cases W;cases hw
     ·cases a<;>first|exact e.elim|rfl|cases hw
   have dr:=A.own p;rw[mr,if_pos X]at dr;obtain⟨j,a,u,B⟩:∃(j:Nat)(a:aV),((rs.map (·.l)).map (fun l:ab.av aV=>l.am))[j]?=some a/\0<eb p a:=by
    by_cases J:∃(j:Nat)(a:aV),((rs.map (·.l)).map (fun l:ab.av aV=>l.am))[j]?=some a/\0<eb p a
    ·exact J
    ·exfalso;have hz:dm (eb p) ((rs.map (·.l)).map (fun l:ab.av aV=>l.am))=0:=MC _ _ fun i x C=>by
      rcases Nat.eq_zero_or_pos (eb p x)with e|e
      ·exact e
      ·exact absurd ⟨i,x,C,e⟩ J
     have yo:dm (eb p) ((rs.map (·.l)).map (fun l:ab.av aV=>l.am))=1:=dr;omega
   have jw:=u;rw[List.getElem?_map]at jw;obtain⟨l,hl,rfl⟩:=Option.map_eq_some_iff.1 jw;rw[List.getElem?_map]at hl;obtain⟨r,d,rfl⟩:=Option.map_eq_some_iff.1 hl;have Jm:j≠0:=by rintro rfl;rw[y]at d;cases d;rw[nD]at B;simp[eb,hand,tk]at B
   rcases(aqL Jm d).2 with⟨e,_⟩|⟨q',f',e,_,l4⟩
   ·rw[e]at B;simp[eb,hand,tk]at B
   ·rw[e]at B;simp only[eb,hand,tk,List.count_nil,Nat.zero_add]at B;obtain⟨x,C,L⟩:=List.mem_map.1 (List.count_pos_iff.1 B);refine⟨x.2,?_,?_⟩
    ·have:=A.val j _ u x (by rw[e];exact C);rw[L]at this;exact this
    ·have h1:=l4 x C;rw[L]at h1;exact jE _ _ _ _ _ _ h1 (fun b f=>AL d b f) (fun b f=>.inr (.inr (.inr ⟨j,r,d,f⟩)))
 exact Bs (Zz kk g1 (w1.at k) (aqK _) fun k'=>Ts g' aqJ _ _ _ _ _ (jN k'))
end
end
end cZ
namespace yR
open Conc ConcM az bu ab gb
section
section
variable {c:dT} {Q:Program} {Stop:Bool->ab.av aV->a6->Prop} {l:ab.av aV} {γ:ab.aT cF} {X:a6} {w':World}
theorem aqU{P:Program}{main:Bool}{b:Frame}{a:Act}{k:List Item}{cs:List Frame}{w:World}{ops:Array Oper}{i:Nat}{rest:List Nat}{o:Oper}{f:FuncId}{x:Operand}{cap:Array Value}{ats:Array TypeId}(g:ops[i]?=some o)(c:Region.wanted o (yielded ops a.tmps)=true)(h:b.kind≠ .early)
 (e:o.op=.go {callee:=.value x,args:=#[],argTypes:=ats}) (l:a.eval x=.func (.func f) #[] cap):
 stepG P main (Conc.G (b.at a (.inRegion ops (i::rest)::k)) cs) w=.spawn (Conc.G (b.at (a.put o.dst undef) (.inRegion ops rest::k)) cs) (born P (vf f cap)) w #[]:=by
 have d:(execOp a.eval o).run P w=.ok (.spawn (vf f cap)) w:=by simp_all[execOp,resolve,Deferred.ofValue,vf]
 have j:listed P b.fn a o w=#[]:=by simp_all[listed,execOp,resolve,Deferred.ofValue,seen_none]
 rw[stepG_spawn g c h d rfl,j]
theorem aqV(p:dX (ah (aE c)) l γ X w'){g1 child:Goroutine}(u:stepG Q true X.g w'=.spawn g1 child w' #[])(hrun:g1.status=.running)(o:child.status=.running){f k:Nat}(hl:l=⟨.idle,false,0,f+20,.main (.spawn k true)⟩)(C:c.rows c.N+k+1<=c.d4)
 (h:bh (ah (aE c)) Q Stop true ⟨.idle,false,0,f,.main (.spawn (k+1) false)⟩ {γ with be:=γ.be-1} ⟨g1,w',X.mine⟩) (v:bh (ah (aE c)) Q Stop false ⟨.idle,false,0,19,.aR .free []⟩ {γ with be:=γ.be-1} ⟨child,w',fun _=>False⟩):iq (Z:=ah (aE c)) Q Stop true l γ X w':=by
 have D:grown X.mine w' w'=X.mine:=lD rfl;have key:∀(aU:List (ab.av aV)),aU[0]?=some l->u_ (aE c) γ aU->1<=γ.be/\((aU.set 0 (⟨.idle,false,0,f,.main (.spawn (k+1) false)⟩:ab.av aV)).map (·.fuel)).sum+19+2*tg γ.aC (aU.map (·.bB))+c.C*(c.N-γ.am.taken)<=γ.be-1:=by
  intro aU hi b;have m:0<aU.length:=(List.getElem?_eq_some_iff.1 hi).1;have e:=FY (aU.map (·.fuel)) 0 f AU;have w:(aU.set 0 (⟨.idle,false,0,f,.main (.spawn (k+1) false)⟩:ab.av aV)).map (·.fuel)=(aU.map (·.fuel)).set 0 f:=Bp;rw[w];have y:(aU.map (·.fuel))[0]'AU=f+20:=by grind
  rw[y]at e;have z:(aU.map (fun x:ab.av aV=>x.fuel)).sum+2*tg γ.aC (aU.map (fun x:ab.av aV=>x.bB))+c.C*(c.N-γ.am.taken)<=γ.be:=b.dO;grind
 refine .born (l1:=(⟨.idle,false,0,f,.main (.spawn (k+1) false)⟩:ab.av aV)) (bA:=({γ with be:=γ.be-1}:ab.aT cF)) (lc:=(⟨.idle,false,0,19,.aR .free []⟩:ab.av aV)) rfl u ⟨hrun,o,tT _ _ _,p.mt,?_,fun aU hi b=>?_,trivial,⟨by rw[hl],rfl,rfl,rfl⟩,AU,⟨by rw[hl];rfl,rfl⟩,fun s q=>q,fun e=>e,fun e=>e⟩ AU v
 ·obtain⟨aU,i,hi,b⟩:∃(aU:List (ab.av aV))(i:Nat),aU[i]?=some l/\u_ (aE c) γ aU:=p.sees;have h0:=b.qw.only i (.spawn k true) AU;grind
 ·have a:u_ (aE c) γ aU:=b;obtain⟨B,F⟩:=key aU hi a;have m:0<aU.length:=(List.getElem?_eq_some_iff.1 hi).1;have r:(aU.set 0 (⟨.idle,false,0,f,.main (.spawn (k+1) false)⟩:ab.av aV)++[(⟨.idle,false,0,19,.aR .free []⟩:ab.av aV)]).map (·.bB)=aU.map (·.bB)++[.idle]:=by grind[Rr]
  have A:(aU.set 0 (⟨.idle,false,0,f,.main (.spawn (k+1) false)⟩:ab.av aV)++[(⟨.idle,false,0,19,.aR .free []⟩:ab.av aV)]).map (·.am)=(aU.map (·.am)).set 0 (.main (.spawn (k+1) false))++[.aR .free []]:=by simp_all
  have d:(aU.map (·.am))[0]?=some (.main (.spawn k true)):=AU;have get:∀{i:Nat}{x:ab.av aV},(aU.set 0 (⟨.idle,false,0,f,.main (.spawn (k+1) false)⟩:ab.av aV)++[(⟨.idle,false,0,19,.aR .free []⟩:ab.av aV)])[i]?=some x->x=⟨.idle,false,0,f,.main (.spawn (k+1) false)⟩\/aU[i]?=some x\/x=⟨.idle,false,0,19,.aR .free []⟩:=by grind
  refine⟨⟨by rw[r];exact ab.du.push a.lC,by rw[A];exact a.qw.born d,?_,fun i x g ht=>?_,fun i x g t=>?_,?_⟩,fun j s q H=>.inr ⟨AU,AU,.refl _ _⟩⟩
  ·rw[r];have ht:tg γ.aC (aU.map (·.bB)++[.idle])=tg γ.aC (aU.map (·.bB)):=by unfold tg;rw[Rj,Rj];rfl
   grind
  ·rcases get g with rfl|n|rfl
   ·cases ht
   ·exact a.a2 i x n ht
   grind
  ·rcases get g with rfl|n|rfl
   ·rfl
   ·exact a.IJ i x n t
   ·rfl
  ·have E:=a.qw.tl k true d;grind
end
end
end yR
end Go.Proofs.YtoehnnefaeoeoaaGreat
