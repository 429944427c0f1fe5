import Derived.Test.YtnkpmooengcinaaGreatPAT
import Derived.Test.YtnkpmooengcinaaGreatPAU
set_option linter.all false
set_option maxRecDepth 100000
set_option maxHeartbeats 16000000
namespace Go.Proofs.YtnkpmooengcinaaGreat
open Go.Proofs.Tryz
namespace lE
open Conc RowKit ConcM av bn ae ej fY eW gH cW tM
def ao0(x:Value)(N:Nat):madeCells #[x] N=(List.replicate N x).toArray:=by unfold madeCells;grind
structure Aw(i:Bool)(c:db)(aD:c5)(S ab N n W:Nat)(rows:uas)(bad:ubg)(place:ubb)(bW dh b2:Nat):Prop where
 ji:c.bad=bad
 y0:c.place=place
 a5:c.N=N
 lB:∀T,T<N->c.rows T=rows T
 hK:∀b,c.K b↔aD b\/b=bW\/b=dh\/b=b2
 tP:c.size=.I (S:Int)
 ao1:c.zX=.I (ab:Int)
 ao2:c.xN=.S c.cx 0 N N
 MJ:c.least=.N
 eR:c.most=n+W
 MI:c.LD=(ba i 160 218)
 aBt:c.BN=(ba i 57 133)
section
variable{P:ck}{Post:fE}
variable{aY:Frame}{aF:Act}{az:eQ}{aI:Nat}{aK:uag}{aG:uab}{csZ:fA}
def MH(i:Bool){n:Nat}{Shun:uan}{S ab N W:Nat}{rows:uas}{bad:ubg}{place:ubb}(dP:0<ab)(hm:ab<=64)(kg:0<W)(hW:W<=16)(hS:S<=1000)(a5:N=(S+ab-1) / ab)(hn:n+W<=250)(lB:iY rows N<=300)(i8:i=true->∀T,bad T=false){jt:uaa}{eS gn:Value}{c2 iM:ual}{aD:c5}{w:aH}{lR cq:db->Nat->Value->(Nat->Prop)->aH->Prop}(cX:∀b,aD b->b<w.heap.size)(eJ:∀b,aD b\/w.heap.size<=b->∀l,eT l=some b->¬Shun l)(hinv:∀w,(callMethod (.iface jt eS) "Size" #[]).run prog w=.ok (.enter c2 (#[gn]++#[])) w/\(callMethod (.iface jt eS) "Size" #[]).events prog w #[]=#[])(tP:∀(ST:Bool->en.Lo->aV->Prop) bs,(∀m l g w M M',(∀b,M b->M' b)->ST m l ⟨g,w,M⟩->ST m l ⟨g,w,M'⟩)->io prog ST true c2 (#[gn]++#[]) (iC en () aD w bs) (λu bk=>u=.I (S:Int)/\bk=iC en () aD w bs))(wT:∀c bO Stop d e f,Aw i c aD S ab N n W rows bad place d e f->((∀b,aD b->bO.heap[b]?=w.heap[b]?)/\w.heap.size<=bO.heap.size)->q8 c bO prog Stop (ba i 103 124) (.iface jt eS) iM gn (λT=>T*ab) (λT=>min (T*ab+ab) S) (lR c) (cq c))(Sc:∀c bO d e f(j cK Z o r V U P O L I R H F E B Q A z:Value) n' a9 M' D w',Aw i c aD S ab N n W rows bad place d e f->ai en aD w bO->bO.heap[d]?=some (.cells #[.P c.st 0] (ba i 114 185))->FZ c (cq c) (λ_=>False) bO n' a9 M' D w'->ca prog Post n' a9 0 (Conc.G ((base (ba i 28 48)).at ⟨#[j,cK,Z,.P e 0,o,r,.P d 0,.P c.wg 0,V,U,P,O,L,I,.I (W:Int),.I (W:Int),R,H,F,E,.tuple #[],B,Q,A,z],[]⟩ [.R (bM.pI ((bM.ed 8 ((ba i f28 f48).body.getD .skip)).getD .skip)) [],.code (bM.lY ((bM.ed 8 ((ba i f28 f48).body.getD .skip)).getD .skip))]) (aY.at aF (.R az (aI::aK)::aG)::csZ)) w'):
 ca prog Post n Shun 0 (Conc.G (Frame.enter prog (ba i 28 48) #[.agg #[.I (W:Int),.I (ab:Int)],.iface jt eS] .normal) (aY.at aF (.R az (aI::aK)::aG)::csZ)) w:=by
 have j0:af en aD w [] w:=af.start (λb hb=>AN) (λb _ h=>h.elim) (λ_ _ h=>h.elim);refine wo (al9 (X:=⟨_,w,b8 aD []⟩) (anU i (ST:=λ_ _ Y=>∃st cx d f e wg bs,∃(j cK Z o r V U P O L I R H F E iP B Q A z:Value),af en aD w bs Y.w/\(∀x∈[(wg,Obj.cells #[.int .u64 0,.int .u32 0] 126),(d,Obj.cells #[.P st 0] (ba i 114 185)),(st,Obj.cells #[.int .i32 0,.int .u32 0,.I (S:Int),.I (ab:Int),.I 0,.I 0,.S cx 0 N N,.N] (ba i 160 218)),(cx,Obj.cells (madeCells #[.N] N) (ba i 57 133)),(e,Obj.cells #[.iface jt eS] (ba i 113 184)),(f,Obj.cells #[.I (W:Int),.I (ab:Int)] 52)],x∈bs)/\Y.g=Conc.G ((base (ba i 28 48)).at ⟨#[j,cK,Z,.P e 0,o,r,.P d 0,.P wg 0,V,U,P,O,L,I,.I (W:Int),.I (0:Int),R,H,F,E,iP,B,Q,A,z],[]⟩ [.code ((bM.dA ((ba i f28 f48).body.getD .skip)).getD .skip),.inLoop ((bM.dA ((ba i f28 f48).body.getD .skip)).getD .skip),.inBlock 0,.code ((bM.ed 8 ((ba i f28 f48).body.getD .skip)).getD .skip)]) (aY.at aF (.R az (aI::aK)::aG)::csZ)/\∀b,b8 aD bs b->Y.mine b) (N:=N) (W:=W) dP a5 AY AY hinv (λbs=>tP _ bs (λm l g w M M' uR h=>by obtain⟨st,cx,d,f,e,wg,bs,j,cK,Z,o,r,V,U,P,O,L,I,R,H,F,E,iP,B,Q,A,z,hk,b6,hg,da⟩:=h;exact⟨st,cx,d,f,e,wg,bs,j,cK,Z,o,r,V,U,P,O,L,I,R,H,F,E,iP,B,Q,A,z,hk,b6,hg,λb hb=>uR b (da b hb)⟩)) (λst cx d f e wg bs w' j cK Z o r V U P O L I R H F E iP B Q A z hk b6 _=>.stop ⟨st,cx,d,f,e,wg,bs,j,cK,Z,o,r,V,U,P,O,L,I,R,H,F,E,iP,B,Q,A,z,hk,b6,rfl,λ_ h=>h⟩) w j0) rfl (λb hb=>cX b (by simp_all[fV])) (λb hb=>eJ b (by simp_all[fV])) (λY ia hl=>.stop (λk=>?_)));obtain⟨st,cx,d,f,e,wg,bs,j,cK,Z,o,r,V,U,P,O,L,I,R,H,F,E,iP,B,Q,A,z,hk,b6,hg,da⟩:=ia;rw[hg];have HN:=hk.bI _ (b6 (wg,Obj.cells #[.int .u64 0,.int .u32 0] 126) Ab);have eu:=hk.bI _ (b6 (d,Obj.cells #[.P st 0] (ba i 114 185)) Ab);have hst:=hk.bI _ (b6 (st,Obj.cells #[.int .i32 0,.int .u32 0,.I (S:Int),.I (ab:Int),.I 0,.I 0,.S cx 0 N N,.N] (ba i 160 218)) Ab);have wx:=hk.bI _ (b6 (cx,Obj.cells (madeCells #[.N] N) (ba i 57 133)) Ab);have Bz:=hk.bI _ (b6 (e,Obj.cells #[.iface jt eS] (ba i 113 184)) Ab);have cE:=hk.bI _ (b6 (f,Obj.cells #[.I (W:Int),.I (ab:Int)] 52) Ab);have hne:∀{a b:Nat}{x y:dC}{s t:uaa},Y.w.heap[a]?=some (.cells x s)->Y.w.heap[b]?=some (.cells y t)->s≠t->a≠b:=by grind
 have kn:∀x∈[(wg,Obj.cells #[.int .u64 0,.int .u32 0] 126),(d,Obj.cells #[.P st 0] (ba i 114 185)),(st,Obj.cells #[.int .i32 0,.int .u32 0,.I (S:Int),.I (ab:Int),.I 0,.I 0,.S cx 0 N N,.N] (ba i 160 218)),(cx,Obj.cells (madeCells #[.N] N) (ba i 57 133)),(e,Obj.cells #[.iface jt eS] (ba i 113 184)),(f,Obj.cells #[.I (W:Int),.I (ab:Int)] 52)],¬aD x.1/\w.heap.size<=x.1/\x.1<Y.w.heap.size:=by
  intro x hx;have h1:x.1∈bs.map (·.1):=vbz.2 ⟨x,b6 x hx,rfl⟩;have h2:¬aD x.1:=λh=>hk.r7 x.1 h1 (.inr h);have h3:Y.mine x.1:=da _ (.inr h1);rcases hl.new x.1 h3 with h|h
  .simp_all[fV]
  grind
 have aBu:=kn (wg,Obj.cells #[.int .u64 0,.int .u32 0] 126) Ab;have aBv:=kn (d,Obj.cells #[.P st 0] (ba i 114 185)) Ab;have I5:=kn (st,Obj.cells #[.int .i32 0,.int .u32 0,.I (S:Int),.I (ab:Int),.I 0,.I 0,.S cx 0 N N,.N] (ba i 160 218)) Ab;have aBw:=kn (cx,Obj.cells (madeCells #[.N] N) (ba i 57 133)) Ab;have aBx:=kn (e,Obj.cells #[.iface jt eS] (ba i 113 184)) Ab;have aBy:=kn (f,Obj.cells #[.I (W:Int),.I (ab:Int)] 52) Ab;have ao3:∀b,aD b->Y.w.heap[b]?=w.heap[b]?:=λb hb=>hk.rw.heap b (.inr hb);have hsz:w.heap.size<=Y.w.heap.size:=hk.rw.size;have ao4:∀b,(aD b\/b=d\/b=e\/b=f)->b≠st/\b≠wg/\b≠cx:=by cases i<;>dsimp only[ba]at * <;>grind
 let c:db:={st:=st,cx:=cx,wg:=wg,LD:=(ba i 160 218),BN:=(ba i 57 133),tWg:=126,N:=N,rows:=(λT=>if T<N then rows T else n),size:=.I (S:Int),zX:=.I (ab:Int),xN:=.S cx 0 N N,least:=.N,bad:=bad,place:=place,K:=(λb=>aD b\/b=d\/b=e\/b=f),most:=n+W,C:=31,eK:=⟨hne hst HN (by cases i<;>decide),hne hst wx (by cases i<;>decide),hne HN wx (by cases i<;>decide)⟩,uz:=ao4}
 have j2:Aw i c aD S ab N n W rows bad place d e f:=⟨rfl,rfl,rfl,λT h=>vdi h,λb=>Iff.rfl,rfl,rfl,rfl,rfl,rfl,rfl,rfl⟩;have Sa:N<=S+ab:=by rw[a5];exact vac (Nat.div_le_self _ _) AY
 have hmul:(N+1)*ab<=2000*64:=Nat.mul_le_mul AY hm;have ok:tO c S ab N:=⟨rfl,rfl,rfl,(by
  show iY c.rows N<=300;rw[LB (g:=rows) (λp hp=>vdi hp)];grind),AN,AN,AN⟩
 have J:=λStop=>wT c Y.w Stop d e f j2 ⟨ao3,hsz⟩;have ME:∀b,c.K b\/(ak (ar c)).g7 b->b<Y.w.heap.size/\∀l,eT l=some b->¬Shun l:=by
  rintro b ((h|rfl|rfl|rfl)|(h|h|h))
  .exact⟨van (cX b h) hsz,eJ b (.inl h)⟩
  .grind
  .grind
  .grind
  .grind
  .grind
  grind
 refine an5 (c:=c) (cq:=cq c) (J (λ_ _ _=>True)).mono (n:=n) (l3:=λg'=>∃(j cK Z o r V U P O L I R H F E B Q A z:Value),g'=Conc.G ((base (ba i 28 48)).at ⟨#[j,cK,Z,.P e 0,o,r,.P d 0,.P c.wg 0,V,U,P,O,L,I,.I (W:Int),.I (W:Int),R,H,F,E,.tuple #[],B,Q,A,z],[]⟩ [.R (bM.pI ((bM.ed 8 ((ba i f28 f48).body.getD .skip)).getD .skip)) [],.code (bM.lY ((bM.ed 8 ((ba i f28 f48).body.getD .skip)).getD .skip))]) (aY.at aF (.R az (aI::aK)::aG)::csZ)) (w:=Y.w.at k) (w0:=Y.w.at k) (M:=λ_=>False) (Shun:=Shun) (f0:=23*W+4+0) (v:=0) (b0:=⟨0,false,0,0,0,List.replicate N (.N),none⟩) rfl (vcy (Nat.lt_irrefl _)).symm (vdp _ _) ⟨rfl,rfl,rfl,rfl,rfl,by simp;rfl⟩ ⟨?_,?_,λ_=>?_⟩ (λb h=>h.elim) (λb hb=>ME b (hb.resolve_left I3)) (λk'=>?_) (λg' s5 n' a9 M' D w' bx=>?_)
 .show Y.w.heap[st]?=some (gE (ar c) ⟨false,false,false,0,0,0⟩ ⟨0,false,0,0,0,List.replicate N (.N),none⟩);rw[hst];simp[gE,bh.word,c]
 .show Y.w.heap[wg]?=some (se c ⟨0,false,0,0,0,List.replicate N (.N),none⟩);rw[HN];simp[se,c]
 .show Y.w.heap[cx]?=_;rw[wx,ao0];rfl
 .refine aoY (c:=c) (bO:=Y.w) (w0:=Y.w.at k) (M:=λ_=>False) i ok (λh T=>i8 h T) rfl (aoX (J (λ_ _ _=>True)).mono) (J _) (λq M f' g w jY hq=>.inr ⟨q,f',rfl,hq,jY⟩) (fw:=0) (W:=W) (cs:=aY.at aF (.R az (aI::aK)::aG)::csZ) (.inr Ij) (.inr (.inr Ij)) ⟨jt,eS,rfl⟩ AY ⟨λb hb=>rfl,vad _⟩ AN eu Bz (λj cK Z o r V U P O L I R H F E iP B Q A z g w' hr ha=>?_) W 0 j cK Z o r V U P O L I R H F E iP B Q A z ((Y.w.at k).at k') _ AY kg ?_
  .obtain⟨g1,h1,h2⟩:=ha;exact⟨⟨rfl,rfl,rfl⟩,⟨g1,h1,_,⟨j,cK,Z,o,r,V,U,P,O,L,I,R,H,F,E,B,Q,A,z,rfl⟩,h2⟩,hr,λb h=>h.elim⟩
  .exact⟨⟨λ_ _=>rfl,vad _,.refl _,rfl,rfl⟩,Ab,λb hb=>(ME b AN).1,λb hb=>by
    rcases hb with h|h|h
    .grind
    .grind
    .simp at h,by simp,by simp,λ_ h=>h.elim⟩
 .obtain⟨j,cK,Z,o,r,V,U,P,O,L,I,R,H,F,E,B,Q,A,z,rfl⟩:=s5;exact Sc c (Y.w.at k) d e f j cK Z o r V U P O L I R H F E B Q A z n' a9 M' D w' j2 ⟨hk.rw.heap,hk.rw.size,hk.rw.later,hk.rw.output,hk.rw.tape⟩ eu bx
end
section
section
variable{Post:fE}
variable{aY:Frame}{aF:Act}{az:eQ}{aI:Nat}{aK:uag}{aG:uab}{csZ:fA}
def MD(i:Bool){n:Nat}{Shun:uan}{S ab N W:Nat}{rows:uas}(F:0<ab)(z:ab<=64)(y:0<W)(A:W<=16)(B:S<=1000)(a5:N=(S+ab-1) / ab)(hn:n+W<=250)(lB:iY rows N<=300){jt:uaa}{r s:Value}{t iM:ual}{aD:c5}{w:aH}{lR cq:db->Nat->Value->(Nat->Prop)->aH->Prop}(H:∀b,aD b->b<w.heap.size)(E:∀b,aD b\/w.heap.size<=b->∀l,eT l=some b->¬Shun l)(hinv:∀w,(callMethod (.iface jt r) "Size" #[]).run prog w=.ok (.enter t (#[s]++#[])) w/\(callMethod (.iface jt r) "Size" #[]).events prog w #[]=#[])(tP:∀(ST:Bool->en.Lo->aV->Prop) bs,(∀m l g w M M',(∀b,M b->M' b)->ST m l ⟨g,w,M⟩->ST m l ⟨g,w,M'⟩)->io prog ST true t (#[s]++#[]) (iC en () aD w bs) (λu I=>u=.I (S:Int)/\I=iC en () aD w bs))(v:∀c bO Stop d o p,Aw i c aD S ab N n W rows (λ_=>false) (λ_=>undef) d o p->((∀b,aD b->bO.heap[b]?=w.heap[b]?)/\w.heap.size<=bO.heap.size)->q8 c bO prog Stop (ba i 103 124) (.iface jt r) iM s (λT=>T*ab) (λT=>min (T*ab+ab) S) (lR c) (cq c)){V:Value->aH->Nat->(Loc->Prop)->Prop}(Q:∀u w n Shun k,V u w n Shun->V u (w.at k) n Shun)(O:∀c bO d o p f e M' D w' st,Aw i c aD S ab N n W rows (λ_=>false) (λ_=>undef) d o p->ai en aD w bO->FZ c (cq c) (λ_=>False) bO f e M' D w'->st=c.st->
  MG e (ca prog Post f e) (ba i 83 110) #[.S c.cx 0 N N] (w'.setCell ⟨st,0,none⟩ (.int .i32 1)) (λu w2=>V u (w2.setCell ⟨st,0,none⟩ (.int .i32 0)) f e/\(∃a n c,u=.slice a n c)/\w2.heap[st]?=(w'.setCell ⟨st,0,none⟩ (.int .i32 1)).heap[st]?/\w'.heap.size<=w2.heap.size))(hk:∀u w' f e,V u w' f e->ca prog Post f e 0 (Conc.G (aY.at (aF.put ((az[aI]?).bind (·.dst)) (.tuple #[u,.N])) (.R az aK::aG)) csZ) w'):
 ca prog Post n Shun 0 (Conc.G (Frame.enter prog (ba i 28 48) #[.agg #[.I (W:Int),.I (ab:Int)],.iface jt r] .normal) (aY.at aF (.R az (aI::aK)::aG)::csZ)) w:=by
 refine MH i F z y A B a5 hn lB (λ_ _=>rfl) H E hinv tP v (λc bO d o p R cK c_ U X e9 e_ fa fb fc fd fD fm fo fp fq f_ Z Y f e M' D w' h hI C j=>?_);obtain⟨T,m,L,hst,J,-⟩:=j.st;obtain rfl:L=none:=by cases L with|none=>rfl|some q=>have:=(J q rfl).1;rw[h.ji]at this;cases this
 simp only[Option.elim]at hst;rw[h.tP,h.ao1,h.ao2,h.MJ,h.MI]at hst;have P:c.K d:=(h.hK d).2 AN;have K:w'.heap[d]?=some (.cells #[.P c.st 0] (ba i 114 185)):=(j.stands d (.inl P)).trans C;have x:=O c bO d o p f e M' D w' c.st h hI j rfl;exact wo (anS i hst K AN AN j.ZM j.ZN.1 (j.qE d (.inl (j.sub d AN)) _ rfl) (V:=λu w2=>V u (w2.setCell ⟨c.st,0,none⟩ (.int .i32 0)) f e) x (λu w2 hv=>.stop AN))
end
end
end lE
namespace bB
open Conc ConcM RowKit av bn ae ej fY eW gH cW lE dv
def ao9:wz Ml:=by rintro ρ w w' rd e x b a ⟨v,h0,c⟩;obtain⟨v',d,b0⟩:=a 0 _ h0;exact⟨v',d,av.bw.carry Ai b b0 c⟩
def ao_:pg Ml:=λ_ _ _ _ _ hk a⟨v,h0,b⟩=>⟨v,a _ _ h0,b.mono ya hk⟩
def Ja{D D':c5}(h:∀b,D b->D' b):Ren.le (c8 D bE) (c8 D' bE):=⟨λ_ b k=>⟨k.1,h b k.2⟩,λ_ k=>k.elim⟩
structure Jb(M aD:c5)(w:aH)(most:Nat)(rs:List dg)(u:Value)(w':aH)(n':Nat)(a9:uan)(co:c5):Prop where
 n:n'<=most
 sub:∀b,M b->co b
 new:∀b,co b->M b\/¬aD b
 cl:eA (cm prog false) co bE w'
 val:ap (c8 co bE) u u
 rows:jl w' u rs
 cap:tK rs.length u
 same:∀b,aD b->w'.heap[b]?=w.heap[b]?
 sh:∀b,co b\/aD b\/w'.heap.size<=b->∀l,eT l=some b->¬a9 l
 size:w.heap.size<=w'.heap.size
 later:OsLater w.os w'.os
 output:w'.output=w.output
 tape:w'.tape=w.tape
theorem Jb.at{M aD:c5}{w:aH}{most:Nat}{rs:List dg}{u:Value}{w':aH}{a:Nat}{c:uan}{b:c5}(h:Jb M aD w most rs u w' a c b)(k:Nat):Jb M aD w most rs u (w'.at k) a c b:=
 ⟨h.n,h.sub,h.new,h.cl,h.val,bw.mono ya (λ_ _ _ x=>x) h.rows,h.cap,h.same,h.sh,h.size,h.later,h.output,h.tape⟩
def apa:fG prog false f83=true:=by decide+kernel
def apb{S ab N n W:Nat}{rows:uas}{M aD:c5}{w:aH}(uR:∀b,M b->aD b)(hg:∀g,g<=prog.globals.size->M g)(bP:eA (cm prog false) M bE w)(ps:List (List dg))(a5:N=ps.length)(Cb:ps.length<=1000)(II:∀k,jF ps k<=1000){cq:uae}{c:db}{bO:aH}{bW dh b2 P:Nat}{J:uan}{M':c5}{D:uam}{w':aH}(z8:∀T v N w,cq T v N w->lS (cm prog false) M c.K (λw v=>∃h:T<ps.length,jl w v ps[T]) v N w)(q:Aw false c aD S ab N n W rows (λ_=>false) (λ_=>undef) bW dh b2)(hI:ai en aD w bO)(f:FZ c cq (λ_=>False) bO P J M' D w'){Stop:uax}{st:Nat}(hst:st=c.st):
 MG J Stop 83 #[.S c.cx 0 N N] (w'.setCell ⟨st,0,none⟩ (.int .i32 1))
  (λu w2=>(∃co,Jb M aD w (n+W) (kQ ps ps.length) u (w2.setCell ⟨st,0,none⟩ (.int .i32 0)) P J co)/\(∃a n c,u=.slice a n c)/\w2.heap[st]?=(w'.setCell ⟨st,0,none⟩ (.int .i32 1)).heap[st]?/\w'.heap.size<=w2.heap.size):=by
 subst hst;subst a5;have E:c.N=ps.length:=q.a5;have FR:c.st<w'.heap.size:=f.low _ Io;have L:(w'.setCell ⟨c.st,0,none⟩ (.int .i32 1)).heap.size=w'.heap.size:=ae.k6 _ _ _;have Q:∀b,M' b->(w'.setCell ⟨c.st,0,none⟩ (.int .i32 1)).heap[b]?=w'.heap[b]?:=λb d=>k5 w' _ _ (λe=>f.I5 AN);have K:(w'.setCell ⟨c.st,0,none⟩ (.int .i32 1)).os=w'.os/\(w'.setCell ⟨c.st,0,none⟩ (.int .i32 1)).output=w'.output/\(w'.setCell ⟨c.st,0,none⟩ (.int .i32 1)).tape=w'.tape:=⟨rfl,rfl,rfl⟩;generalize nd:w'.setCell ⟨c.st,0,none⟩ (.int .i32 1)=w1 at *;have apc:∀b,aD b->M' b:=λb d=>f.sub b (.inr (.inl ((q.hK b).2 (.inl d))));have apd:∀b,aD b->w'.heap[b]?=w.heap[b]?:=λb d=>(f.stands b (.inl ((q.hK b).2 (.inl d)))).trans (hI.heap b (.inr d));obtain⟨nz,Sv,-,qj⟩:=f.BV;have m:∀p:Nat,∃(v:Value)(G:c5),p<ps.length->D[p]?=some v/\(∀b,G b->M' b/\¬c.K b)/\eA (cm prog false) (λb=>M b\/G b) bE w'/\ap (c8 (λb=>M b\/G b) bE) v v/\∃h:p<ps.length,jl w' v ps[p]:=by
  intro p;by_cases j:p<ps.length
  .obtain⟨v,z,r⟩:=qj p (E▸j) (by rw[q.ji]);have MA:=λb=>Sv p b (E▸j);obtain⟨G,g1,g2,jb,rn⟩:=z8 _ _ _ _ r;exact⟨v,G,AN⟩
  .exact⟨.F,bE,AN⟩
 obtain⟨vs,m⟩:=vbj.1 m;obtain⟨G,m⟩:=vbj.1 m;let s:Nat->Prop:=λb=>M b\/b=c.cx\/∃p,p<ps.length/\G p b
 have F:∀b,s b->M' b:=by
  rintro b (h|h|⟨p,j,h⟩)
  .grind
  .exact f.sub b (.inr (.inr h))
  grind
 have Dx:∀p,p<ps.length->∀b,M b\/G p b->s b:=by grind
 have Jc:eA (cm prog false) s bE w1:=by
  intro b d;rw[Q b (F b d)];rcases d with h|h|⟨p,j,h⟩
  .obtain⟨o,z,r⟩:=bP b h;exact⟨o,AN,r.imp (g3.mono (Ja AN)) id⟩
  .subst h;refine⟨_,f.done,.inl (.cells _ (kO λv hv=>?_) AN)⟩;obtain⟨p,j,rfl⟩:=List.getElem_of_mem hv;have O:p<ps.length:=by rw[<-E,<-f.len];exact j
   have:=m p O;rw[vas j]at this;have e:=vbq this.1;rw[e];exact this.2.2.2.1.mono (Ja (Dx p O))
  .obtain⟨o,z,r⟩:=(m p j).2.2.1 b (.inr h);exact⟨o,z,r.imp (g3.mono (Ja (Dx p j))) id⟩
 have V:aL (c8 s bE) #[Value.slice (some (.a c.cx 0)) ps.length ps.length] #[Value.slice (some (.a c.cx 0)) ps.length ps.length]:=.one (.slice _ _ ⟨⟨rfl,.inr Ij⟩,rfl,rfl⟩);have Sw:bw w1 1 Ml (.S c.cx 0 ps.length ps.length) ps:=by
  refine⟨_,_,rfl,AY,λi hi=>⟨c.cx,0,rfl,vs i,?_,?_⟩⟩
  .have z:=(m i hi).1;have r:w1.heap[c.cx]?=some (.cells D.toArray c.BN):=(Q _ AN).trans f.done;simp_all[World.cell?]
  .obtain⟨z,r,h3,h4,a6,b6⟩:=m i hi;exact av.bw.carry Ai (py AN h3) h4 b6
 obtain⟨I,X⟩:=EI (cm prog false) s bE w1;intro FL A Dl FM FN t FO hk;have Sx:∀T,Calls (aa prog false) 83 #[Value.slice (some (.a c.cx 0)) ps.length ps.length] {I with tape:=T} (λe B=>∃v,e=.returned v/\jl B v (kQ ps ps.length)/\tK (jF ps ps.length) v):=λT=>
  (al3 ps _ {I with tape:=T} (bw.mono ao_ (Ak I T) (av.bw.carry ao9 (X.carry Jc) (V.get 0 _ _ rfl rfl) Sw)) Cb II).mono AN
 have qZ:=Qd jQ func83 apa rfl AT Jc AN AN V (R:=λv B=>jl B v (kQ ps ps.length)/\tK (jF ps ps.length) v) X Sx true (FL.at A (.R Dl (FM::FN)::t)) FO;refine Ln qZ rfl (λb d=>?_) (λb d=>?_) ?_
 .rcases d with h|h
  .rw[L];exact f.low b AN
  .exact h.elim
 .rcases d with h|h|h
  .exact f.qE b AN
  .exact h.elim
  .exact f.qE b AN
 rintro Y ⟨ρ,B,v,v',l⟩ y;rw[l.g,vcc];obtain⟨ape,U⟩:=l.world;have kn:∀b,Y.mine b->w1.heap.size<=b/\b<Y.w.heap.size:=λb d=>(y.new b d).resolve_left λh=>h.elim;have C:∀b,(∃a,ρ.rel a b)->s b\/w1.heap.size<=b:=by
  rintro b ⟨a,H⟩;rcases l.dom a b H with h|h
  .grind
  grind
 have Mo:∀b,b<w1.heap.size->Y.w.heap[b]?=w1.heap[b]?:=λb d=>y.kept b d λh=>h.elim;have apf:¬ ∃a,ρ.rel a c.st:=λh=>by
  rcases C _ h with h|h
  .exact f.I5 (F _ h)
  .omega
 have F6:∀b,(∃a,ρ.rel a b)->(Y.w.setCell ⟨c.st,0,none⟩ (.int .i32 0)).heap[b]?=Y.w.heap[b]?:=λb d=>k5 _ _ _ AN;have Z:=U.closed bE;have F7:ap (c8 (λb=>∃a,ρ.rel a b) bE) v' v':=ap.right (σ:=c8 (λb=>∃a,ρ.rel a b) bE) (λa b H=>⟨rfl,a,H⟩) l.val;have ge:jl Y.w v' (kQ ps ps.length):=av.bw.carry Ai U.carry l.val l.post.1;have Sy:w'.heap.size<=Y.w.heap.size:=AN;have apg:w.heap.size<=w'.heap.size:=vac hI.size f.size;have aph:(Y.w.setCell ⟨c.st,0,none⟩ (.int .i32 0)).heap.size=Y.w.heap.size:=ae.k6 _ _ _;refine hk v' Y.w ⟨⟨λb=>∃a,ρ.rel a b,⟨?_,λb d=>⟨b,l.le.1 b b ⟨rfl,.inl d⟩⟩,λb d=>?_,mS Z F6,F7,av.bw.carry Ai (py F6 Z) F7 ge,l.post.2.carry l.val,λb d=>?_,λb d=>?_,?_,?_,?_,?_⟩⟩,?_,?_,Sy⟩
 .rw[<-q.eR];exact f.n
 .rcases C b d with h|h
  .rcases h with h|h|⟨p,j,h⟩
   .grind
   .exact .inr λx=>(c.uz b ((q.hK b).2 (.inl x))).2.2 h
   .exact .inr λx=>((m p j).2.1 b h).2 ((q.hK b).2 (.inl x))
  .exact .inr λx=>by have:=f.low b AN;omega
 .have hlt:b<w1.heap.size:=by rw[L];exact f.low b AN
  have hne:b≠c.st:=(c.uz b ((q.hK b).2 (.inl d))).1;grind[k5]
 .rcases d with h|h|h
  .rcases C b h with h|h
   .exact f.qE b (.inl (F b h))
   .exact f.qE b AN
  .exact f.qE b AN
  .exact f.qE b AN
 .omega
 .exact(hI.later.trans f.os).trans (by have:=y.os;rw[show(Y.w.setCell ⟨c.st,0,none⟩ (.int .i32 0)).os=Y.w.os from rfl,<-K.1];grind)
 .exact(show Y.w.output=_ from y.output).trans (K.2.1.trans (f.output.trans hI.output))
 .exact(show Y.w.tape=_ from y.tape).trans (K.2.2.trans (f.tape.trans hI.tape))
 .obtain⟨a,cap,e,_⟩:=l.post.2.carry l.val;grind
 grind
end bB
namespace bj
open Conc ConcM RowKit av bn ae ej fY eW gH cW lE dv bB
section
variable{O:gp}
def l5:(cJ prog).Good:=Wr true AT AT
def Ax{C C':cy}{D M M':c5}{w:aH}(h:eA C D M w):eA C' D M' w:=by
 intro b j;obtain⟨o,m,d⟩:=h b j;have f:∀a b,(c8 D M).rel a b->(c8 D M').rel b b:=λa b k=>⟨U,k.2⟩;refine⟨o,m,?_⟩;rcases d with d|d
 .cases o with
  |cells c e fr=>cases d with|cells _ i _=>exact .inl (.cells e (i.right f) AN)
  |map es k=>cases d with|map _ g=>exact .inl (.map k (g.right λa b x=>⟨x.key.right f,x.val.right f,U⟩))
  |number a l=>cases d with|number hn _=>exact .inl (.number (hn.right f) l)
  |coro x=>cases d with|shut h=>grind
  | _=>first|exact .inr trivial|(cases d)
 grind
theorem y2{D M M':c5}{v:Value}(h:ap (c8 D M) v v):ap (c8 D M') v v:=ap.right (ρ:=c8 D M) (σ:=c8 D M') (λ_ _ k=>⟨U,k.2⟩) h
def cut{ao:Type}(g:Nat->ao)(fr a7:Nat):List ao:=(List.range (a7-fr)).map λk=>g (fr+k)
def Sz{ao:Type}(g:Nat->ao)(fr a7:Nat):(cut g fr a7).length=a7-fr:=by simp[cut]
def apj{ao:Type}(g:Nat->ao){a b c:Nat}(e:a<=b)(d:b<=c):cut g a b++cut g b c=cut g a c:=by
 apply List.ext_getElem
 .simp[Sz];omega
 grind[cut]
structure j6(g:Nat->Nat->List dg):Prop where
 none:∀a b,b<=a->g a b=[]
 app:∀{a b c},a<=b->b<=c->g a b++g b c=g a c
 le:∀a b,(g a b).length<=b-a
def Mn(f:Nat->dg):j6 (cut f):=⟨λa b h=>List.eq_nil_of_length_eq_zero (by rw[Sz];omega),apj f,λa b=>by rw[Sz];omega⟩
def pieces(g:Nat->Nat->List dg)(ab S N:Nat):List (List dg):=(List.range N).map λT=>g (T*ab) (min (T*ab+ab) S)
def Dy(g:Nat->Nat->List dg)(ab S N:Nat):(pieces g ab S N).length=N:=by simp[pieces]
theorem Md(g:Nat->Nat->List dg)(ab S N T:Nat)(h:T<(pieces g ab S N).length):(pieces g ab S N)[T]=g (T*ab) (min (T*ab+ab) S):=by simp[pieces]
def Ma{g:Nat->Nat->List dg}(hg:j6 g)(ab S k:Nat):g 0 (min (k*ab) S)++g (k*ab) (min (k*ab+ab) S)=g 0 (min ((k+1)*ab) S):=by
 rw[Nat.succ_mul];rcases Nat.lt_or_ge (k*ab) S with x|x
 .rw[Nat.min_eq_left (Nat.le_of_lt x),hg.app (vaz _) AY]
 .rw[hg.none (k*ab) _ AY,Nat.min_eq_right x,Nat.min_eq_right AY,List.append_nil]
theorem MV{g:Nat->Nat->List dg}(hg:j6 g){ab S N:Nat}:∀k,k<=N->kQ (pieces g ab S N) k=g 0 (min (k*ab) S)
 |0,_=>by simp[kQ,hg.none 0 0]
 |k+1,h=>by rw[Mm (by rw[Dy];omega),MV hg k AY,Md,Ma hg]
def MW{ab S:Nat}(b:0<ab):S<=(S+ab-1) / ab*ab/\∀T,T<(S+ab-1) / ab->T*ab<S:=by
 have h:=Nat.div_add_mod (S+ab-1) ab;have d:=Nat.mod_lt (S+ab-1) b;have c:(S+ab-1) / ab*ab=ab*((S+ab-1) / ab):=Nat.mul_comm _ _;constructor
 .omega
 .intro T a;have:(T+1)*ab<=(S+ab-1) / ab*ab:=Nat.mul_le_mul_right _ a;grind
theorem L6{g:Nat->Nat->List dg}(hg:j6 g){ab S:Nat}:∀N,ej.iY (λT=>(g (T*ab) (min (T*ab+ab) S)).length) N=(g 0 (min (N*ab) S)).length
 |0=>by simp[ej.iY,hg.none 0 0]
 |N+1=>by rw[ej.iY,L6 hg N,<-List.length_append,Ma hg]
def SA(M:c5)(w:aH)(rs:List dg)(u:Value)(_:c5)(w':aH):Prop:=
 ∃v,u=.tuple #[v,.N]/\jl w' v rs/\tK rs.length v/\∀b,M b->w'.heap[b]?=w.heap[b]?
section
variable{Post:fE}{M:c5}{w:aH}
def L1{g:Nat->Nat->List dg}(hg:j6 g){ab S N W:Nat}(q:0<ab)(F:ab<=64)(C:0<W)(H:W<=16)(hS:S<=300)(a5:N=(S+ab-1) / ab){jt:uaa}{o p:Value}{z iM:ual}{lR:db->Nat->Value->(Nat->Prop)->aH->Prop}(hinv:∀w,(callMethod (.iface jt o) "Size" #[]).run prog w=.ok (.enter z (#[p]++#[])) w/\(callMethod (.iface jt o) "Size" #[]).events prog w #[]=#[])(t:∀g,g<=prog.globals.size->M g)(X:eA (cm prog false) M bE w)(tP:∀(ST:Bool->en.Lo->aV->Prop) bs,(∀m l g w M M',(∀b,M b->M' b)->ST m l ⟨g,w,M⟩->ST m l ⟨g,w,M'⟩)->io prog ST true z (#[p]++#[]) (iC en () (λb=>M b\/b<O.n) w bs) (λu R=>u=.I (S:Int)/\R=iC en () (λb=>M b\/b<O.n) w bs))(A:∀c bO Stop,(∀b,M b->c.K b)->c.N=N->(∀T,T<N->c.rows T=(g (T*ab) (min (T*ab+ab) S)).length)->(∀T,c.bad T=false)->(∀b,M b->bO.heap[b]?=w.heap[b]?)->q8 c bO prog Stop 103 (.iface jt o) iM p (λT=>T*ab) (λT=>min (T*ab+ab) S) (lR c) (λT v M' w=>lS (cm prog false) M c.K (λw v=>T<c.N/\jl w v (g (T*ab) (min (T*ab+ab) S))) v M' w)):
 eb O prog Post 28 #[.agg #[.I (W:Int),.I (ab:Int)],.iface jt o] M w 1 (SA M w (g 0 S)):=by
 intro n Shun hn d eC aF az aI aK aG csZ hc P;obtain⟨L,r⟩:=MW (S:=S) q;rw[<-a5]at L r;have LV:N<=S:=by
  have:∀k,k<=N->k<=S:=by intro k hk;cases k with|zero=>grind|succ k=>have:=r k hk;have h2:=Nat.le_mul_of_pos_right k q;omega
  grind
 refine MD false (rows:=λT=>(g (T*ab) (min (T*ab+ab) S)).length) (aD:=λb=>M b\/b<O.n) (cq:=λc T v M' w=>lS (cm prog false) M c.K (λw v=>T<c.N/\jl w v (g (T*ab) (min (T*ab+ab) S))) v M' w) q F C H AY a5 AY (by rw[L6 hg];have:=hg.le 0 (min (N*ab) S);omega) (λb a=>a.elim d.lt λx=>van x d.ob) (λb a=>a.elim (λx=>x.elim (λy=>d.sh b (.inl y)) (d.so b)) λx=>d.sh b (.inr x)) hinv tP
  (λc bO Stop U K Y e hI=>A c bO Stop (λb a=>(e.hK b).2 (.inl (.inl a))) e.a5 e.lB (λT=>by rw[e.ji]) AN)
  (V:=λu w' f i=>∃j,Jb M (λb=>M b\/b<O.n) w (n+W) (g 0 S) u w' f i j) (λu w' f i k h=>by obtain⟨j,h⟩:=h;exact⟨j,h.at k⟩) (λc bO U K Y f i M' D w' st e hI Q hst=>?_) (λu w' f i hv=>?_)
 .have Cb:kQ (pieces g ab S N) (pieces g ab S N).length=g 0 S:=by simp_all[Dy,MV]
  have:=apb (Stop:=ca prog Post f i) AN t X (pieces g ab S N) (Dy g ab S N).symm (by rw[Dy];omega) (λk=>?_) (λT v M w h=>?_) e hI Q hst
  .grind
  .by_cases hk:k<=N
   .unfold jF;rw[MV hg k hk];have:=hg.le 0 (min (k*ab) S);omega
   .unfold jF kQ;rw[vcp (by rw[Dy];omega)];have:(pieces g ab S N).flatten=kQ (pieces g ab S N) N:=by simp_all[kQ,vcp,Dy]
    rw[this,MV hg N IB];have:=hg.le 0 (min (N*ab) S);omega
  .obtain⟨G,g1,J,E,B,Z⟩:=h;have I:T<(pieces g ab S N).length:=by rw[Dy,<-e.a5];exact B
   exact⟨G,g1,J,E,I,by grind[Md]⟩
 .obtain⟨j,h⟩:=hv;refine P (.tuple #[u,.N]) j w' f i (by have:=h.n;omega) ⟨Ax h.cl,λg hg=>h.sub g (t g hg),λb a=>h.sh b (a.imp id .inr),λb a h0=>(h.new b a).elim (λx=>d.new b x h0) AN,vac d.ob h.size,λb h0 a=>(h.same b (.inr a)).trans (d.old b h0 a),λb a=>h.sh b AN⟩ h.sub (.A2 (kO λx s=>?_)) ⟨h.size,h.later,h.output,h.tape⟩ ⟨u,rfl,h.rows,h.cap,λb a=>h.same b (.inl a)⟩;simp at s;rcases s with rfl|rfl
  .exact y2 h.val
  .exact .h7 _ _
def apk{t:List bQ}{v:Value}(p:eA (cJ prog) M (gT M) w)(d:∀g,g<=prog.globals.size->M g)(hv:nV w v t)(hrel:ap (bU M) v v)(h0:0<t.length)(a:t.length<=1000000){ab S W:Nat}(f:0<ab)(l:ab<=64)(k:0<W)(m:W<=16)(n:S<=300)(r:t[0].j_.length=S)(y:∀i,i<S->∀c∈t,Ag i c):
 eb O prog Post 28 #[.agg #[.I (W:Int),.I (ab:Int)],.iface 103 (.agg #[v])] M w 1 (SA M w (qt t 0 S)):=by
 have j:eA (cm prog false) M bE w:=Ax p;have q:(λb=>M b\/bE b)=M:=by
  funext b
  exact propext ⟨λh=>h.resolve_right λx=>x,.inl⟩
 refine L1 (iM:=197) (lR:=λc T u M' w=>lS (cm prog false) M c.K (wO t (T*ab) (min (T*ab+ab) S)) u M' w) (g:=qt t) (Mn λi=>([((i:Nat):Int)],t.map (mz · i))) f l k m n U (amn v) d j (λST bs s=>?_) (λc bO Stop hK a5 lB o hI=>?_)
 .grind[amk,y2]
 .refine alY (v:=v) (t:=t) (a2:=M) hK d (by grind[mS]) (av.bw.carry wA (py hI j) (y2 hrel) hv) (by grind[y2]) (λargs w=>amm v args w) a (λT e=>?_) (λT e=>by grind[Mk]) o;have:=(MW (S:=S) f).2 T (a5▸e);grind
end
end
end bj
namespace bj
open Conc ConcM RowKit av bn cW dv bB cv iD
structure Rd(ao:Type) where
 R:aH->(Nat->Option Value)->ao->Prop
 mono:pg R
 gX:wz R
def kw:Rd Int:=⟨q9,z6,BT⟩
def y4:Rd Bool:=⟨BR,Qn,LS⟩
def tQ:Rd bQ:=⟨E9,q_,wA⟩
section
variable{ao:Type}(sz:Nat)(r:Rd ao)(xs:List ao)(x:ao)
def cP:bg:=⟨λw v=>bw w sz r.R v xs,λ_ _ _ hb h=>h.mono r.mono (bm.b4 hb),λ_=>True,λ_ _ _ _ _ _ _ hc hv h=>av.bw.carry r.gX hc.cells hv h⟩
def Jf:Rd (List ao):=⟨λw rd xs=>∃v,rd 0=some v/\bw w sz r.R v xs,λ_ _ _ _ _ hk hr⟨v,h0,h⟩=>⟨v,hr _ _ h0,h.mono r.mono hk⟩,λρ w w' rd kN x hc hr⟨v,h0,h⟩=>by
 obtain⟨v',h1,h2⟩:=hr 0 v h0
 exact⟨v',h1,av.bw.carry r.gX hc h2 h⟩⟩
def apA(w:aH)(v:Value):Prop:=∃b o,v=.P b o/\r.R w (λj=>w.cell? (.a b (o+j))) x
def gh:bg:=⟨apA r x,λw w' v hb⟨b,o,e,h⟩=>⟨b,o,e,r.mono _ _ _ _ _ (bm.b4 hb) (λj v hv=>bm.b4 hb _ _ _ hv) h⟩,λ_=>True,λn _ ρ w w' v v' hc hv⟨b,o,e,h⟩=>by
 subst e
 obtain⟨b',rfl,q⟩:=wH hv
 exact⟨b',o,U,r.gX ρ w w' _ _ x hc.cells (λj v hv=>hc.cells ⟨b,o+j,none⟩ ⟨b',o+j,none⟩ v ⟨q,U,U⟩ hv) h⟩⟩
end
def Ay(v:Value)(F:bg):bg:=⟨λw u=>u=v/\F.R w u,λ_ _ _ hb h=>⟨h.1,F.fZ _ _ _ hb h.2⟩,λ_=>False,λ_ h=>h.elim⟩
def MX(B:Nat)(cs:dC)(T:uaa):bg:=⟨λw u=>∃b,u=.P b 0/\B<=b/\ag w b cs T,λ_ _ _ hb⟨b,h1,h2,h3⟩=>⟨b,h1,h2,h3.call hb⟩,λ_=>False,λ_ h=>h.elim⟩
def vr(B:Nat)(F:bg):bg:=⟨λw u=>B<=w.heap.size/\F.R w u,λ_ _ _ hb h=>⟨vac h.1 hb.size,F.fZ _ _ _ hb h.2⟩,λ_=>False,λ_ h=>h.elim⟩
variable{a':Act}{w':aH}
theorem af.of{N:Nat}{l:List (Nat×bg)}(a5:a'.tmps.size=N)(b:∀p∈l,∃v,a'.tmps[p.1]?=some v/\p.2.R w' v):af N (be l) a' w':=by
 refine⟨a5,λs F e=>?_⟩;have key:∀l:List (Nat×bg),be l s=some F->(s,F)∈l:=by intro l;induction l with|nil=>intro e;cases e|cons p l a=>grind[be]
 grind
variable{a:Act}{w:aH}
def af.get{N:Nat}{K:bZ}{s:Nat}{F G:bg}(h:af N K a w)(hs:K s=some F)(b:a'.tmps[s]?=a.tmps[s]?)(d:∀v,F.R w v->G.R w' v):∃v,a'.tmps[s]?=some v/\G.R w' v:=by obtain⟨v,c,e⟩:=h.has s F hs;grind
def af.ahP{N:Nat}{K:bZ}(h:af N K a w){l:List (Nat×bg)}(a5:a'.tmps.size=N)(b:∀p∈l,a'.tmps[p.1]?=a.tmps[p.1]?/\∃F,K p.1=some F/\∀v,F.R w v->p.2.R w' v):af N (be l) a' w':=
 af.of a5 λp f=>by obtain⟨e,F,d,c⟩:=b p f;exact h.get d e c
def MY:bg:=⟨λ_ _=>True,λ_ _ _ _ h=>h,λ_=>True,λ_ _ _ _ _ _ _ _ _ h=>h⟩
inductive Az:Value->Prop
 |int (k:IntKind) (n:Int):Az (.int k n)
 |bool (b:Bool):Az (.bool b)
 |string (s:ByteArray):Az (.string s)
 |nil (l c:Nat):Az (.slice none l c)
def Az.same{ρ:Ren}{x y:Value}(h:Az x)(hv:ap ρ x y):y=x:=by cases h with|int=>exact d9 hv|bool=>exact Q1 hv|string=>cases hv;rfl|nil=>exact gW hv
theorem Lx{ρ:Ren}:∀{l a:uam},(∀x∈l,Az x)->de (ap ρ) l a->a=l
 | [],_,_,.nil=>rfl
 |x::l,_,h,.cons c b=>by rw[(h x Ab).same c,Lx (λy d=>h y AN) b]
def apB(l:uam)(h:∀x∈l,Az x):bg:=⟨re (.agg l.toArray),tG.eq _,λ_=>True,λn _ ρ w w' v v' hc hv e=>by
 cases e
 obtain⟨l',rfl,k⟩:=pF hv
 rw[Lx h k]
 rfl⟩
variable{v:Value}
section
variable{P:ck}{N:Nat}{K:bZ}{o:Oper}{F:bg}{x y z:uaq}
def dy{b:bg}(c:bq K x b)(h:∀(ev:uaj) w,b.R w (ev x)->∃v w1,(execOp ev o).run P w=.ok (.value v) w1/\F.R w1 v/\cC w w1):bK P N K o F:=λa w hk=>.inl (h a.eval w (hk.ev c))
def wV{b c:bg}(e:bq K x b)(d:bq K y c)(h:∀(ev:uaj) w,b.R w (ev x)->c.R w (ev y)->∃v w1,(execOp ev o).run P w=.ok (.value v) w1/\F.R w1 v/\cC w w1):bK P N K o F:=λa w hk=>.inl (h a.eval w (hk.ev e) (hk.ev d))
def cQ(b:o.op=.move x)(a:bq K x F):bK P N K o F:=dy a λev w h=>⟨_,w,Hy,h,vaa _ _⟩
def Jh(b:o.op=.move x)(a:bq K x (Ay v F)):bK P N K o F:=dy a λev w h=>⟨_,w,Hy,h.2,vaa _ _⟩
def eD(b:o.op=.assign x)(a:bq K x F):bK P N K o F:=dy a λev w h=>⟨_,w,Hy,h,vaa _ _⟩
def b3{c:Bool}(d:o.op=.pick x y z)(b:bq K x (gB c))(a:bq K (if c then y else z) F):bK P N K o F:=wV b a λev w e h=>⟨if c then ev y else ev z,w,by
 have e:ev x=.bool c:=e;simp[execOp,d,e,go_sem],by grind,vaa _ _⟩
def Lw{c:Bool}{T:uaa}(b:o.op=.unOp .not T x)(a:bq K x (gB c)):bK P N K o (gB !c):=dy a λev w e=>⟨.bool !c,w,by
 have e:ev x=.bool c:=e;simp[execOp,b,e,go_sem],U,vaa _ _⟩
end
variable{m n:Int}{f:ual}
section
variable{N:Nat}{K:bZ}{o:Oper}{F:bg}{x y z:uaq}{ao:Type}{T T':uaa}
def y5(b:bq K x (a3 m))(a:bq K y (a3 n))(hF:∀w,F.R w v)(h:∀(ev:uaj) w,ev x=.I m->ev y=.I n->(execOp ev o).run (aa prog true) w=.ok (.value v) w):bK (aa prog true) N K o F:=wV b a λev w d c=>⟨v,w,h ev w d c,hF w,vaa _ _⟩
abbrev vu(T:uaa):Prop:=T=3\/T=2
def F8(b:o.op=.binOp .add T x y T')(d:bq K x (a3 m))(c:bq K y (a3 n))(a:fg (m+n))(e:vu T):bK (aa prog true) N K o (a3 (m+n)):=y5 d c (λ_=>U) λev w g f=>by unfold fg at a;cases o;simp only at b;subst b;rcases e with rfl|rfl<;>(go_simp;exact IntWalk.i64_in _ a)
def Ji(b:o.op=.binOp .sub T x y T')(d:bq K x (a3 m))(c:bq K y (a3 n))(a:fg (m-n))(e:vu T):bK (aa prog true) N K o (a3 (m-n)):=y5 d c (λ_=>U) λev w g f=>by unfold fg at a;cases o;simp only at b;subst b;rcases e with rfl|rfl<;>(go_simp;exact IntWalk.i64_in _ a)
def MZ(a:o.op=.binOp .lss T x y T')(c:bq K x (a3 m))(b:bq K y (a3 n))(d:vu T):bK (aa prog true) N K o (gB (decide (m<n))):=y5 c b (λ_=>U) λev w f e=>by cases o;simp only at a;subst a;rcases d with rfl|rfl<;>go_simp
def SD(a:o.op=.binOp .gtr T x y T')(c:bq K x (a3 m))(b:bq K y (a3 n))(d:vu T):bK (aa prog true) N K o (gB (decide (n<m))):=y5 c b (λ_=>U) λev w f e=>by cases o;simp only at a;subst a;rcases d with rfl|rfl<;>go_simp
def AA(a:o.op=.binOp .eql T x y T')(c:bq K x (a3 m))(b:bq K y (a3 n))(d:vu T):bK (aa prog true) N K o (gB (m==n)):=y5 c b (λ_=>U) λev w f e=>by cases o;simp only at a;subst a;rcases d with rfl|rfl<;>go_simp
def Lt(a:o.op=.binOp .neq T x y T')(c:bq K x (a3 m))(b:bq K y (a3 n))(d:vu T):bK (aa prog true) N K o (gB (m != n)):=y5 c b (λ_=>U) λev w f e=>by cases o;simp only at a;subst a;rcases d with rfl|rfl<;>go_simp
def OB{c:bQ}{k:Nat}{r:Rd ao}{y:ao}(a:o.op=.fieldAddr 30 x k)(d:bq K x (gh tQ c))(hk:k<5)(g:∀w rd,E9 w rd c->r.R w (λj=>rd (k+j)) y):bK (aa prog true) N K o (gh r y):=dy d λev w h=>by
 obtain⟨b,f,e,h⟩:=h;refine⟨.P b (f+k),w,?_,⟨b,f+k,U,?_⟩,vaa _ _⟩
 .cases o;simp only at a;subst a;have:k=0\/k=1\/k=2\/k=3\/k=4:=AY;rcases this with rfl|rfl|rfl|rfl|rfl<;>go_simp
 .have:=g w (λj=>w.cell? (.a b (f+j))) h;grind
def OA{c:bQ}(w:aH)(rd:uar)(h:E9 w rd c):(Jf 1 kw).R w (λj=>rd (2+j)) c.k7:=by obtain⟨b9,vs,g,h0,f,a,e,d,b⟩:=h;exact⟨b9,a,b.k7⟩
def nA{r:Rd ao}{y:ao}(a:o.op=.load T x)(c:bq K x (gh r y))(d:∀w rd,r.R w rd y->∃v,rd 0=some v/\F.R w v)(g:T=3\/T=2\/T=9\/T=4\/T=26\/T=28\/T=27\/T=39\/T=92\/T=31\/T=57):bK (aa prog true) N K o F:=dy c λev w h=>by obtain⟨b,f,e,h⟩:=h;obtain⟨v,j,i⟩:=d w _ h;refine⟨v,w,?_,i,vaa _ _⟩;simp only[vcg]at j;cases o;simp only at a;subst a;rcases g with rfl|rfl|rfl|rfl|rfl|rfl|rfl|rfl|rfl|rfl|rfl<;>go_simp
def tR(n:Int)(w:aH)(rd:uar)(h:kw.R w rd n):∃v,rd 0=some v/\(a3 n).R w v:=⟨_,h,U⟩
def Jj{sz:Nat}{r:Rd ao}(xs:List ao)(w:aH)(rd:uar)(h:(Jf sz r).R w rd xs):∃v,rd 0=some v/\(cP sz r xs).R w v:=h
abbrev M0(T:uaa)(sz:Nat):Prop:=(sz=1/\(T=26\/T=28\/T=27\/T=22\/T=31\/T=77\/T=44))\/(sz=7/\T=38)\/(sz=5/\T=39)\/(sz=4/\T=92)
def Oz{sz:Nat}{r:Rd ao}{xs:List ao}{i:Nat}{e:ao}(a:o.op=.indexAddr T x y)(d:xs[i]?=some e)(g:M0 T sz)(ev:uaj)(w:aH)(h:bw w sz r.R (ev x) xs)(m:ev y=.I i):∃v w1,(execOp ev o).run (aa prog true) w=.ok (.value v) w1/\(gh r e).R w1 v/\cC w w1:=by obtain⟨hi,rfl⟩:=vab.1 d;obtain⟨bJ,cap,n,l,j⟩:=h;obtain⟨b,f,rfl,c⟩:=j i hi;have k:(i:Int)<(xs.length:Int):=AY;refine⟨.P b (f+i*sz),w,?_,⟨b,f+i*sz,U,c⟩,vaa _ _⟩;cases o;simp only at a;subst a;rcases g with⟨rfl,rfl|rfl|rfl|rfl|rfl|rfl|rfl⟩|⟨rfl,rfl⟩|⟨rfl,rfl⟩|⟨rfl,rfl⟩<;>go_simp
def j8{sz:Nat}{r:Rd ao}{xs:List ao}{i:Nat}{e:ao}(c:o.op=.indexAddr T x y)(b:bq K x (cP sz r xs))(a:bq K y (a3 i))(d:xs[i]?=some e)(f:M0 T sz):bK (aa prog true) N K o (gh r e):=wV b a (Oz c d f)
def apC{sz:Nat}{r:Rd ao}{xs:List ao}{i:Nat}{e:ao}(c:o.op=.indexAddr T x y)(b:bq K x (Ay v (cP sz r xs)))(a:bq K y (a3 i))(d:xs[i]?=some e)(f:M0 T sz):bK (aa prog true) N K o (gh r e):=wV b a λev w h=>Oz c d f ev w h.2
def DC{sz:Nat}{r:Rd ao}{xs:List ao}(a:o.op=.call {callee:=.builtin .len,args:=#[x],argTypes:=#[T]})(b:bq K x (cP sz r xs))(c:M0 T sz):bK (aa prog true) N K o (a3 xs.length):=dy b λev w h=>by obtain⟨bJ,cap,e,d,f⟩:=h;refine⟨.I xs.length,w,?_,U,vaa _ _⟩;cases o;simp only at a;subst a;rcases c with⟨rfl,rfl|rfl|rfl|rfl|rfl|rfl|rfl⟩|⟨rfl,rfl⟩|⟨rfl,rfl⟩|⟨rfl,rfl⟩<;>go_simp
def SE(a:o.op=.binOp .neq T x y T')(c:bq K x (a3 m))(b:bq K y (a3 m))(d:vu T):bK (aa prog true) N K o (gB false):=y5 c b (λ_=>U) λev w f e=>by cases o;simp only at a;subst a;rcases d with rfl|rfl<;>go_simp
def apD(c:o.op=.binOp .gtr T x y T')(b:bq K x (a3 m))(a:bq K y (a3 n))(d:vu T)(h:n<m):bK (aa prog true) N K o (gB true):=by have:=SD (N:=N) c b a d;grind
def apE(c:o.op=.binOp .gtr T x y T')(b:bq K x (a3 m))(a:bq K y (a3 n))(d:vu T)(h:¬n<m):bK (aa prog true) N K o (gB false):=by have:=SD (N:=N) c b a d;grind
def SF(c:o.op=.binOp .lss T x y T')(b:bq K x (a3 m))(a:bq K y (a3 n))(d:vu T)(h:m<n):bK (aa prog true) N K o (gB true):=by have:=MZ (N:=N) c b a d;grind
def M1(c:o.op=.binOp .lss T x y T')(b:bq K x (a3 m))(a:bq K y (a3 n))(d:vu T)(h:¬m<n):bK (aa prog true) N K o (gB false):=by have:=MZ (N:=N) c b a d;grind
def SG{P:ck}{args:uba}{ats:uau}(d:o.op=.call {callee:=.value (.func f),args,argTypes:=ats})(c:∀vs w,Sem.run P (callFunc f vs) w=.ok (.enter f vs) w)(h:∀a w,af N K a w->Calls P f (args.map a.eval) w λe w'=>∃v,e=.returned v/\F.R w' v/\cC w w'):bK P N K o F:=λa w hk=>.inr ⟨f,args.map a.eval,by
 have:=c (args.map a.eval) w;generalize b:a.eval=ev at *;have e:ev (.func f)=.func (.func f) #[] #[]:=by rw[<-b];rfl
 grind[execOp,resolve,Deferred.ofValue,invoke],h a w hk⟩
def M3{P:ck}{ats:uau}{b:bg}(d:o.op=.call {callee:=.value (.func f),args:=#[x],argTypes:=ats})(g:∀vs w,Sem.run P (callFunc f vs) w=.ok (.enter f vs) w)(c:bq K x b)(h:∀v w,b.R w v->Calls P f #[v] w λe w'=>∃r,e=.returned r/\F.R w' r/\cC w w'):bK P N K o F:=
 SG d g λa w hk=>by have:=h _ w (hk.ev c);grind
def SH{P:ck}{ats:uau}{b c:bg}(i:o.op=.call {callee:=.value (.func f),args:=#[x,y],argTypes:=ats})(j:∀vs w,Sem.run P (callFunc f vs) w=.ok (.enter f vs) w)(g:bq K x b)(d:bq K y c)(h:∀v v' w,b.R w v->c.R w v'->Calls P f #[v,v'] w λe w'=>∃r,e=.returned r/\F.R w' r/\cC w w'):bK P N K o F:=
 SG i j λa w hk=>by have:=h _ _ w (hk.ev g) (hk.ev d);grind
def SI{b:Oper}{P:ck}{ops:eQ}{i d s:Nat}{Q:uap}{rest:uag}{w1 F9:aH}{c:Value}(m:ops[i]?=some o)(l:ops[i+1]?=some b)(g1:o.guard=none)(n:b.guard=none)(hd:o.dst=some d)(g:b.dst=none)(a5:d<N)(p:d≠s)(hk:af N K a w)(h:a.tmps[s]?=some c)(e:∀ev:Operand->Value,(execOp ev o).run P w=.ok (.value (.P w.heap.size 0)) F9)(f:∀ev:Operand->Value,ev (.tmp d)=.P w.heap.size 0->ev (.tmp s)=c->(execOp ev b).run P F9=.ok .skip w1)(j:cC w w1)(hF:F.R w1 (.P w.heap.size 0))(k:∀a',af N (up K d F) a' w1->a'.defers=a.defers->wpOps P ops Q rest a' w1):wpOps P ops Q (i::(i+1)::rest) a w:=by
 refine fP (R:=λa1 w1=>a1=a.put (some d) (.P w.heap.size 0)/\w1=F9) (ip m g1 hd (e _) ⟨U,U⟩) ?_;rintro a1 w2 ⟨rfl,rfl⟩;refine fP (R:=λa1 w2=>a1=a.put (some d) (.P w.heap.size 0)/\w2=w1) (sr l n g (f _ (cd (ja (by rw[hk.size];exact a5))) (cd ((et p).trans h))) ⟨U,U⟩) ?_;rintro a1 q ⟨rfl,rfl⟩;exact k _ (hk.put a5 j hF) (put_defers _ _ _)
end
def Jl{P:ck}{N id m:Nat}{ops:eQ}{ks ks':uab}{Q:uak}{K K':bZ}(hk:af N K a w)(h:uM P N ops (ops.toList.take m) K K')(c:m<=ops.size)(k:∀a' w',af N K' a' w'->a'.defers=a.defers->cC w w'->wpOps P ops (ly (cb P (.R ops []::ks) ks' Q)) (List.range' m (ops.size-m)) a' w'):cb P (.code (.region id ops false)::ks) ks' Q a w:=by
 refine Iw (n:=ops.size) U ?_;have b:(ops.toList.take m).length=m:=AN;rw[show List.range' 0 ops.size=List.range' 0 (ops.toList.take m).length++List.range' m (ops.size-m) by
  rw[b];have:=List.range'_append_1 (s:=0) (m:=m) (n:=ops.size-m);grind]
 exact Mc h (λj o d=>by
  grind) hk k
theorem N6{ρ:Ren}{n:Nat}{v':Value}(h:tK n v)(hv:ap ρ v v'):tK n v':=by obtain⟨a,c,rfl,b⟩:=h;obtain⟨bJ,rfl⟩:=Iv hv;exact⟨_,_,U,b⟩
def mD(rs:List dg):bg:=⟨λw v=>jl w v rs/\tK rs.length v,λ_ _ _ hb h=>⟨bw.mono ya (bm.b4 hb) h.1,h.2⟩,λ_=>True,λ_ _ _ _ _ _ _ hc hv h=>⟨av.bw.carry Ai hc.cells hv h.1,N6 h.2 hv⟩⟩
def n8:Rd (List dg):=⟨λw rd rs=>∃v,rd 0=some v/\(jl w v rs/\tK rs.length v),λ_ _ _ _ _ hk hr⟨v,h0,h⟩=>⟨v,hr _ _ h0,bw.mono ya hk h.1,h.2⟩,λρ w w' rd kN x hc hr⟨v,h0,h⟩=>by
 grind[av.bw.carry,Ai,N6]⟩
def Gb(t:List bQ):bg:=⟨λw v=>∃c,v=.agg #[c]/\nV w c t,λ_ _ _ hb⟨c,e,h⟩=>⟨c,e,bw.mono q_ (bm.b4 hb) h⟩,λ_=>True,λ_ _ ρ w w' v v' hc hv⟨c,e,h⟩=>by
 subst e
 obtain⟨l',rfl,k⟩:=pF (l:=[c]) hv
 cases k with
 |cons k1 k=>cases k;exact⟨_,U,av.bw.carry wA hc.cells k1 h⟩⟩
def k9:Rd (List bQ):=⟨λw rd t=>∃v,rd 0=some v/\nV w v t,λ_ _ _ _ _ hk hr⟨v,h0,h⟩=>⟨v,hr _ _ h0,bw.mono q_ hk h⟩,λρ w w' rd kN x hc hr⟨v,h0,h⟩=>by
 grind[av.bw.carry,wA]⟩
def kx(x y:Int):bg:=⟨re (.agg #[.I x,.I y]),tG.eq _,λ_=>True,λ_ _=>Yc x y⟩
abbrev sB:=Int×Int×List (Int×Int)
def n9:Rd sB:=⟨λw rd n=>∃v,(rd 0=some (.I n.1)/\rd 1=some (.I n.2.1)/\rd 2=some (.I 0)/\rd 3=some (.N)/\rd 4=some (.N)/\rd 5=some (.N)/\rd 6=some v)/\bw w 2 E8 v n.2.2,λ_ _ _ _ _ hk hr⟨v,⟨h0,h1,h2,h3,h4,a6,b6⟩,h⟩=>⟨v,⟨hr _ _ h0,hr _ _ h1,hr _ _ h2,hr _ _ h3,hr _ _ h4,hr _ _ a6,hr _ _ b6⟩,bw.mono oH hk h⟩,λρ w w' rd kN n hc hr⟨v,⟨h0,h1,h2,h3,h4,a6,b6⟩,h⟩=>by
 grind[d9,gW,av.bw.carry,Qv]⟩
def SR(n:sB)(w:aH)(u:Value):Prop:=∃v,u=.agg [.I n.1,.I n.2.1,.I 0,.N,.N,.N,v].toArray/\bw w 2 E8 v n.2.2
def nC(n:sB):bg:=⟨SR n,λ_ _ _ hb⟨v,e,h⟩=>⟨v,e,bw.mono oH (bm.b4 hb) h⟩,λ_=>True,λ_ _ ρ w w' u ij hc hv⟨v,e,h⟩=>by
 subst e
 obtain⟨l',rfl,k⟩:=pF hv
 cases k with
 |cons k1 k=>cases k with
  |cons k2 k=>cases k with
   |cons k3 k=>cases k with
    |cons k4 k=>cases k with
     |cons gD k=>cases k with
      |cons jI k=>cases k with
       |cons nD k=>
        cases k
        rw[d9 k1,d9 k2,d9 k3,gW k4,gW gD,gW jI]
        exact⟨_,U,av.bw.carry Qv hc.cells nD h⟩⟩
def rp(rs:List dg):bg:=⟨λw u=>∃v,u=.tuple [v,.N].toArray/\(mD rs).R w v,λ_ _ _ hb⟨v,e,h⟩=>⟨v,e,(mD rs).fZ _ _ _ hb h⟩,λ_=>True,λ_ _ ρ w w' u ij hc hv⟨v,e,h⟩=>by
 subst e
 obtain⟨l',rfl,k⟩:=x8 hv
 cases k with
 |cons k1 k=>cases k with
  |cons k2 k=>
   cases k
   rw[gW k2]
   exact⟨_,U,(mD rs).gX 0 trivial _ _ _ _ _ ⟨hc.cells,hc.types,λ_ _ _ _=>vaz _,hc.inj⟩ k1 h⟩⟩
def y7(p:uaf):bg:=⟨λw u=>∃v,u=.tuple [.N,v].toArray/\jB w v p,λ_ _ _ hb⟨v,e,h⟩=>⟨v,e,bw.mono z6 (bm.b4 hb) h⟩,λ_=>True,λ_ _ ρ w w' u ij hc hv⟨v,e,h⟩=>by
 subst e
 obtain⟨l',rfl,k⟩:=x8 hv
 cases k with
 |cons k1 k=>cases k with
  |cons k2 k=>
   cases k
   rw[gW k1]
   exact⟨_,U,av.bw.carry BT hc.cells k2 h⟩⟩
def Jn(p:uaf):bg:=⟨λw v=>jB w v p,λ_ _ _ hb h=>bw.mono z6 (bm.b4 hb) h,λ_=>True,λ_ _ ρ w w' u ij hc hv h=>av.bw.carry BT hc.cells hv h⟩
def wW:Rd (Int×Int):=⟨λ_ rd x=>rd 0=some (.I x.1)/\rd 1=some (.I x.2),λ_ _ _ _ _ _ hr⟨h1,h2⟩=>⟨hr _ _ h1,hr _ _ h2⟩,λρ w w' rd kN x hc hr⟨h1,h2⟩=>by
 grind[d9]⟩
def N3(T:uaa)(F:bg):bg:=⟨λw v=>∃u,v=.iface T u/\F.R w u,λ_ _ _ hb⟨u,e,h⟩=>⟨u,e,F.fZ _ _ _ hb h⟩,F.ok,λn ok ρ w w' v v' hc hv⟨u,e,h⟩=>by
 subst e
 cases hv
 rename_i k
 exact⟨_,U,F.gX n ok _ _ _ _ _ hc k h⟩⟩
section
variable{N:Nat}{K:bZ}{o:Oper}{F:bg}{x y z:uaq}{T T':uaa}
def NZ{n:sB}(a:o.op=.box 34 x)(c:bq K x (nC n)):bK (aa prog true) N K o (gh n9 n):=dy c λev w h=>by obtain⟨v,e,h⟩:=h;have b:cC w (w.alloc (.cells #[.I n.1,.I n.2.1,.I 0,.N,.N,.N,v] 34)):=(vaa _ w).alloc IB _;have d:=bw.mono oH (bm.b4 b) h;obtain⟨g,f,rfl,-,-⟩:=h;refine⟨.P w.heap.size 0,_,Aq,⟨w.heap.size,0,U,_,⟨?_,?_,?_,?_,?_,?_,?_⟩,d⟩,b⟩<;>exact rP (vbm w _) U U
def SS(a:o.op=.box 52 x)(b:bq K x (kx m n)):bK (aa prog true) N K o (gh wW (m,n)):=dy b λev w h=>by have h:ev x=.agg #[.I m,.I n]:=h;have c:cC w (w.alloc (.cells #[.I m,.I n] 52)):=(vaa _ w).alloc IB _;refine⟨.P w.heap.size 0,_,Aq,⟨w.heap.size,0,U,?_,?_⟩,c⟩<;>exact rP (vbm w _) U U
def NY{n:sB}(a:o.op=.fieldAddr 34 x 0)(c:bq K x (gh n9 n)):bK (aa prog true) N K o (gh kw n.1):=dy c λev w h=>by obtain⟨b,f,e,v,⟨h0,j,i,g,d,l,k⟩,h⟩:=h;exact⟨.P b f,w,Aq,⟨b,f,U,h0⟩,vaa _ _⟩
def NP{n:sB}(a:o.op=.fieldAddr 34 x 1)(c:bq K x (gh n9 n)):bK (aa prog true) N K o (gh kw n.2.1):=dy c λev w h=>by obtain⟨b,f,e,v,⟨h0,d,j,i,g,l,k⟩,h⟩:=h;exact⟨.P b (f+1),w,Aq,⟨b,f+1,U,d⟩,vaa _ _⟩
def SU{n:sB}(a:o.op=.load 34 x)(c:bq K x (gh n9 n)):bK (aa prog true) N K o (nC n):=dy c λev w h=>by obtain⟨b,f,e,v,⟨h0,j,i,g,d,l,k⟩,h⟩:=h;simp only[vcg]at h0;refine⟨.agg #[.I n.1,.I n.2.1,.I 0,.N,.N,.N,v],w,?_,⟨v,U,h⟩,vaa _ _⟩;clear h;cases o;simp only at a;subst a;go_simp
def Jo(a:o.op=.load 52 x)(c:bq K x (gh wW (m,n))):bK (aa prog true) N K o (kx m n):=dy c λev w h=>by obtain⟨b,f,e,h0,d⟩:=h;simp only[vcg]at h0 d;exact⟨.agg #[.I m,.I n],w,Aq,U,vaa _ _⟩
def apL{t:List bQ}(a:o.op=.load 41 x)(d:bq K x (gh k9 t)):bK (aa prog true) N K o (Gb t):=dy d λev w h=>by obtain⟨b,f,e,v,h0,c⟩:=h;simp only[vcg]at h0;refine⟨.agg #[v],w,?_,⟨v,U,c⟩,vaa _ _⟩;clear c;cases o;simp only at a;subst a;go_simp
def lP(a:o.op=.makeInterface T x)(b:bq K x F)(c:T=103):bK (aa prog true) N K o (N3 T F):=dy b λev w h=>by refine⟨.iface T (ev x),w,?_,⟨_,U,h⟩,vaa _ _⟩;clear h;cases o;simp only at a;subst a;subst c;go_simp
def SV{rs:List dg}(a:o.op=.extract x 0)(b:bq K x (rp rs)):bK (aa prog true) N K o (mD rs):=dy b λev w h=>by obtain⟨v,e,h⟩:=h;refine⟨v,w,?_,h,vaa _ _⟩;clear h;cases o;simp only at a;subst a;go_simp
def n_:bg:=⟨re (.N),tG.eq _,λ_=>True,λ_ _ _ _ _ _ _ _ hv h=>by cases h;exact gW hv⟩
def SW{rs:List dg}(a:o.op=.extract x 1)(b:bq K x (rp rs)):bK (aa prog true) N K o n_:=dy b λev w h=>by obtain⟨v,e,h⟩:=h;refine⟨.N,w,?_,U,vaa _ _⟩;clear h;cases o;simp only at a;subst a;go_simp
def apM{t:List bQ}(a:o.op=.build 103 #[(0,x)])(b:bq K x (Gb t)):bK (aa prog true) N K o (Gb t):=dy b λev w h=>by obtain⟨c,e,h⟩:=h;refine⟨.agg #[c],w,?_,⟨_,U,h⟩,vaa _ _⟩;obtain⟨bJ,cap,rfl,-⟩:=h;cases o;simp only at a;subst a;go_simp
def ND(rs:List dg)(w:aH)(rd:uar)(h:n8.R w rd rs):∃v,rd 0=some v/\(mD rs).R w v:=h
def NC{p:uaf}(a:o.op=.extract x 0)(b:bq K x (y7 p)):bK (aa prog true) N K o n_:=dy b λev w h=>by obtain⟨v,e,h⟩:=h;refine⟨.N,w,?_,U,vaa _ _⟩;clear h;cases o;simp only at a;subst a;go_simp
def Ny{p:uaf}(a:o.op=.extract x 1)(b:bq K x (y7 p)):bK (aa prog true) N K o (Jn p):=dy b λev w h=>by obtain⟨v,e,h⟩:=h;refine⟨v,w,?_,h,vaa _ _⟩;clear h;cases o;simp only at a;subst a;go_simp
end
end bj
namespace bj
open Conc ConcM RowKit av bn cW dv bB
section
variable{O:gp}
def jp(f:Func)(id:Nat):Array Oper:=bM.pI ((bM.ed id (f.body.getD .skip)).getD .skip)
def M5(f:Func)(id:Nat):Code:=bM.lY ((bM.ed id (f.body.getD .skip)).getD .skip)
def y8(id:Nat):Code->Option (Array Oper)
 | .region i o _=>if i==id then some o else none
 | .seq x y=>match y8 id x with|some c=>some c|none=>y8 id y
 | .block _ c=>y8 id c
 | .loop c=>y8 id c
 | .cond _ x y=>match y8 id x with|some c=>some c|none=>y8 id y
 | _=>none
def aP(f:Func)(id:Nat):Array Oper:=(y8 id (f.body.getD .skip)).getD #[]
def ey(l:eQ){l':eQ}(e:l=l':=by simp only[aP,y8,jp,Tryz.f6,Tryz.f3,Tryz.f7,Tryz.f8,Tryz.f11,Tryz.f18,Tryz.f30,vah,bM.ed,bM.pI,Nat.reduceBEq,vai,↓reduceIte];exact rfl):l=l':=e
def vcf{P:ck}{f:ual}{fn:Func}{c:Code}(a:P.funcs[f]?=some fn)(b:fn.body=some c)(args:dC):Frame.enter P f args .normal=(base f).at ⟨args++Array.replicate (fn.ntmps-args.size) undef,[]⟩ [.code c]:=by grind[Frame.enter,Frame.at,base]
def Gc(ρ:Ren)(n:Nat):aL ρ (Array.replicate n undef) (Array.replicate n undef):=⟨U,λi v v' h a=>by
 rw[Array.getElem?_replicate]at h a;split at h<;>simp_all
 subst h;subst a;exact .undef ρ⟩
def Nx(ρ:Ren)(a b:Int):aL ρ #[.I a,.I b] #[.I a,.I b]:=kO (l:=[.I a,.I b]) λx c=>by simp at c;rcases c with rfl|rfl<;>exact .int _ _
def Nq:fG prog true Tryz.f18=true:=by decide+kernel
def mixed:prog.follows .mixedOrders=true:=by decide+kernel
theorem Gd{w:aH}{a:Addr}{v:Value}(h:w.cell? a=some v)(o:Obj):(w.alloc o).cell? a=some v:=by grind[wc,rP,Below.heap_alloc]
end
end bj
namespace bj
open Conc ConcM RowKit av bn cW dv
variable{P:ck}{f:ual}{ats:uau}
section
variable{O:gp}
def Ni{Post:fE}{M:c5}{w:aH}{fn:Func}{body:Code}{args:dC}{N id:Nat}{a2 AC g:bZ}{ops:eQ}{Fr:bg}(ks:uab)(l:(cJ P).Good)(V:P.follows .mixedOrders=true)(j:P.funcs[f]?=some fn)(A:fG P true fn=true)(m:fn.body=some body)(dD:aL (bU M) args args)(h0:af N a2 ⟨args++Array.replicate (fn.ntmps-args.size) undef,[]⟩ w)(jW:∀s F,a2 s=some F->F.ok w.heap.size)(L:∀s F,AC s=some F->F.ok w.heap.size){l2:List (Nat×bg)}(q:uK w.heap.size l2)(SX:Fr.ok w.heap.size)(hi:[Item.code body].all (fM P)=true)(lX:(Item.code (.region id ops true):: .code .ret::ks).all (fM P)=true)(x:(Item.inRegion ops []:: .code .ret::ks).all (fM P)=true)(Jp:∀a W,a.defers=[]->af N a2 a W->cb (aa P true) [.code body] (.code (.region id ops true):: .code .ret::ks) (λa1 w1=>a1.defers=[]/\af N AC a1 w1/\cC W w1) a W){S:m3}(eJ:Jm ops S=true)(hK:rf AC ops.toList=true){h:Oper}{d:Nat}{gf:ual}{p:Func}{fJ:Code}{R:uba}(nt:ops[S.g]?=some h)(i:h.op=.call {callee:=.value (.func gf),args:=R,argTypes:=ats})(U:P.funcs[gf]?=some p)(jV:(p.name== "runtime.NumGoroutine")=false)(k:p.body=some fJ)(c6:h.guard=none){gq:Tmp}(gI:h.dst=some gq){cp:bg}(hG:sA (aa P true) N w.heap.size ops S AC (λ_=>none) cp (λE=>∀a M w Shun,Home O P M Shun w->af N E a w->aL (bU M) a.tmps a.tmps->eb O P Post gf (R.map a.eval) M w d (λu _ w'=>cp.R w' u/\cO M w w')) ops.toList 0 (λ_=>none) AC g)(hS:S.jo=[])(mE:Mb g l2)(X:∀a W,af N (be l2) a W->∃v,(results fn a.tmps).run (aa P true) W=.ok v W/\Fr.R W v):
 eb O P Post f args M w d (λu _ w'=>Fr.R w' u/\cO M w w'):=by
 intro n Shun hn a0 eC aF az aI aK aG csZ hc c0;have B:jX P f:=B5 j A m;rw[vcf j m];have H:=Held.start (n0:=w.heap.size) a0 IB (a:=⟨args++Array.replicate (fn.ntmps-args.size) undef,[]⟩) (dD.append (Gc _ _)) rfl;refine QY l B H hi lX (I:=af N a2) (J:=af N AC) (gY _ jW) (gY _ L) h0 (λW D hI=>?_) λa' M' w' eZ K=>?_
 .intro b cs;obtain⟨a1,w1,⟨t,r,Z⟩,Y⟩:=Jp _ W rfl hI b cs;exact⟨a1,w1,⟨t,r,Z.mono D⟩,Y⟩
 refine N8 (Q:=λ_=>none) l V B x L (λ_ _ e=>DG) eJ hK F1 nt i U jV k c6 hn gI hG (.inl ⟨hS,rfl⟩) eZ K ⟨K.size,λ_ _ e=>DG⟩ λbA M2 w2 fx Jq dW pE y=>?_;refine Fl l j A m y x hc (I:=af N (be l2)) (gV:=Fr.R) (gY _ (e7 q)) (Fr.gX _ SX) (dW.a7 mE) (λW D hI=>?_) λu kf T h1 h2 h3 h4 a6 b6=>?_
 .obtain⟨v,t,r⟩:=X _ W hI;exact uI (tA (i9 (B4 y.defers t ⟨r,vaa _ _⟩)))
 .exact c0 u kf T fx Jq pE h1 h2 h3 h4 ⟨b6,λb c e z k C=>a6 b c e z ⟨k,(vag.1 C).1⟩ C⟩
def MO{Post:fE}{M:c5}{w:aH}{fn:Func}{body:Code}{args:dC}{N i:Nat}{rest:uag}{l0 l1:List (Nat×bg)}{ops:eQ}{o:Oper}{ks:uab}{d:Nat}{g:ual}{D:Func}{fJ:Code}{Y:uba}{h:Tmp}{cp Fr:bg}(U:(cJ P).Good)(r:P.funcs[f]?=some fn)(S:fG P true fn=true)(C:fn.body=some body)(dD:aL (bU M) args args)(h0:af N (be l0) ⟨args++Array.replicate (fn.ntmps-args.size) undef,[]⟩ w)(jW:uK w.heap.size l0)(q:uK w.heap.size l1)(K:cp.ok w.heap.size)(SX:Fr.ok w.heap.size)(hi:[Item.code body].all (fM P)=true)(Q:(Item.inRegion ops []::ks).all (fM P)=true)(m:ops[i]?=some o/\o.op=.call {callee:=.value (.func g),args:=Y,argTypes:=ats}/\o.guard=none/\o.dst=some h)(X:h<N)(hg:P.funcs[g]?=some D)(jV:(D.name== "runtime.NumGoroutine")=false)(p:D.body=some fJ)(Jp:∀a W,a.defers=[]->w.heap.size<=W.heap.size->af N (be l0) a W->cb (aa P true) [.code body] (.R ops (i::rest)::ks) (λa1 w1=>a1.defers=[]/\af N (be l1) a1 w1/\Below w.heap.size W w1) a W)(im:∀a M w Shun,Home O P M Shun w->af N (be l1) a w->aL (bU M) a.tmps a.tmps->eb O P Post g (Y.map a.eval) M w d (λu _ w'=>cp.R w' u/\cO M w w'))(lw:∀a W,a.defers=[]->w.heap.size<=W.heap.size->af N (up (be l1) h cp) a W->pD (aa P true) fn (.R ops rest::ks) (λv w1=>Fr.R w1 v/\Below w.heap.size W w1) a W):
 eb O P Post f args M w d (λu _ w'=>Fr.R w' u/\cO M w w'):=by
 intro n Shun hn V eC aF az aI aK aG csZ hc c0;have T:jX P f:=B5 r S C;rw[vcf r C];have L:∀l,(Item.inRegion ops l::ks).all (fM P)=true:=λl=>by simpa[fM]using Q
 have H:=Held.start (n0:=w.heap.size) V IB (a:=⟨args++Array.replicate (fn.ntmps-args.size) undef,[]⟩) (dD.append (Gc _ _)) rfl;refine QY U T H hi (L _) (I:=af N (be l0)) (J:=af N (be l1)) (gY _ (e7 jW)) (gY _ (e7 q)) h0 (λW t hI=>Jp _ W rfl t hI) λa' M' w' j B=>?_;have hok:∀s F,up (be l1) h cp s=some F->F.ok w.heap.size:=λs F e=>by
  unfold up at e;split at e
  .cases e;exact K
  .exact e7 q s F e
 refine X_ m.2.1 hg jV p hn T j Q m.1 m.2.2.1 ⟨m.2.2.2,by rw[B.size];exact X⟩ (I:=af N (be l1)) (J:=af N (up (be l1) h cp)) (ie:=cp.R) (gY _ (e7 q)) B (λk=>im a' M' (w'.at k) Shun (j.at k).fk (gY _ (e7 q) _ _ _ _ _ ((show cO M' w' (w'.at k)from λ_ _ _ _ _ x=>x).lA (n0:=w.heap.size) j.fk) j.all B) j.all) (λu w2 A y=>A.put X (vaa _ _) y) λbA M2 w2 fx Jq pE R E=>?_;exact Fl U r S C R (L _) hc (I:=af N (up (be l1) h cp)) (gV:=Fr.R) (gY _ hok) (Fr.gX _ SX) E (λW t hI=>lw _ W R.defers t hI) λu kf Z A y h3 h4 a6 b6=>c0 u kf Z fx Jq pE A y h3 h4 ⟨b6,λb c e z p hx=>a6 b c e z ⟨p,V.lt p⟩ hx⟩
end
open bB cv iD
def k_{N i m r:Nat}{ops:eQ}{ks ks':uab}{Q:uak}{K K':bZ}{a:Act}{w:aH}(hk:af N K a w)(h:uM P N ops ((ops.toList.drop i).take m) K K')(p:i+m<=ops.size)(k:∀a' w',af N K' a' w'->a'.defers=a.defers->cC w w'->cb P (.R ops (List.range' (i+m) r)::ks) ks' Q a' w'):cb P (.R ops (List.range' i (m+r))::ks) ks' Q a w:=λb cs=>by
 obtain⟨a1,w1,f,d⟩:=L4 (R:=cb P (.R ops (List.range' (i+m) r)::ks) ks' Q) (List.range' (i+m) r) (List.range' i m) a w (by
  have g:((ops.toList.drop i).take m).length=m:=BC;have:=Mc (Q:=ly (cb P (.R ops (List.range' (i+m) r)::ks) ks' Q)) (rest:=[]) h (i:=i) (λj o q=>AN) hk λa' w' f d c=>⟨U,k a' w' f d c⟩;rw[g,List.append_nil]at this;exact this) b ks cs
 obtain⟨n,w2,c,l⟩:=f b cs;have e:List.range' i (m+r)=List.range' i m++List.range' (i+m) r:=by simp[List.range'_append]
 rw[e];exact⟨n,w2,c,d.trans l⟩
def SY(w w':aH):Prop:=∀b o v,v≠ .N->w.cell? (.a b o)=some v->w'.cell? (.a b o)=some v
variable{ao:Type}
def SZ{w w':aH}{sz:Nat}{R:aH->(Nat->Option Value)->ao->Prop}{v:Value}{xs:List ao}(f:∀x∈xs,∀b o,R w (λj=>w.cell? (.a b (o+j))) x->R w' (λj=>w'.cell? (.a b (o+j))) x)(h:bw w sz R v xs):bw w' sz R v xs:=by obtain⟨bJ,cap,rfl,c,d⟩:=h;refine⟨bJ,cap,U,c,λi hi=>?_⟩;obtain⟨b,off,e,a⟩:=d i hi;exact⟨b,off,e,f _ (vdq hi) _ _ a⟩
def MK{w:aH}{sz:Nat}{R:aH->(Nat->Option Value)->ao->Prop}{v:Value}{xs:List ao}(h:bw w sz R v xs)(a:0<xs.length):v≠ .N:=by obtain⟨bJ,cap,rfl,-,-⟩:=h;grind
def apQ{w:aH}{sz:Nat}{R:aH->(Nat->Option Value)->ao->Prop}{v:Value}{xs:List ao}(h:bw w sz R v xs):v.oneCell'=true:=by obtain⟨bJ,cap,rfl,-,-⟩:=h;rfl
def Full(rs:List dg):Prop:=∀r∈rs,0<r.1.length/\0<r.2.length
def OY{w w':aH}(hk:SY w w'){v:Value}{rs:List dg}(j:Full rs)(h:jl w v rs):jl w' v rs:=by refine SZ (λx i b o⟨pv,e,h0,d,c,a⟩=>?_) h;obtain⟨g,f⟩:=j x i;exact⟨pv,e,hk _ _ _ (MK c g) h0,hk _ _ _ (MK a f) d,SZ (λy _ b o h=>hk _ _ _ Ab h) c,SZ (λy _ b o⟨h0,d,c,a,k⟩=>⟨hk _ _ _ Ab h0,hk _ _ _ Ab d,hk _ _ _ Ab c,hk _ _ _ Ab a,k⟩) a⟩
def y9(n0 N:Nat)(D:List (List dg))(w:aH)(v:Value):Prop:=∃b cs,v=.S b 0 D.length N/\n0<=b/\ag w b cs 57/\cs.size=N/\(∀(i:Nat) rs,D[i]?=some rs->∃u,cs[i]?=some u/\(mD rs).R w u)/\∀i,D.length<=i->i<N->cs[i]?=some (.N)
def S0(n0:Nat)(w:aH)(v:Value):Prop:=∃b,v=.P b 0/\n0<=b/\ag w b #[.I 0,.N] 47
variable{T:uaa}
section
variable{n0 N:Nat}{D:List (List dg)}
def wX{ρ:Ren}{w w':aH}(f:tD n0 ρ w w'){b d:Nat}(r:ρ.rel b d){cs:dC}(h:ag w b cs T):∃a,ag w' d a T/\a.size=cs.size/\∀(i:Nat) u,cs[i]?=some u->∃c,a[i]?=some c/\ap ρ u c:=by obtain⟨a,e,g⟩:=f.types _ _ _ _ _ r h;refine⟨a,e,g,λi u hi=>?_⟩;obtain⟨c,k,j⟩:=f.cells ⟨b,i,none⟩ ⟨d,i,none⟩ u ⟨r,U,U⟩ ((h.rules.1 i).trans hi);exact⟨c,((ag.rules e).1 i).symm.trans k,j⟩
def apR:my n0 (y9 n0 N D):=by
 rintro ρ w w' v v' d hv ⟨b,cs,rfl,hn,h,hs,m,l⟩;obtain⟨o,rfl,r⟩:=qp hv;obtain⟨n,g,f,key⟩:=wX d r h;refine⟨o,n,U,d.new _ _ r hn,g,f.trans hs,λi rs hi=>?_,λi k j=>?_⟩
 .obtain⟨u,q,p⟩:=m i rs hi;obtain⟨e,a,c⟩:=key i u q;exact⟨e,a,(mD rs).gX _ trivial _ _ _ _ _ d c p⟩
 .obtain⟨e,a,c⟩:=key i _ (l i k j);rw[gW c]at a;exact a
def apS:my n0 (S0 n0):=by
 rintro ρ w w' v v' c hv ⟨b,rfl,hn,g⟩;obtain⟨l,rfl,r⟩:=wH hv;obtain⟨k,f,e,key⟩:=wX c r g;obtain⟨u0,a,j⟩:=key 0 _ U;obtain⟨u1,d,h⟩:=key 1 _ U;rw[d9 j]at a;rw[gW h]at d;refine⟨l,U,c.new _ _ r hn,?_⟩;have:k=#[.I 0,.N]:=by apply vch;intro i;match i with|0=>exact a|1=>exact d|i+2=>simp[e]
 exact this▸f
def OU(n0 N:Nat)(D:List (List dg)):bg:=⟨y9 n0 N D,λw w' v hb⟨b,cs,e,h1,h2,h3,h4,a6⟩=>⟨b,cs,e,h1,h2.call hb,h3,λi rs hi=>by
 obtain⟨u,aQ,aT⟩:=h4 i rs hi
 exact⟨u,aQ,(mD rs).fZ _ _ _ hb aT⟩,a6⟩,λn=>n=n0,λn h=>h▸apR⟩
def Ge(n0:Nat):bg:=⟨S0 n0,λw w' v hb⟨b,e,h1,h2⟩=>⟨b,e,h1,h2.call hb⟩,λn=>n=n0,λn h=>h▸apS⟩
def y9.list{w:aH}{v:Value}(h:y9 n0 N D w v)(a5:D.length<=1000):(cP 1 n8 D).R w v:=by obtain⟨b,cs,rfl,-,a,-,c,-⟩:=h;refine⟨_,_,U,AY,λi hi=>⟨b,0,U,?_⟩⟩;obtain⟨u,e,d⟩:=c i _ (vas hi);exact⟨u,by simp[a.rules.1,e],d⟩
def y9.grow{w:aH}{b:Nat}{cs:dC}{rs:List dg}{u:Value}(f:ag w b cs 57)(hn:n0<=b)(hs:cs.size=N)(g:D.length<N)(n:∀(i:Nat) rs,D[i]?=some rs->∃u,cs[i]?=some u/\(mD rs).R w u)(m:∀i,D.length<=i->i<N->cs[i]?=some (.N))(d:(mD rs).R w u)(k:Full rs)(hF:∀x∈D,Full x):SY w (w.setCell ⟨b,D.length,none⟩ u)/\y9 n0 N (D++[rs]) (w.setCell ⟨b,D.length,none⟩ u) (.S b 0 (D.length+1) N):=by
 have hk:SY w (w.setCell ⟨b,D.length,none⟩ u):=λp o v hv a=>by
  by_cases e:(⟨b,D.length,none⟩:Addr)=⟨p,o,none⟩
  .cases e;rw[f.rules.1,m _ IB g]at a;cases a;exact absurd U hv
  .rw[World.cell?_setCell_other (h:=e)];exact a
 refine⟨hk,b,_,Ab,hn,f.set _ _,by simpa using hs,λi r hi=>?_,λi l q=>?_⟩
 .by_cases e:i=D.length
  .subst e;simp at hi;subst hi;exact⟨u,by simp[hs,g],OY hk k d.1,d.2⟩
  .have c:D[i]?=some r:=by grind
   obtain⟨v,s,j⟩:=n i r c;exact⟨v,AN,OY hk (hF r (List.mem_of_getElem? c)) j.1,j.2⟩
 .simp at l;grind
end
def OT{w:aH}{b o:Nat}{c:dC}{e:uaa}{fr:ubo}{v:Value}(h:w.heap[b]?=some (.cells c e fr))(hv:c[o]?=some v):w.setCell ⟨b,o,none⟩ v=w:=by
 have a:(w.setCell ⟨b,o,none⟩ v).heap=w.heap:=by
  apply vch;intro i;simp only[World.setCell,vay];by_cases hi:b=i
  .subst hi;simp only[vbx,h,vdw];have d:o<c.size:=by grind
   have:c.setIfInBounds o v=c:=by grind
   grind
  grind
 show({w with heap:=(w.setCell ⟨b,o,none⟩ v).heap}:aH)=w;rw[a]
def rq:Value:=.agg #[.I 0,.N]
def S1{ρ:Ren}{u:Value}(h:ap ρ rq u):u=rq:=by
 obtain⟨c,rfl,k⟩:=pF h;cases k with
 |cons b k=>cases k with
  |cons a k=>cases k;rw[d9 b,gW a];rfl
def Gf(rs:List dg)(w:aH)(u:Value):Prop:=∃a_,u=.tuple #[a_,.I 0,rq]/\jl w a_ rs
def OL{n0:Nat}(rs:List dg):my n0 (Gf rs):=by
 rintro ρ w w' v v' a hv ⟨a_,rfl,h⟩;obtain⟨e,rfl,k⟩:=x8 hv;cases k with
 |cons d k=>cases k with
  |cons c k=>cases k with
   |cons b k=>cases k;exact⟨_,by rw[d9 c,S1 b],av.bw.carry Ai a.cells d h⟩
def M6(F:Func):Code:=.seq (.block 2 (.seq (.region 6 (aP F 6) false) (.cond (.tmp 32) (.seq (.region 7 (aP F 7) false) .ret) (.seq (.region 8 (aP F 8) false) (.cond (.tmp 39) (.seq (.region 9 (aP F 9) false) .ret) .skip))))) (.region 10 (aP F 10) false)
def DH(F:Func):Code:=.seq (.region 3 (aP F 3) false) (.seq (.cond (.tmp 20) .skip (.exit 0)) (.seq (.block 1 (.seq (.region 4 (aP F 4) false) (.seq (.region 5 (aP F 5) false) (M6 F)))) (.region 11 (aP F 11) false)))
def Jr(F:Func):Code:=.seq (.region 12 (aP F 12) false) .ret
def S2(F:Func):Code:=.seq (.region 0 (aP F 0) false) (.seq (.region 1 (aP F 1) false) (.seq (.seq (.region 2 (aP F 2) false) (.block 0 (.loop (DH F)))) (Jr F)))
def vv(F:Func):List Item:=[.code (DH F),.inLoop (DH F),.inBlock 0,.code (Jr F)]
def DI(F:Func):List Item:=[.code (M6 F),.inBlock 1,.code (.region 11 (aP F 11) false),.inLoop (DH F),.inBlock 0,.code (Jr F)]
theorem Gg:f11.body=some (S2 f11):=by kernel_rfl
section
variable{N:Nat}{K:bZ}{o:Oper}{F:bg}{x y:uaq}
def apT{s B:Nat}(b:o.op=.alloc 47)(hs:K s=some (vr B F)):bK (aa prog true) N K o (Ge B):=λa w hk=>by obtain⟨v,-,c,-⟩:=hk.has s _ hs;refine .inl ⟨.P w.heap.size 0,w.alloc (.cells #[.I 0,.N] 47),?_,⟨_,U,c,ag.new _ _ _⟩,(vaa _ w).alloc IB _⟩;generalize a.eval=ev;cases o;simp only at b;subst b;go_simp
def apU{s B n:Nat}(f:o.op=.makeSlice 77 x y)(e:bq K x (a3 0))(d:bq K y (a3 n))(hn:n<=1000)(hs:K s=some (vr B F)):bK (aa prog true) N K o (OU B n []):=λa w hk=>by obtain⟨v,-,g,-⟩:=hk.has s _ hs;have c:a.eval x=.I 0:=hk.ev e;have b:a.eval y=.I n:=hk.ev d;refine .inl ⟨.S w.heap.size 0 0 n,w.alloc (.cells (Array.replicate n (.N)) 57),?_,⟨_,_,U,g,ag.new _ _ _,Ab,λi rs h=>by simp at h,λi _ h=>by simp[h]⟩,(vaa _ w).alloc IB _⟩;obtain⟨i,m,l,k,j⟩:=vbt (show(prog.info? 57).map (λi=>(i.zero,i.size,i.bytes))=some (some (.N),1,24)from AU);have:=run_make (P:=aa prog true) w 77 57 i _ BB m l .i64 .i64 0 n AX AY (by rw[j];simp;omega) AY;generalize a.eval=ev at c b⊢;simp[execOp,f,c,b,this,k,madeCells,go_sem];rw[show(λx=>[Value.slice none 0 0][x % 1]?.getD default)=λ_:Nat=>Value.slice none 0 0 from vee λx=>by rw[Nat.mod_one];rfl,show Array.map (λ_:Nat=>Value.slice none 0 0) (Array.range n)=Array.replicate n (.N)from Array.ext Ab (by intros;simp)]
def OK:rh (aa prog true) 77 57 (.N) 1 24:=⟨BB,AU,AX,AX⟩
def apV{ops:eQ}{i d:Nat}{a:Act}{w:aH}{b n cap g:Nat}{u:Value}{cs:dC}(m:ops[i]?=some o)(p:o.guard=none)(hd:o.dst=some d)(c:o.op=.call {callee:=.builtin .append,args:=#[x,y],argTypes:=#[77,77]})(k:a.eval x=.S b 0 n cap)(f:a.eval y=.S g 0 1 1)(hv:w.cell? (.a g 0)=some u)(A:u.oneCell'=true)(e:ag w b cs 57)(z:cs.size=cap)(hn:n+1<=cap){Q:uak}(h:Q (a.put (some d) (.S b 0 (n+1) cap)) (w.setCell ⟨b,n,none⟩ u)):wpOps (aa prog true) ops (ly Q) [i] a w:=by
 obtain⟨q,hi,s,hsz,r⟩:=vbt OK.hi;have l:=run_append_room_cells (P:=aa prog true) w 77 o.type 57 q OK.ht hi b 0 n cap ⟨g,0,none⟩ 1 1 [u] AN (λj u t=>by
  grind[Addr.add]) AN hn (by have:=e.rules.1;grind) (by have:=e.rules.2;grind)
 refine ip m p hd (v:=.S b 0 (n+1) cap) (w1:=w.setCell ⟨b,n,none⟩ u) ?_ h;simp only[execOp,c,resolve,invoke,builtin,k,f,l,Result.andThen,Sem.run_bind,Sem.run_pure,List.map_toArray,vdc,List.map_nil];grind[World.setCells]
def OJ{bJ:uad}{n c:Nat}(a:o.op=.call {callee:=.builtin .len,args:=#[x],argTypes:=#[T]})(b:bq K x (fl (.slice bJ n c)))(d:T=38):bK (aa prog true) N K o (a3 n):=dy b λev w h=>by have e:ev x=.slice bJ n c:=h;subst d;refine⟨.I n,w,?_,U,vaa _ _⟩;cases o;simp only at a;subst a;go_simp
def apW{rs:List dg}(b:o.op=.call {callee:=.builtin .len,args:=#[x],argTypes:=#[57]})(d:bq K x (mD rs)):bK (aa prog true) N K o (a3 rs.length):=dy d λev w h=>by obtain⟨-,a,c,e,-⟩:=h;refine⟨.I rs.length,w,?_,U,vaa _ _⟩;cases o;simp only at b;subst b;go_simp
def apX{T':uaa}(b:o.op=.binOp .neq T x (.const (.N)) T')(c:bq K x n_)(d:T=64):bK (aa prog true) N K o (gB false):=λa w hk=>.inl ⟨.F,w,by
 have e:a.eval x=.N:=hk.ev c;have f:a.eval (.const (.N))=.N:=rfl;generalize a.eval=ev at e f⊢;subst d;cases o;simp only at b;subst b;go_simp,U,vaa _ _⟩
def OI(b:o.op=.build 47 #[]):bK (aa prog true) N K o (apB [.I 0,.N] (by simp;exact⟨.int _ _,.nil _ _⟩)):=λa w hk=>by refine .inl ⟨.agg #[.I 0,.N],w,?_,U,vaa _ _⟩;generalize a.eval=ev;cases o;simp only at b;subst b;go_simp
def apY{b:uad}{n uc:Nat}(a:o.op=.buildSlice 77 1 #[(0,x)])(ev:uaj)(w:aH)(c:ev x=.slice b n uc):(execOp ev o).run (aa prog true) w=.ok (.value (.S w.heap.size 0 1 1)) (w.alloc (.cells #[.slice b n uc] 57)):=by cases o;simp only at a;subst a;go_simp
def y_{v:Value}(b:o.op=.assign x){ev:uaj}(a:ev x=v)(w:aH):(execOp ev o).run P w=.ok (.value v) w:=by simp[execOp,b,a]
def apZ(a:o.op=.alloc 34)(ev:uaj)(w:aH):(execOp ev o).run (aa prog true) w=.ok (.value (.P w.heap.size 0)) (w.alloc (.cells #[.I 0,.I 0,.I 0,.N,.N,.N,.N] 34)):=by cases o;simp only at a;subst a;go_simp
def DJ{w:aH}{b o:Nat}{cs:dC}{v:Value}(a:ag w b cs T)(h:v.oneCell'=true)(c:o<cs.size:=by simp):(store ⟨b,o,none⟩ v).run P w=.ok () (w.setCell ⟨b,o,none⟩ v):=by rw[run_store _ _ _ _ _ h];simp[a.rules.1,a.rules.2,c]
def ap0(w:aH)(n m l k j i h:Value)(h0:n.oneCell'=true)(z:m.oneCell'=true)(v:l.oneCell'=true)(u:k.oneCell'=true)(t:j.oneCell'=true)(C:i.oneCell'=true)(B:h.oneCell'=true):∃w',(∀{o:Oper}{x y:uaq},o.op=.store 34 x y->∀{ev:uaj},ev x=.P w.heap.size 0->ev y=.agg #[n,m,l,k,j,i,h]->(execOp ev o).run (aa prog true) (w.alloc (.cells #[.I 0,.I 0,.I 0,.N,.N,.N,.N] 34))=.ok .skip w')/\ag w' w.heap.size #[n,m,l,k,j,i,h] 34/\cC w w':=by
 have b:=ag.new w #[.I 0,.I 0,.I 0,.N,.N,.N,.N] 34;have c:=b.set 0 n;have a:=c.set 1 m;have f:=a.set 2 l;have e:=f.set 3 k;have g:=e.set 4 j;have d:=g.set 5 i;have p:=d.set 6 h;simp only[List.setIfInBounds_toArray,List.set_cons_zero,List.set_cons_succ]at p;refine⟨_,@fun o x y q ev E D=>?_,p,(((((((((vaa _ w).alloc IB _).setCell IB _).setCell IB _).setCell IB _).setCell IB _).setCell IB _).setCell IB _).setCell IB _)⟩;have A:Hid _:=And.intro b (And.intro c (And.intro a (And.intro f (And.intro e (And.intro g d)))));generalize r:World.setCell _ _ _=W';have s:Hid _:=r;clear b c a f e g d p r;cases o;simp only at q;subst q;go_simp
 obtain⟨b,c,a,f,e,g,d⟩:=A.out;rw[DJ b h0,vca,DJ c z,vca,DJ a v,vca,DJ f u,vca,DJ e t,vca,DJ g C,vca,DJ d B,vca,s.out]
def ap1(c:o.op=.store 47 x y)(ev:uaj){w:aH}{b:Nat}(a:ag w b #[.I 0,.N] 47)(f:ev x=.P b 0)(d:ev y=.agg #[.I 0,.N]):(execOp ev o).run (aa prog true) w=.ok .skip w:=by
 obtain⟨i,g,h⟩:=a.all;cases o;simp only at c;subst c;have e:(w.setCell ⟨b,0,none⟩ (.I 0)).setCell ⟨b,1,none⟩ (.N)=w:=by rw[OT a U,OT a U]
 go_simp
end
def mF{N:Nat}{a:Act}{w:aH}(h:a.tmps.size=N):af N (be []) a w:=⟨h,λ_ _ e=>DG⟩
def bX{N:Nat}{l:List (Nat×bg)}{a:Act}{w:aH}{s:Nat}{F:bg}{v:Value}(h:a.tmps[s]?=some v)(hv:F.R w v)(hk:af N (be l) a w):af N (be ((s,F)::l)) a w:=⟨hk.size,λs' G e=>by
 unfold be at e;split at e
 .rename_i b;cases e;exact⟨v,b▸h,hv⟩
 .exact hk.has s' G e⟩
def la{args:dC}{n i:Nat}{v:Value}(h:args[i]?=some v):(⟨args++Array.replicate n undef,[]⟩:Act).tmps[i]?=some v:=by show(args++Array.replicate n undef)[i]?=some v;rw[Array.getElem?_append_left (vag.1 h).1];exact h
def rr{N:Nat}{K:bZ}{a:Act}{w:aH}{s:Nat}{b c:Bool}(h:af N K a w)(e:K s=some (gB b))(d:b=c):a.eval (.tmp s)=.bool c:=d▸h.ev (x:=.tmp s) (F:=gB b) e
abbrev l7(n0 N:Nat)(D:List (List dg))(W ab:Int)(k:Nat):List (Nat×bg):=[(9,OU n0 N D),(8,Ge n0),(5,gh wW (W,ab)),(18,a3 N),(19,a3 k)]
section
variable{n0 N k c:Nat}{bJ:uad}{W ab:Int}{D:List (List dg)}{rs:List dg}{ns:List sB}{gF:sB}{ts:List (List bQ)}{aZ br:Value}{a:Act}{w:aH}
def ap2(a5:N<=1000)(hd:a.defers=[])(hn:n0<=w.heap.size)(hk:af 57 (be [(0,fl aZ),(1,fl (.slice bJ N c)),(2,kx W ab),(3,mX)]) a w):
 cb (aa prog true) [.code (S2 f11)] (vv f11) (λa1 w1=>a1.defers=[]/\(a1.tmps[0]?=some aZ/\a1.tmps[17]?=some (.slice bJ N c))/\af 57 (be (l7 n0 N [] W ab 0)) a1 w1/\Below n0 w w1) a w:=by
 obtain⟨u,h,g⟩:=hk.has 3 _ U;have hk:=bX (F:=vr n0 mX) h ⟨hn,g⟩ hk;unfold S2;refine cG ?_;rw[ey (aP f11 0)];refine f5 hk (aC U (SS U U)<|aC U (eD (F:=n_) U IX)<|aC U (eD (F:=a3 0) U IX)<|aC U (apT (s:=3) U U)<|rfl) λa1 w1 f d1 b1=>cG ?_;rw[ey (aP f11 1)];refine f5 f (aC U IW<|aC U (OJ U U U)<|aC U (apU (s:=3) U IX U a5 U)<|aC U In<|rfl) λq w2 e j l=>cG (cG ?_);rw[ey (aP f11 2)];refine f5 e (aC U IW<|aC U (OJ U U U)<|aC U (cQ (F:=a3 (0:Nat)) U IX)<|rfl) λp o b i k=>wG (QT (i9 ⟨i.trans (j.trans (d1.trans hd)),?_,b.a7 ⟨U,U,U,U,U,PA⟩,?_⟩))
 .obtain⟨v,n,rfl⟩:=b.has 0 _ U;obtain⟨u,m,rfl⟩:=b.has 17 _ U;exact⟨n,m⟩
 .have d:=b1.trans (l.mono b1.size);exact(d.trans (k.mono d.size)).mono hn
def ap3(Q:D.length=k)(a5:N<=1000)(T:k<N)(E:ns[k]?=some gF)(hd:a.defers=[])(hn:n0<=w.heap.size)(h0:a.tmps[0]?=some aZ)(A:a.tmps[17]?=some br)(ht:(cP 1 k9 ts).R w aZ)(C:(cP 7 n9 ns).R w br)(h:af 57 (be (l7 n0 N D W ab k)) a w):
 cb (aa prog true) (vv f11) (.R (aP f11 5) (List.range' 4 6)::DI f11) (λa1 w1=>a1.defers=[]/\(a1.tmps[0]?=some aZ/\a1.tmps[17]?=some br)/\af 57 (be ((27,cP 1 n8 D)::(25,nC gF)::(26,cP 1 k9 ts)::(28,kx W ab)::(10,a3 k)::l7 n0 N D W ab k)) a1 w1/\Below n0 w w1) a w:=by
 have hk:=bX (F:=Ay aZ (cP 1 k9 ts)) h0 ⟨U,ht⟩<|bX (F:=Ay br (cP 7 n9 ns)) A ⟨U,C⟩ h;unfold vv DH;refine cG ?_;rw[ey (aP f11 3)];refine f5 hk (aC U (MZ U U U AX)<|rfl) λa1 w1 p d1 b1=>cG (lz (t:=true) (rr p U BC) (x7 (cG (wG (cG ?_)))));rw[ey (aP f11 4)];refine ra (show cb _ (.R _ (List.range' 0 (3+3))::_) _ _ _ _ from k_ p (aC U IW<|aC U (apC U U U E AX)<|aC U (SU U U)<|rfl) AX λc w2 e L M=>wI ?_);obtain⟨P,l,o,rfl,q⟩:=e.has 23 _ U;obtain⟨b,j,I⟩:=e.has 21 _ U;refine fP (R:=λa' w'=>a'=c.put (some 11) (.P w2.heap.size 0)/\w'=w2.alloc (.cells #[.I 0,.I 0,.I 0,.N,.N,.N,.N] 34)) (ip U U U (apZ U _ _) ⟨U,U⟩) ?_;rintro _ _ ⟨rfl,rfl⟩;have i:(c.put (some 11) (.P w2.heap.size 0)).tmps[21]?=some b:=(et AX).trans j;refine fP (R:=λa' w'=>a'=(c.put (some 11) (.P w2.heap.size 0)).put (some 10) b/\w'=w2.alloc (.cells #[.I 0,.I 0,.I 0,.N,.N,.N,.N] 34)) (ip (v:=b) U U U (y_ U (cd i) _) ⟨U,U⟩) ?_;rintro _ _ ⟨rfl,rfl⟩;have z:((c.put (some 11) (.P w2.heap.size 0)).put (some 10) b).tmps[11]?=some (.P w2.heap.size 0):=(et AX).trans (ja (by rw[e.size];decide));have g:((c.put (some 11) (.P w2.heap.size 0)).put (some 10) b).tmps[23]?=some _:=(et AX).trans ((et AX).trans l);obtain⟨y,B,J,f⟩:=ap0 w2 (.I gF.1) (.I gF.2.1) (.I 0) (.N) (.N) (.N) o U U U U U U (apQ q);refine fP (R:=λa' w'=>a'=(c.put (some 11) (.P w2.heap.size 0)).put (some 10) b/\w'=y) (sr U U U (B U (cd z) (cd g)) ⟨U,U⟩) ?_;rintro _ _ ⟨rfl,rfl⟩;have hcell:=J.rules.1;have H:=(e.put (s:=11) (F:=gh n9 gF) AX f ⟨w2.heap.size,0,U,o,⟨hcell _,hcell _,hcell _,hcell _,hcell _,hcell _,hcell _⟩,bw.mono oH (bm.b4 f) q⟩).put (s:=10) (F:=a3 k) AX (vaa _ _) I;refine nX (cG (ra ?_));rw[ey (aP f11 5)];refine(show cb _ (.R _ (List.range' 0 (4+6))::_) _ _ _ _ from k_ H (aC U (SU U U)<|aC U (Jh U U)<|aC U IW<|aC U (Jo U U)<|rfl) AX λS O d K cH=>i9 ⟨K.trans ((put_defers _ _ _).trans ((put_defers _ _ _).trans (L.trans (d1.trans hd)))),?_,?_,?_⟩)
 .obtain⟨v,n,rfl,-⟩:=d.has 0 _ U;obtain⟨u,m,rfl,-⟩:=d.has 17 _ U;exact⟨n,m⟩
 .obtain⟨v,n,m⟩:=d.has 27 _ U;exact bX n (y9.list m AY) (d.a7 ⟨U,U,U,U,U,U,U,U,U,PA⟩)
 .have x:=b1.trans (M.mono b1.size);have r:=x.trans (f.mono x.size);exact(r.trans (cH.mono r.size)).mono hn
def ap8(hD:D.length=k)(a5:N<=1000)(AE:k<N)(Ju:rs.length<=300)(hf:Full rs)(hF:∀x∈D,Full x)(hd:a.defers=[])(hn:n0<=w.heap.size)(h0:a.tmps[0]?=some aZ)(sD:a.tmps[17]?=some br)(h:af 57 (be ((29,rp rs)::l7 n0 N D W ab k)) a w):
 cb (aa prog true) (.R (aP f11 5) (List.range' 5 5)::DI f11) (vv f11) (λa1 w1=>a1.defers=[]/\(a1.tmps[0]?=some aZ/\a1.tmps[17]?=some br)/\af 57 (be (l7 n0 N (D++[rs]) W ab (k+1))) a1 w1/\Below n0 w w1) a w:=by
 have hk:=bX (F:=fl aZ) h0 rfl<|bX (F:=fl br) sD rfl h;unfold DI M6;rw[ey (aP f11 5)];refine(show cb _ (.R _ (List.range' 5 (5+0))::_) _ _ _ _ from k_ hk (aC rfl IW<|aC rfl (SV rfl rfl)<|aC rfl (SW rfl rfl)<|aC rfl In<|aC rfl In<|rfl) AX λa1 w1 k1 d1 b1=>tA (cG (wG (cG ?_))));rw[ey (aP f11 6)];refine f5 k1 (aC rfl IW<|aC rfl (apX rfl rfl rfl)<|aC rfl In<|rfl) λbA w2 X d2 b2=>lz (t:=false) (rr X rfl rfl) (cG ?_);rw[ey (aP f11 8)];refine f5 X (aC rfl IW<|aC rfl (apW rfl rfl)<|aC rfl (SD (n:=300) rfl rfl IX AX)<|aC rfl In<|rfl) λbR w3 V d3 bH=>lz (t:=false) (rr V rfl BC) (x7 (Iu ?_));rw[ey (aP f11 10)];refine ra (show cb _ (.R _ (List.range' 0 (2+3))::_) _ _ _ _ from k_ V (aC rfl IW<|aC rfl IW<|rfl) AX λy b g d4 cH=>wI ?_);obtain⟨aB5,T,d,cs,rfl,o,dX,j,Mp,S⟩:=g.has 45 _ rfl;obtain⟨qJ,tT,-⟩:=g.has 9 _ rfl;obtain⟨aB6,Q,Z⟩:=g.has 46 _ rfl;obtain⟨z,uc,rfl,aB7⟩:=Z.2;have cr:cC b (b.alloc (.cells #[.slice z rs.length uc] 57)):=(vaa _ b).alloc IB _;refine fP (R:=λa' w'=>a'=y.put (some 47) (.S b.heap.size 0 1 1)/\w'=b.alloc (.cells #[.slice z rs.length uc] 57)) (ip rfl rfl rfl (apY rfl _ _ (cd Q)) ⟨rfl,rfl⟩) ?_;rintro _ gg ⟨rfl,f⟩;have c:=g.put (s:=47) (F:=fl (.S b.heap.size 0 1 1)) AX (f▸cr) rfl;have P:gg.cell? (.a b.heap.size 0)=some (.slice z rs.length uc):=by rw[f];exact(ag.new _ _ _).rules.1 0
 have O:=(mD rs).fZ _ _ _ (f▸cr) Z;have M7:∀(i:Nat) r,D[i]?=some r->∃u,cs[i]?=some u/\(mD r).R gg u:=λi r hi=>by obtain⟨u,eM,fz⟩:=Mp i r hi;exact⟨u,eM,(mD r).fZ _ _ _ (f▸cr) fz⟩
 have m:ag gg d cs 57:=dX.call (f▸cr);obtain⟨E,l⟩:=y9.grow (n0:=n0) m o j AY M7 S O hf hF;refine fP (R:=λa' w'=>a'=(y.put (some 47) (.S b.heap.size 0 1 1)).put (some 48) (.S d 0 (D.length+1) N)/\w'=gg.setCell ⟨d,D.length,none⟩ (.slice z rs.length uc)) (apV rfl rfl rfl rfl (cd ((et AX).trans T)) (cd (ja (by rw[g.size];decide))) P rfl m j AY ⟨rfl,rfl⟩) ?_;rintro _ q ⟨rfl,B⟩;rw[<-B]at E l;refine fP (R:=λa' w'=>a'=((y.put (some 47) (.S b.heap.size 0 1 1)).put (some 48) (.S d 0 (D.length+1) N)).put (some 9) (.S d 0 (D.length+1) N)/\w'=q) (ip (v:=.S d 0 (D.length+1) N) rfl rfl rfl (y_ rfl (cd (ja (by rw[c.size];decide))) _) ⟨rfl,rfl⟩) ?_;rintro C q ⟨p,rfl⟩;have ht:∀s v,s≠48->s≠9->(y.put (some 47) (.S b.heap.size 0 1 1)).tmps[s]?=some v->C.tmps[s]?=some v:=λs v h1 h2 h3=>by rw[p];exact(et (Ne.symm h2)).trans ((et (Ne.symm h1)).trans h3)
 obtain⟨U,Gh,rfl⟩:=c.has 0 _ rfl;obtain⟨M,L,rfl⟩:=c.has 17 _ rfl;obtain⟨Jv,vy,Y,rfl,tU,K⟩:=c.has 8 _ rfl;obtain⟨aB8,vz,DO,M8,rfl,f0,f1⟩:=c.has 5 _ rfl;obtain⟨aB9,J,I⟩:=c.has 18 _ rfl;obtain⟨aB_,S4,S5⟩:=c.has 19 _ rfl;have H:Y≠d:=λe=>Fi;have jI:af 57 (be ((0,fl U)::(17,fl M)::l7 n0 N (D++[rs]) W ab k)) C q:=
  bX (ht _ _ AX AX Gh) rfl<|bX (ht _ _ AX AX L) rfl<|bX (by rw[p];exact ja (by rw[iz,c.size];decide)) l<|bX (ht _ _ AX AX vy) ⟨Y,rfl,tU,by rw[B];exact K.fL H _⟩<|bX (ht _ _ AX AX vz) ⟨DO,M8,rfl,E _ _ _ Ab f0,E _ _ _ Ab f1⟩<|bX (ht _ _ AX AX J) I<|bX (ht _ _ AX AX S4) S5<|mF (by rw[p,iz,iz];exact c.size)
 have d6:C.defers=[]:=by rw[p,put_defers,put_defers,put_defers];exact d4.trans (d3.trans (d2.trans (d1.trans hd)))
 have e2:=b1.trans (b2.mono b1.size);have e3:=e2.trans (bH.mono e2.size);have e4:=e3.trans (cH.mono e3.size);have bW:Below n0 w q:=by rw[B,f];exact(((e4.trans (cr.mono e4.size)).mono hn)).setCell o _
 refine nX (Iu ?_);rw[ey (aP f11 11)];refine f5 jI (aC rfl (F8 (n:=1) rfl rfl IX Bt AX)<|aC rfl IW<|rfl) λmH vA A d7 vB=>QU (i9 ⟨d7.trans d6,?_,A.a7 ⟨rfl,rfl,rfl,rfl,rfl,PA⟩,bW.trans (vB.mono (vac hn bW.size))⟩);obtain⟨v,aQ,rfl⟩:=A.has 0 _ rfl;obtain⟨u,aT,rfl⟩:=A.has 17 _ rfl;exact⟨aQ,aT⟩
def aqj(A:D.length=N)(h0:0<N)(a5:N<=1000)(o:D[N-1]?=some rs)(hd:a.defers=[])(hn:n0<=w.heap.size)(h:af 57 (be (l7 n0 N D W ab N)) a w):
 pD (aa prog true) f11 (vv f11) (λv w1=>Gf rs w1 v/\Below n0 w w1) a w:=by
 obtain⟨C,g,j⟩:=h.has 9 _ U;have hk:=bX (F:=cP 1 n8 D) g (y9.list j AY) h;unfold vv DH;refine uI (ks':=[.code .ret]) (cG ?_);rw[ey (aP f11 3)];refine f5 hk (aC U (MZ U U U AX)<|rfl) λa1 w1 f d1 b1=>cG (lz (t:=false) (rr f U Ab) (L5 U ?_));unfold Jr;refine cG ?_;rw[ey (aP f11 12)];have x:((D.length:Int)-1)=((N-1:Nat):Int):=AY;refine ra (show cb _ (.R _ (List.range' 0 (9+1))::_) _ _ _ _ from k_ f (aC U IW<|aC U IW<|aC U (DC U U AX)<|aC U (Ji (n:=1) U U IX Bt AX)<|aC U (j8 (i:=N-1) U U (by rw[<-x];rfl) o AX)<|aC U (nA U U (ND _) AX)<|aC U (OI U)<|aC U In<|aC U (eD (F:=a3 0) U IX)<|rfl) AX λr w2 c q s=>wI ?_);have p:=b1.trans (s.mono b1.size);obtain⟨E,e,z,rfl,-,b⟩:=c.has 8 _ U;obtain⟨u,d,rfl⟩:=c.has 56 _ U;obtain⟨k,y,m⟩:=c.has 6 _ U;obtain⟨B,l,rfl⟩:=c.has 7 _ U;refine fP (R:=λa' w'=>a'=r/\w'=w2) (sr U U U (ap1 U _ b (cd e) (cd d)) ⟨U,U⟩) ?_;rintro _ _ ⟨rfl,rfl⟩;refine nX (i9 (B4 (v:=.tuple #[k,.I 0,rq]) (q.trans (d1.trans hd)) ?_ ⟨⟨_,U,m.1⟩,p.mono hn⟩));obtain⟨c1,cg,du⟩:=b.all;simp[results,results11,go_sem,y,l,e,c1,rq]
end
section
variable{O:gp}
def M9(F:Func):Code:=.seq (.region 10 (jp F 10) true) .ret
def Jx(F:Func):Code:=(.seq (.region 0 (jp F 0) false) (.seq (.seq (.region 1 (jp F 1) false) (.block 0 (.seq (.region 2 (jp F 2) false) (.cond (.tmp 12) (.seq (.region 3 (jp F 3) true) .ret) (.seq (.region 4 (jp F 4) false) (.cond (.tmp 29) (.seq (.region 5 (jp F 5) true) .ret) (.seq (.region 6 (jp F 6) false) (.cond (.tmp 44) (.seq (.region 7 (jp F 7) true) .ret) (.seq (.region 8 (jp F 8) false) (.cond (.tmp 63) (.seq (.region 9 (jp F 9) true) .ret) .skip)))))))))) (M9 F)))
theorem S7:Tryz.f18.body=some (Jx Tryz.f18):=by kernel_rfl
def AF{N:Nat}{K:bZ}{a:Act}{w:aH}(h:af N K a w){s:Nat}{b:Bool}(e:K s=some (gB b)):a.eval (.tmp s)=.bool b:=h.ev (x:=.tmp s) (F:=gB b) e
def aql{es:uah}{t:List bQ}{x y:Int}{a:Act}{w:aH}(hd:a.defers=[])(hk:af 86 (be [(0,nC (1,0,es)),(1,cP 1 k9 [t]),(3,kx x y)]) a w):
 cb (aa prog true) [.code (Jx Tryz.f18)] [.code (.region 10 (jp Tryz.f18 10) true),.code .ret] (λa1 w1=>a1.defers=[]/\af 86 (be [(1,cP 1 k9 [t]),(4,gh n9 (1,0,es)),(7,gh wW (x,y))]) a1 w1/\cC w w1) a w:=by
 unfold Jx;refine cG ?_;rw[ey (jp Tryz.f18 0)];refine f5 hk (aC U (NZ U U)<|aC U (SS U U)<|aC U (eD (F:=n_) U IX)<|aC U (eD (F:=n_) U IX)<|rfl) λa1 w1 k d1 b1=>cG (cG ?_);rw[ey (jp Tryz.f18 1)];refine f5 k (aC U (NY U U)<|aC U It<|rfl) λE w2 j q s=>wG (cG ?_);rw[ey (jp Tryz.f18 2)];refine f5 j Im λD v c p r=>lz (t:=false) (AF c U) (cG ?_);rw[ey (jp Tryz.f18 4)];refine f5 c Im λC u b o cH=>lz (t:=false) (AF b U) (cG ?_);rw[ey (jp Tryz.f18 6)];refine f5 b Im λB gg f n cr=>lz (t:=false) (AF f U) (cG ?_);rw[ey (jp Tryz.f18 8)];refine f5 f Im λz A d m l=>lz (t:=false) (AF d U) (x7 (Iu ?_));unfold M9;have i:=b1.trans (s.mono b1.size);have h:=i.trans (r.mono i.size);have g:=h.trans (cH.mono h.size);have e:=g.trans (cr.mono g.size);exact cG (i9 ⟨m.trans (n.trans (o.trans (p.trans (q.trans (d1.trans hd))))),d.a7 ⟨U,U,U,PA⟩,e.trans (l.mono e.size)⟩)
def aqm{Post:fE}{M:c5}{w:aH}{args:dC}{es:uah}{t:List bQ}{ab S W:Nat}(Q:aL (bU M) args args)(s:af 86 (be [(0,nC (1,0,es)),(1,cP 1 k9 [t]),(3,kx W ab)]) ⟨args++Array.replicate (86-args.size) undef,[]⟩ w)(h0:0<t.length)(f:t.length<=1000000)(P:0<ab)(B:ab<=64)(q:0<W)(D:W<=16)(E:S<=300)(v:t[0].j_.length=S)(K:∀i,i<S->∀c∈t,Ag i c):
 eb O prog Post 18 args M w 1 (λu _ w'=>(rp (qt t 0 S)).R w' u/\cO M w w'):=by
 refine Ni [] (N:=86) (id:=10) (AC:=be [(1,cP 1 k9 [t]),(4,gh n9 (1,0,es)),(7,gh wW (W,ab))]) (l2:=[(8,mD (qt t 0 S)),(9,n_)]) (ops:=jp Tryz.f18 10) (S:=⟨8,λ_=>false,λ_=>true,[]⟩) (cp:=rp (qt t 0 S)) l5 mixed func18 Nq S7 Q s (e7 ⟨PA,PA,PA,PA⟩) (e7 ⟨PA,PA,PA,PA⟩) ⟨PA,PA,PA⟩ trivial AT AT AT (λa W hd hk=>aql hd hk) AT U U U func28 AU U U U (by
  rw[ey (jp Tryz.f18 10)];exact hq U (Jo U U)<|hq U IW<|hq U (NP U U)<|hq U It<|hq U (j8 (i:=0) U U U U AX)<|hq U (apL U U)<|hq U (apM U U)<|hq U (lP U U AX)<|hg U (λa M w Shun j hk L=>by
   obtain⟨u1,h,r1⟩:=hk.has 75 (kx W ab) U;obtain⟨u2,b,_,rfl,c,rfl,d⟩:=hk.has 82 (N3 _ (Gb t)) U;cases r1;rw[show(#[Operand.tmp 75,.tmp 82].map a.eval)=#[.agg #[.I W,.I ab],.iface 103 (.agg #[c])]from by grind[cd]];have hv:ap (bU M) c c:=by
    have:=L.get _ _ _ b b;cases this with
    |iface _ k=>cases k with
     |agg _ hg=>exact hg 0 _ _ U U
   intro n g hn p f1 a1 l A r1 r cs1 C R;exact apk j.cl j.wB d hv h0 f P B q D E v K n g hn p f1 a1 l A r1 r cs1 C λu M' w' m g J I H F z⟨x,e,T,y,o⟩=>R u M' w' m g J I H F z ⟨⟨x,e,T,y⟩,cO.E1 o⟩)<|hq U (SV U U)<|hq U (SW U U)<|hq U In<|hq U In<|rfl) U ⟨U,U,PA⟩ λa W hk=>?_
 obtain⟨u1,h,r1⟩:=hk.has 8 (mD (qt t 0 S)) U;obtain⟨u2,b,d⟩:=hk.has 9 n_ U;cases d;refine⟨.tuple #[u1,.N],?_,⟨_,U,r1⟩⟩;rw[(xP AT _ _).1];simp[sf,tp,results18,vcr,h,b]
def aqn{j:Int}{es:uah}{D:List (List dg)}{x y:Int}{a:Act}{w:aH}(hd:a.defers=[])(hk:af 86 (be [(0,nC (5,j,es)),(2,cP 1 n8 D),(3,kx x y)]) a w):
 cb (aa prog true) [.code (Jx Tryz.f18)] (.code (.region 9 (jp Tryz.f18 9) true):: .code .ret::[.inBlock 0,.code (M9 Tryz.f18)]) (λa1 w1=>a1.defers=[]/\af 86 (be [(2,cP 1 n8 D),(4,gh n9 (5,j,es)),(7,gh wW (x,y))]) a1 w1/\cC w w1) a w:=by
 unfold Jx;refine cG ?_;rw[ey (jp Tryz.f18 0)];refine f5 hk (aC U (NZ U U)<|aC U (SS U U)<|aC U (eD (F:=n_) U IX)<|aC U (eD (F:=n_) U IX)<|rfl) λa1 w1 l d1 b1=>cG (cG ?_);rw[ey (jp Tryz.f18 1)];refine f5 l (aC U (NY U U)<|aC U It<|rfl) λI w2 k r u=>wG (cG ?_);rw[ey (jp Tryz.f18 2)];refine f5 k Im λH z c q s=>lz (t:=false) (AF c U) (cG ?_);rw[ey (jp Tryz.f18 4)];refine f5 c Im λE v b p cH=>lz (t:=false) (AF b U) (cG ?_);rw[ey (jp Tryz.f18 6)];refine f5 b Im λC gg f o cr=>lz (t:=false) (AF f U) (cG ?_);rw[ey (jp Tryz.f18 8)];refine f5 f Im λA B d n m=>lz (t:=true) (AF d U) ?_;have i:=b1.trans (u.mono b1.size);have h:=i.trans (s.mono i.size);have g:=h.trans (cH.mono h.size);have e:=g.trans (cr.mono g.size);exact cG (i9 ⟨n.trans (o.trans (p.trans (q.trans (r.trans (d1.trans hd))))),d.a7 ⟨U,U,U,PA⟩,e.trans (m.mono e.size)⟩)
def eb.more{Post:fE}{args:dC}{M:c5}{w:aH}{d a:Nat}{V:ube}(h:eb O prog Post f args M w d V)(hd:d<=a):eb O prog Post f args M w a V:=λn Shun hn k g aF az aI aK aG csZ c i=>
 h n Shun AY k g aF az aI aK aG csZ c λu M' w' b j e=>i u M' w' b j AY
def KG{cp je kh:bg}(Jy:cp.ok=λ_=>True)(Gi:je.ok=λ_=>True)(Gj:kh.ok=λ_=>True)(g:∀(K:bZ)(o:Oper)(x:uaq),o.op=.extract x 0->bq K x cp->bK (aa prog true) 86 K o je)(f:∀(K:bZ)(o:Oper)(x:uaq),o.op=.extract x 1->bq K x cp->bK (aa prog true) 86 K o kh)(k:∀w x y,je.R w x->kh.R w y->cp.R w (.tuple #[x,y])){Post:fE}{M:c5}{w:aH}{args:dC}{es:uah}{D:List (List dg)}{rs:List dg}{j ab W:Nat}(q:aL (bU M) args args)(n:af 86 (be [(0,nC (5,j,es)),(2,cP 1 n8 D),(3,kx W ab)]) ⟨args++Array.replicate (86-args.size) undef,[]⟩ w)(p:D[j]?=some rs)(r:∀M w Shun br a_,Home O prog M Shun w->aL (bU M) #[br,a_,.agg #[.I W,.I ab]] #[br,a_,.agg #[.I W,.I ab]]->SR (5,j,es) w br->(mD rs).R w a_->eb O prog Post 30 #[br,a_,.agg #[.I W,.I ab]] M w 2 (λu _ w'=>cp.R w' u/\cO M w w')):
 eb O prog Post 18 args M w 2 (λu _ w'=>cp.R w' u/\cO M w w'):=by
 refine Ni [.inBlock 0,.code (M9 Tryz.f18)] (N:=86) (id:=9) (AC:=be [(2,cP 1 n8 D),(4,gh n9 (5,j,es)),(7,gh wW (W,ab))]) (l2:=[(8,je),(9,kh)]) (ops:=jp Tryz.f18 9) (S:=⟨7,λ_=>false,λ_=>true,[]⟩) (cp:=cp) l5 mixed func18 Nq S7 q n (e7 ⟨PA,PA,PA,PA⟩) (e7 ⟨PA,PA,PA,PA⟩) ⟨AN,AN,PA⟩ AN AT AT AT (λa W hd hk=>aqn hd hk) AT U U U func30 AU U U U (by
  rw[ey (jp Tryz.f18 9)];exact hq U (SU U U)<|hq U IW<|hq U (NP U U)<|hq U It<|hq U (j8 U U U p AX)<|hq U (nA U U (ND _) AX)<|hq U (Jo U U)<|hg U (λa M w Shun s hk e=>by
   obtain⟨u1,c,r1⟩:=hk.has 65 (nC (5,j,es)) U;obtain⟨u2,b,d⟩:=hk.has 70 (mD rs) U;obtain⟨u3,h,m⟩:=hk.has 71 (kx W ab) U;cases m;rw[show(#[Operand.tmp 65,.tmp 70,.tmp 71].map a.eval)=#[u1,u2,.agg #[.I W,.I ab]]from by grind[cd]];exact r M w Shun u1 u2 s (kO (l:=[u1,u2,.agg #[.I W,.I ab]]) λx i=>by
    simp only[vbc,vbr,vds]at i;rcases i with rfl|rfl|rfl
    .exact e.get _ _ _ c c
    .exact e.get _ _ _ b b
    .exact e.get _ _ _ h h) r1 d) (hok:=AN)<|hq U (g _ _ _ U U) (hok:=AN)<|hq U (f _ _ _ U U) (hok:=AN)<|hq U In (hok:=AN)<|hq U In (hok:=AN)<|rfl) U ⟨U,U,PA⟩ λa W hk=>?_
 obtain⟨u1,c,r1⟩:=hk.has 8 je U;obtain⟨u2,b,d⟩:=hk.has 9 kh U;refine⟨.tuple #[u1,u2],?_,k _ _ _ r1 d⟩;rw[(xP AT _ _).1];simp[sf,tp,results18,vcr,c,b]
end
end bj
namespace cv
open RowKit av bj
abbrev Nk:Array Value:=fR 1 0 none 0 0
def zd(w:aH)(c7 no:Nat)(op a:Int)(b5:uad)(n gc:Nat):Prop:=∀(j:Nat) v,(fR op a b5 n gc)[j]?=some v->w.cell? (.a c7 (no+j))=some v
variable{w:aH}{c7 gc n no:Nat}{b5:uad}
def DV{op a:Int}(h:zd w c7 no op a b5 n gc):w.cell? (.a c7 no)=some (.I op)/\w.cell? (.a c7 (no+1))=some (.I a)/\w.cell? (.a c7 (no+2))=some (.I 0)/\w.cell? (.a c7 (no+3))=some (.N)/\w.cell? (.a c7 (no+4))=some (.N)/\w.cell? (.a c7 (no+5))=some (.N)/\w.cell? (.a c7 (no+6))=some (.slice b5 n gc):=
 ⟨h 0 _ U,h 1 _ U,h 2 _ U,h 3 _ U,h 4 _ U,h 5 _ U,h 6 _ U⟩
variable{w':aH}
def Gt{op a:Int}(h:zd w c7 no op a b5 n gc)(hk:bm w w'):zd w' c7 no op a b5 n gc:=λj v hv=>hk _ _ _ (h j v hv)
def arb(w:aH):Calls (aa prog true) 34 #[.agg Nk] w λe w'=>e=.returned (.T)/\cC w w':=by
 unfold Nk fR;go_enter (bo (upd:=true) func34 AT),ntmps34
 go_wp2
 go_ret
 exact⟨U,(vaa _ _).alloc IB _⟩
def arc(b5:uad)(gc:Nat)(w:aH):Calls (aa prog true) 34 #[.agg (fR 5 0 b5 1 gc)] w λe w'=>e=.returned (.T)/\cC w w':=by
 unfold fR;go_enter (bo (upd:=true) func34 AT),ntmps34
 go_wp2
 go_ret
 exact⟨U,(vaa _ _).alloc IB _⟩
def ard(sb cL:Nat)(ta:uad)(w:aH)(h0:w.cell? (.a sb 0)=some (.slice ta 1 cL)):Calls (aa prog true) 33 #[.P sb 0,.agg Nk] w λe w'=>e=.returned (.T)/\cC w w':=by
 unfold Nk fR;have a:=dx h0;go_enter (bo (upd:=true) func33 AT),ntmps33
 go_wp2
 go_region
 go_wp2
 go_ret
 exact⟨U,((vaa _ _).alloc IB _).drew⟩
def are(sb kb kc:Nat)(w:aH)(a:w.cell? (.a sb 3)=some (.S kb 0 1 kc))(hk:w.cell? (.a kb 0)=some (.F)):Calls (aa prog true) 55 #[.P sb 0,.I 0] w λe w'=>e=.returned (.T)/\w'=w:=by
 go_enter (bo (upd:=true) func55 AT),ntmps55
 go_wp2
 go_ret
 simp_all
def arf(sb kb kc gc:Nat)(b5:uad)(w:aH)(a:w.cell? (.a sb 3)=some (.S kb 0 1 kc))(hk:w.cell? (.a kb 0)=some (.F)):Calls (aa prog true) 33 #[.P sb 0,.agg (fR 5 0 b5 1 gc)] w λe w'=>e=.returned (.T)/\cC w w':=by
 unfold fR;go_enter (bo (upd:=true) func33 AT),ntmps33
 go_wp2_with fail
 refine(are sb kb kc _ (Gd a _) (Gd hk _)).mono ?_;rintro e w' ⟨rfl,rfl⟩;go_wp2
 go_ret
 exact⟨U,(vaa _ _).alloc IB _⟩
def z2(i:Nat)(hi:i<2)(op:Int)(b5:uad)(n gc:Nat)(sb c7 no g9:Nat)(w:aH)(p:w.cell? (.a sb 1)=some (.S c7 no 2 g9))(hn:zd w c7 (no+i*7) op 0 b5 n gc)(hs:∀w',(∀a v,w.cell? a=some v->w'.cell? a=some v)->Calls (aa prog true) 33 #[.P sb 0,.agg (fR op 0 b5 n gc)] w' λe w''=>e=.returned (.T)/\Below w'.heap.size w' w'')(d:∀w',Calls (aa prog true) 34 #[.agg (fR op 0 b5 n gc)] w' λe w''=>e=.returned (.T)/\Below w'.heap.size w' w''):Calls (aa prog true) 25 #[.P sb 0,.I (i:Int)] w λe w'=>e=.returned (.T)/\cC w w':=by
 obtain⟨z,d1,y,x,u,t,s⟩:=DV hn;have m:(0:Int)<=(i:Int):=AY;have o:(i:Int)<(2:Int):=AY;have l:¬(10:Int)<=(i:Int):=AY;have b:Hid _:=hs (w.alloc (.cells (fR op 0 b5 n gc) 34)) (λa v h=>Gd h _);have HC:Hid _:=d;clear hs d;unfold fR at b;go_enter (bo (upd:=true) func25 AT),ntmps25
 go_wp2
 refine vct b.out ?_;rintro e w1 ⟨rfl,c⟩;have bI:=(ag.new w (fR op 0 b5 n gc) 34).call c;obtain⟨k,q,r⟩:=bI.all;have g:Hid (cC w w1):=Below.step c ((vaa _ _).alloc IB _) Ab;clear c bI b;unfold fR at k;go_wp2
 refine vct (HC.out _) ?_;rintro e w2 ⟨rfl,f⟩;have j:Hid (cC w w2):=Below.step f g.out g.out.size;clear f;go_wp2
 go_ret
 exact⟨U,j.out⟩
variable{w0:aH}{bs g9:Nat}{ts:List (List bQ)}{dc:List (List (Int×Int))}
section
attribute [local go_sem ↓] Go.wp_at_zero Go.wp_at_succ
def arg(w:aH):Calls (aa prog true) 27 #[.agg (fR 1 0 none 0 0)] w λe w'=>∃v,e=.returned v/\jB w' v []/\fB 3 w' v/\cC w w':=by
 unfold fR;go_enter (bo (upd:=true) func27 AT),ntmps27
 go_wp2
 go_ret
 exact⟨_,U,bw.nil _ _ _,λ_ _ _ _ e=>by simp at e,(vaa _ _).alloc IB _⟩
def arh(b5:uad)(gc:Nat)(w:aH):Calls (aa prog true) 27 #[.agg (fR 5 0 b5 1 gc)] w λe w'=>∃v,e=.returned v/\jB w' v [0]/\fB 3 w' v/\cC w w':=by
 unfold fR;go_enter (bo (upd:=true) func27 AT),ntmps27
 go_wp2
 go_ret
 have bI:=ag.new (w.alloc (.cells #[.I 5,.I 0,.I 0,.N,.N,.N,.slice b5 1 gc] 34)) #[.I 0] 3;simp at bI;exact⟨_,U,jB.box bI [0] 1 Ab AN,fB.box bI _ _ _,((vaa _ _).alloc IB _).alloc Ab _⟩
def zT{i N:Nat}{op cD:Int}{gQ:Nat}{a d f:Value}{ns:List oI}{aW:ubs}{vals:uam}(h:Own w0 w bs a (.S c7 no N g9) d f ts ns dc aW vals)(hi:i<N)(Nl:N<=2)(y:dc.length<=20/\aW.length<=20)(hn:zd w0 c7 (no+i*7) op cD b5 gQ gc){l:uah}{ch:uaf}(M:∀x∈ch,∃q:Nat,x=(q:Int)/\q<aW.length)(aCr:ch.length<=2)(L:Calls (aa prog true) 25 #[.P bs 0,.I i] w λe w'=>e=.returned (.T)/\cC w w')(pG:∀w',Own w0 w' bs a (.S c7 no N g9) d f ts ns dc aW vals->Calls (aa prog true) 26 #[.P bs 0,.agg (fR op cD b5 gQ gc)] w' λe w''=>DS w'' e (some l)/\Below w'.heap.size w' w'')(K:∀w',Calls (aa prog true) 27 #[.agg (fR op cD b5 gQ gc)] w' λe w''=>∃v,e=.returned v/\jB w'' v ch/\fB 3 w'' v/\Below w'.heap.size w' w''):
 Calls (aa prog true) 16 #[.P bs 0,.I i] w λe w'=>e=.returned (.I 0)/\∃Nm Nn No,Own w0 w' bs a (.S c7 no N g9) Nm Nn ts ns (dc++[l]) (lF aW ch++[false]) No:=by
 have nE:Hid _:=y;have l8:Hid _:=hn;have HC:Hid _:=pG;have o:Hid _:=K;have ari:Hid _:=M;have vG:Hid (Own w0 w bs a (.S c7 no N g9) d f ts ns dc aW vals):=h;have J:Hid _:=L;have nj:(0:Int)<=(i:Int):=AY;have lX:(i:Int)<(N:Int):=AY;clear hn pG K M y h L;go_enter (bo (upd:=true) func16 AT),ntmps16
 go_wp2_with fail
 refine vct J.out ?_;rintro e w1 ⟨rfl,bG⟩;have O:Hid (Own w0 w1 bs a (.S c7 no N g9) d f ts ns dc aW vals):=vG.out.call bG;obtain⟨eM,fz,eX⟩:=O.out.box.all;obtain⟨d0,d1,d2,d3,d4,d5,d6⟩:=DV (Gt l8.out (bm.b4 O.out.below));clear bG vG J;go_wp2_with fail
 refine vct (HC.out _ O.out) ?_;rintro e w2 ⟨⟨v1,rfl,gO,Gq⟩,cE⟩;have S:Hid (Own w0 w2 bs a (.S c7 no N g9) d f ts ns dc aW vals):=O.out.call cE;have I:Hid (gR w2 v1 l):=gO;have H:Hid (fB 105 w2 v1):=Gq;obtain⟨a1,c1,rfl,-⟩:=gO.shape;clear eM fz eX d0 d1 d2 d3 d4 d5 d6 cE gO Gq O HC;obtain⟨eM,fz,eX⟩:=S.out.box.all;obtain⟨d0,d1,d2,d3,d4,d5,d6⟩:=DV (Gt l8.out (bm.b4 S.out.below));go_wp2_with fail
 refine vct (o.out _) ?_;rintro e p ⟨aCs,rfl,j,F,U⟩;obtain⟨ac,cc,rfl,-⟩:=j.shape;have hL:Hid (Own w0 p bs a (.S c7 no N g9) d f ts ns dc aW vals):=S.out.call U;have Np:Hid (gR p (.slice a1 l.length c1) l):=bw.mono oH (bm.b4 U) I.out;have E:Hid (fB 105 p (.slice a1 l.length c1)):=H.out.call U;have D:Hid (jB p (.slice ac ch.length cc) ch):=j;have C:Hid (fB 3 p (.slice ac ch.length cc)):=F;clear eM fz eX d0 d1 d2 d3 d4 d5 d6 j F U I H S o;go_wp2_with fail
 go_loopw [36] (λx W=>∃k:Nat,k<=ch.length/\x=.I k/\Own w0 W bs a (.S c7 no N g9) d f ts ns dc (lF aW (ch.take k)) vals/\jB W (.slice ac ch.length cc) ch/\fB 3 W (.slice ac ch.length cc)/\gR W (.slice a1 l.length c1) l/\fB 105 W (.slice a1 l.length c1))
  (λx _=>ch.length-(intOf x).toNat)
 case atStart=>exact⟨0,vaz _,rfl,by simpa[lF]using hL.out,D.out,C.out,Np.out,E.out⟩
 case round=>
  obtain⟨k,hk,rfl,dE,IE,s,Mi,B⟩:=hrel;have HOW:Hid (Own w0 wr bs a (.S c7 no N g9) d f ts ns dc (lF aW (ch.take k)) vals):=dE;have o:Hid (jB wr (.slice ac ch.length cc) ch):=IE;have oX:Hid (fB 3 wr (.slice ac ch.length cc)):=s;have Ti:Hid (gR wr (.slice a1 l.length c1) l):=Mi;have V:Hid (fB 105 wr (.slice a1 l.length c1)):=B;clear dE s Mi B hL D C Np E;by_cases hlt:k<ch.length
  .obtain⟨DW,aCt,aCu,Nr,ld,arj⟩:=ints_at o.out hlt;simp at Nr;obtain⟨rfl,rfl⟩:=Nr;obtain⟨q,hq,aCv⟩:=ari.out ch[k] AN;have Tj:q<(lF aW (ch.take k)).length:=by grind[z4]
   rw[hq]at arj;have vH:Hid _:=hq;obtain⟨gk,A,rfl,qL,hZ⟩:=World.ownsRow.form HOW.out.qK AY;have ark:=HOW.out.take Tj;have hO:=HOW.out.box.rules.1 3;have aCw:wr.cell? (.a bs 3)=some (.S gk 0 (lF aW (ch.take k)).length A):=AN;have aCx:=B8 HOW.out.qK q (.bool (lF aW (ch.take k))[q]) AN;obtain⟨bc,kH⟩:=aq5 HOW.out.qK;have aCy:=kH.rules.2;have g:∀{T:uaa}{v:Value},fB T wr v->T≠4->∀b off n c,v=.S b off n c->(wr.setCell ⟨gk,q,none⟩ (.T)).heap[b]?=wr.heap[b]?:=by intro T v hv hT b off n c e;subst e;exact vav _ _ _ _ (hv.ne kH hT)
   have hrel':Own w0 (wr.setCell ⟨gk,q,none⟩ (.T)) bs a (.S c7 no N g9) d (.S gk 0 (lF aW (ch.take k)).length A) ts ns dc (lF aW (ch.take (k+1))) vals:=by grind[List.take_succ_eq_append_getElem,ara]
   have arl:Hid _:=hrel';have Fz:Hid (jB (wr.setCell ⟨gk,q,none⟩ (.T)) _ ch):=o.out.zc (g oX.out AX);have ze:Hid (fB 3 (wr.setCell ⟨gk,q,none⟩ (.T)) _):=oX.out.set _ _;have JG:Hid (gR (wr.setCell ⟨gk,q,none⟩ (.T)) _ l):=Ti.out.zc (g V.out AX);have arm:Hid (fB 105 (wr.setCell ⟨gk,q,none⟩ (.T)) _):=V.out.set _ _;have FW:(0:Int)<=(q:Int):=AY;have L2:(q:Int)<((lF aW (ch.take k)).length:Int):=AY;have aCz:=HOW.out.box.lt;clear hO g hrel' ark kH hq IE;go_wp2_with fail
   go_roundw
   case rel=>exact⟨k+1,AY,by go_num,arl.out,Fz.out,ze.out,JG.out,arm.out⟩
   case measure=>simp[intOf];omega
  .have arn:ch.take k=ch:=AN;have m:Hid (Own w0 wr bs a (.S c7 no N g9) d f ts ns dc (lF aW ch) vals):=AN;clear arn HOW o oX IE;have dX:=m.out.box;obtain⟨s,Nb,Dt⟩:=dX.all;clear dX;have Q:Hid _:=Nj (ag.new wr #[.slice a1 l.length c1] 69);have R:Hid (∀u∈([.slice a1 l.length c1]:uam),u.oneCell'=true):=by intro u t;simp at t;subst t;rfl
   have P:Hid _:=m.out.rx.alloc (.cells #[.slice a1 l.length c1] 69);have X:Hid ((wr.alloc (.cells #[.slice a1 l.length c1] 69)).heap.size=wr.heap.size+1):=BB;have Y:Hid (w0.heap.size<=(wr.alloc (.cells #[.slice a1 l.length c1] 69)).heap.size):=by have:=m.out.below.size;grind[Hid]
   go_upto_region 12 with(at_builtin;refine Iz apl _ Av _ _ Av w0.heap.size d dc.length vals Av P.out wr.heap.size 1 1 _ Av rfl Q.out R.out AY (by have:=nE.out;omega) (by have:=nE.out;omega) Y.out (wr.heap.size+1) X.out ?_;intro jb Nd w4 z Z aro KP;obtain⟨Ns,arp,jN⟩:=(m.out.aq9 Z).all)
   have r:Hid (Own w0 (w4.setCell ⟨bs,2,none⟩ (.S jb 0 (dc.length+1) Nd)) bs a (.S c7 no N g9) (.S jb 0 (dc.length+1) Nd) f ts ns (dc++[l]) (lF aW ch) (vals++[.slice a1 l.length c1])):=m.out.aq6 Ti.out V.out (by have:=nE.out;omega) z Z;clear z Z aro KP Ns arp jN Q R P X Y Ti V m s Nb Dt;generalize w4.setCell ⟨bs,2,none⟩ (.S jb 0 (dc.length+1) Nd)=gg at *;obtain⟨s,Nb,Dt⟩:=r.out.box.all;have Dg:(lF aW ch).length=aW.length:=z4 _ _;have Tk:Hid ((lF aW ch).length<=20):=by grind[Hid]
   clear Dg;have Q:Hid _:=Nj (ag.new gg #[.F] 4);have R:Hid (∀u∈([.F]:uam),u.oneCell'=true):=by intro u t;simp at t;subst t;rfl
   have P:Hid _:=r.out.qK.alloc (.cells #[.F] 4);have X:Hid ((gg.alloc (.cells #[.F] 4)).heap.size=gg.heap.size+1):=BB;have Y:Hid (w0.heap.size<=(gg.alloc (.cells #[.F] 4)).heap.size):=by have:=r.out.below.size;grind[Hid]
   go_wp2_with (at_builtin;refine Iz LG _ Av _ _ Av w0.heap.size f (lF aW ch).length ((lF aW ch).map .bool) Av P.out gg.heap.size 1 1 _ Av rfl Q.out R.out AY (by have:=Tk.out;omega) (by have:=Tk.out;omega) Y.out (gg.heap.size+1) X.out ?_;intro rn aCA h5 zf tX aCB KM;obtain⟨FT,aCC,agj⟩:=(r.out.aq_ tX).all)
   have Nt:=r.out.aq8 (by have:=Tk.out;omega) zf tX;go_ret
   exact⟨rfl,_,_,_,Nt⟩
end
section
attribute [local go_sem ↓] Go.wp_at_zero Go.wp_at_succ
def tY:Nat->List Bool
 |0=>[]
 |1=>[false]
 | _=>[true,false]
def KL{d f a e:Value}{ns:List oI}{aW:ubs}{vals:uam}(h:Own w0 w bs d f a e ts ns dc aW vals)(i:0<aW.length):∃g c,e=.S g 0 aW.length c/\(∀k b,aW[k]?=some b->w.cell? (.a g k)=some (.bool b))/\w.cell? (.a bs 3)=some (.S g 0 aW.length c)/\w.cell? (.a bs 1)=some f/\w.cell? (.a bs 0)=some d/\w.cell? (.a bs 2)=some a:=by obtain⟨g,c,rfl,-,-⟩:=World.ownsRow.form h.qK i;have j:=h.box.rules.1;exact⟨g,c,U,λk b l=>B8 h.qK k (.bool b) AN,AN,AN,AN,AN⟩
def arq(bs g kc:Nat)(a:uad)(g9:Nat)(w:aH)(c:w.cell? (.a bs 1)=some (.slice a 2 g9))(b:w.cell? (.a bs 3)=some (.S g 0 2 kc))(d:w.cell? (.a g 0)=some (.T)):
 Calls (aa prog true) 17 #[.P bs 0] w λe w'=>e=.returned (.tuple #[.I 0,.F])/\w'=w:=by
 go_enter (bo (upd:=true) func17 AT),ntmps17
 go_wp2
 go_loopw [17] (λx W=>W=w/\(x=.I 0\/x=.I 1)) (λx _=>1-(intOf x).toNat)
 case atStart=>grind
 case round=>
  obtain⟨rfl,rfl|rfl⟩:=hrel
  .go_wp2
   simp_all[intOf]
  .go_wp2
   go_ret2
   simp_all
end
variable{aA aR:Nat}
section
attribute [local go_sem ↓] Go.wp_at_zero Go.wp_at_succ
def w7:List oI:=[⟨1,0,0,[],[],[],[]⟩,⟨5,0,0,[],[],[],[(2,0)]⟩]
structure AH(w:aH)(c7 no aA aR gc:Nat):Prop where
 n0:zd w c7 no 1 0 none 0 0
 n1:zd w c7 (no+7) 5 0 (some (.a aA aR)) 1 gc
 kind:w.cell? (.a aA aR)=some (.I 2)
 jK:w.cell? (.a aA (aR+1))=some (.I 0)
def AH.keeps(h:AH w c7 no aA aR gc)(hk:bm w w'):AH w' c7 no aA aR gc:=⟨Gt h.n0 hk,Gt h.n1 hk,hk _ _ _ h.kind,hk _ _ _ h.jK⟩
def art(h:AH w c7 no aA aR gc):Qs w (.S c7 no 2 g9) w7:=by
 refine⟨_,_,U,by simp[w7],λi hi=>⟨c7,no,U,?_⟩⟩;obtain rfl|rfl:i=0\/i=1:=by grind[w7]
 .obtain⟨f,d1,e,d,c,b,a⟩:=DV h.n0;exact⟨_,_,_,_,by grind[w7],by grind[w7],by grind[w7],AN,AN,AN,AN,⟨bw.nil _ _ _,bw.nil _ _ _,bw.nil _ _ _,bw.nil _ _ _⟩⟩
 .obtain⟨f,d1,e,d,c,b,a⟩:=DV h.n1;exact⟨_,_,_,_,f,d1,e,d,c,b,a,⟨bw.nil _ _ _,bw.nil _ _ _,bw.nil _ _ _,J5 h.kind h.jK⟩⟩
def aru(ta:List bQ)(ba f cL c7 no g9 aA aR gc:Nat)(w:aH)(s:BS w (.S ba f 1 cL) [ta])(X:oa ta=true)(Q:AH w c7 no aA aR gc)(R:ru ta=[(1,0)]):
 Calls (aa prog true) 10 #[.S ba f 1 cL,.S c7 no 2 g9] w λe w'=>∃g c v,e=.returned (.tuple #[.S g 0 2 c,.I 0,.I 0])/\w'.cell? (.a g 1)=some v/\gR w' v [(1,0)]/\cC w w':=by
 have Y:ta.length<=8:=by simp_all[oa]
 have hok:told (DR (za [ta]) [ta].length)=(0,false):=by
  rw[Kd (λj hj=>by
   grind[za])]
  rfl
 have F:Hid (BS w (.S ba f 1 cL) [ta]):=s;have C:Hid (AH w c7 no aA aR gc):=Q;have eE:Hid _:=R;clear Q s X R;go_enter (bo (upd:=true) func10 AT),ntmps10
 go_wp2_with fail
 refine(aqL [ta] _ _ F.out).mono ?_;rintro e w1 ⟨rfl,J⟩;rw[hok];have P:Hid (cC w w1):=J;have A:=bm.b4 J;have r:Hid (Own w1 (w1.alloc (.cells #[.S ba f 1 cL,.S c7 no 2 g9,.N,.N] 74)) w1.heap.size (.S ba f 1 cL) (.S c7 no 2 g9) (.N) (.N) [ta] w7 [] [] []):=
  ⟨(vaa _ _).alloc IB _,bw.mono LQ A F.out,bw.mono Qr A (art C.out),vad _,ag.new _ _ _,vbo _ _ _ _,vbo _ _ _ _,Ab,Ab,AN⟩
 have h:Hid (AH w1 c7 no aA aR gc):=C.out.keeps A;clear J A F C;go_wp2_with fail
 go_loopw [27] (λx W=>∃(i:Nat)(u H:Value)(vals:uam),i<=2/\x=.I (i:Int)/\Own w1 W w1.heap.size (.S ba f 1 cL) (.S c7 no 2 g9) u H [ta] w7 ([ru ta,[(1,0)]].take i) (tY i) vals) (λx _=>2-(intOf x).toNat)
 case atStart=>exact⟨0,_,_,_,vaz _,rfl,r.out⟩
 case round=>
  clear r;obtain⟨i,u,H,vals,hi,rfl,I⟩:=hrel;have b:Hid (Own w1 wr w1.heap.size (.S ba f 1 cL) (.S c7 no 2 g9) u H [ta] w7 ([ru ta,[(1,0)]].take i) (tY i) vals):=I;have E:=I.box.rules.1;clear I;by_cases d:i<2
  .have lX:(i:Int)<(2:Int):=by omega
   have q:Calls (aa prog true) 16 #[.P w1.heap.size 0,.I i] wr λe w'=>e=.returned (.I 0)/\∃V U T,Own w1 w' w1.heap.size (.S ba f 1 cL) (.S c7 no 2 g9) V U [ta] w7 ([ru ta,[(1,0)]].take (i+1)) (tY (i+1)) T:=by
    obtain rfl|rfl:i=0\/i=1:=AY
    .refine(zT (i:=0) (l:=ru ta) (ch:=[]) b.out d AY (by simp[tY]) (by simpa using h.out.n0) Ab Ab (z2 0 d _ _ _ _ _ _ no _ _ (by rw[E];rfl) (Gt (by simpa using h.out.n0) (bm.b4 b.out.below)) (λw' a=>ard _ _ _ w' (a _ _ (by rw[E];rfl))) arb) (λw' a=>?_) arg).mono ?_
     .exact aqY w1.heap.size 0 0 _ [ta] none none none none 0 0 0 0 0 0 0 0 w' (by rw[a.box.rules.1];rfl) (bw.mono LQ (bm.b4 a.below) a.AG) Ab Y
     simp_all[tY,lF]
    .obtain⟨g,c,rfl,z,D,t,-,N⟩:=KL b.out (by simp[tY]);refine(zT (i:=1) (l:=[(1,0)]) (ch:=[0]) b.out d AY (by simp[tY]) (by simpa using h.out.n1) (λy hy=>?_) Ab (z2 1 d _ _ _ _ _ _ no _ _ t (Gt (by simpa using h.out.n1) (bm.b4 b.out.below)) (λw' a=>arf _ g c gc _ w' (a _ _ (by grind[tY])) (a _ _ (z 0 false rfl))) (arc _ gc)) (λw' a=>?_) (arh _ gc)).mono ?_
     .simp_all[tY]
     .have p:=bm.b4 a.below;exact aqZ w1.heap.size aA aR gc u [ru ta] w' (p _ _ _ h.out.kind) (p _ _ _ h.out.jK) (by rw[a.box.rules.1];rfl) a.aq0.types Ab eE.out
     simp_all[tY,lF]
   have o:Hid _:=q;clear q E;go_wp2_with fail
   refine vct o.out ?_;rintro e w2 ⟨rfl,V,U,T,S⟩;have Z:Hid _:=S;clear S b o;go_wp2_with fail
   go_roundw
   case rel=>exact⟨i+1,_,_,_,AY,Ab,Z.out⟩
   case measure=>simp[intOf];omega
  .obtain rfl:i=2:=by omega
   obtain⟨g,c,rfl,z,D,t,-,N⟩:=KL b.out (by simp[tY]);obtain⟨n,m,rfl,-,-⟩:=World.ownsRow.form b.out.rx Ab;obtain⟨B,O,k,-⟩:=b.out.each 1 Ab;have M:Hid _:=B8 b.out.rx 1 B O;have L:Hid (gR wr B [(1,0)]):=k;have K:Hid _:=arq _ g c _ _ _ t (by grind[tY]) (z 0 true rfl);simp only[List.take_succ_cons,List.take_zero,List.length_cons,List.length_nil,vby,Nat.reduceAdd]at N D;clear z t D O k;go_wp2_with fail
   refine vct K.out ?_;rintro e w2 ⟨rfl,rfl⟩;go_wp2_with fail
   refine vbe (v:=.tuple #[.S n 0 2 m,.I 0,.I 0]) (by simp[results,results10,go_sem]) rfl ⟨n,m,B,rfl,M.out,?_,Below.step b.out.below P.out P.out.size⟩;exact L.out
end
end cv
namespace lE
open Conc RowKit ConcM av bn ae ej fY eW gH cW tM
structure Kj(aD:c5)(w:aH)(most:Nat)(w':aH)(n':Nat)(a9:uan):Prop where
 n:n'<=most
 same:∀b,aD b->w'.heap[b]?=w.heap[b]?
 sh:∀b,aD b\/w'.heap.size<=b->∀l,eT l=some b->¬a9 l
 size:w.heap.size<=w'.heap.size
 later:OsLater w.os w'.os
 output:w'.output=w.output
 tape:w'.tape=w.tape
theorem Kj.at{aD:c5}{w:aH}{most:Nat}{w':aH}{a:Nat}{b:uan}(h:Kj aD w most w' a b)(k:Nat):Kj aD w most (w'.at k) a b:=⟨h.n,h.same,h.sh,h.size,h.later,h.output,h.tape⟩
section
variable{Post:fE}
variable{aY:Frame}{aF:Act}{az:eQ}{aI:Nat}{aK:uag}{aG:uab}{csZ:fA}
def avr{n:Nat}{Shun:uan}{S ab N W:Nat}{rows:uas}{bad:ubg}{place:ubb}(Z:0<ab)(O:ab<=64)(K:0<W)(P:W<=16)(Q:S<=1000)(a5:N=(S+ab-1) / ab)(hn:n+W<=250)(lB:iY rows N<=300){jt:uaa}{y A:Value}{F iM:ual}{aD:c5}{w:aH}{lR cq:db->Nat->Value->(Nat->Prop)->aH->Prop}(cX:∀b,aD b->b<w.heap.size)(Y:∀b,aD b\/w.heap.size<=b->∀l,eT l=some b->¬Shun l)(hinv:∀w,(callMethod (.iface jt y) "Size" #[]).run prog w=.ok (.enter F (#[A]++#[])) w/\(callMethod (.iface jt y) "Size" #[]).events prog w #[]=#[])(tP:∀(ST:Bool->en.Lo->aV->Prop) bs,(∀m l g w M M',(∀b,M b->M' b)->ST m l ⟨g,w,M⟩->ST m l ⟨g,w,M'⟩)->io prog ST true F (#[A]++#[]) (iC en () aD w bs) (λu bk=>u=.I (S:Int)/\bk=iC en () aD w bs))(J:∀c bO Stop f E H,Aw false c aD S ab N n W rows bad place f E H->((∀b,aD b->bO.heap[b]?=w.heap[b]?)/\w.heap.size<=bO.heap.size)->q8 c bO prog Stop 103 (.iface jt y) iM A (λT=>T*ab) (λT=>min (T*ab+ab) S) (lR c) (cq c))(V:∀T,T<N->bad T=true->∃b o n k,place T=.S b o n k)(z:∃T,T<N/\bad T=true)(hk:∀w' p x T,T<N->bad T=true->(∀T',T'<N->bad T'=true->T<=T')->Kj aD w (n+W) w' p x->ca prog Post p x 0 (Conc.G (aY.at (aF.put ((az[aI]?).bind (·.dst)) (.tuple #[.N,place T])) (.R az aK::aG)) csZ) w'):
 ca prog Post n Shun 0 (Conc.G (Frame.enter prog 28 #[.agg #[.I (W:Int),.I (ab:Int)],.iface jt y] .normal) (aY.at aF (.R az (aI::aK)::aG)::csZ)) w:=by
 refine MH false Z O K P Q a5 hn lB (λh=>nomatch h) cX Y hinv tP J (λc bO f E H jm cK c_ ir hY e9 e_ fa fb fc fd fD fm fo fp fq f_ ga gb p x M' D w' d hI X a=>?_);obtain⟨T,m,L,hst,I,C⟩:=a.st;rw[d.ji,d.a5]at I C;obtain⟨Oc,B,bG⟩:=z;obtain⟨q,rfl,-⟩:=C Oc B bG;obtain⟨v,t⟩:=I q rfl;obtain⟨bD,b7,fj,b3,s⟩:=V q t v;simp only[Option.elim]at hst;rw[d.y0,s,d.MI]at hst;have Dv:c.K f:=(d.hK f).2 AN;have Su:w'.heap[f]?=some (.cells #[.P c.st 0] 114):=(a.stands f (.inl Dv)).trans X;have FR:c.st<w'.heap.size:=a.low _ Io;have hsz:((w'.setCell ⟨c.st,0,none⟩ (.int .i32 1)).setCell ⟨c.st,0,none⟩ (.int .i32 0)).heap.size=w'.heap.size:=(ae.k6 _ _ _).trans (ae.k6 _ _ _);have hF:Kj aD w (n+W) ((w'.setCell ⟨c.st,0,none⟩ (.int .i32 1)).setCell ⟨c.st,0,none⟩ (.int .i32 0)) p x:=by
  refine⟨by rw[<-d.eR];exact a.n,λb i=>?_,λb i=>a.qE b ?_,by rw[hsz];exact vac hI.size a.size,hI.later.trans a.os,a.output.trans hI.output,a.tape.trans hI.tape⟩
  .have r:b≠c.st:=(c.uz b ((d.hK b).2 (.inl i))).1;rw[k5 _ _ _ r,k5 _ _ _ r];exact(a.stands b (.inl ((d.hK b).2 (.inl i)))).trans (hI.heap b (.inr i))
  .rw[hsz]at i;exact i.imp (λh=>a.sub b (.inr (.inl ((d.hK b).2 (.inl h))))) id
 refine avp hst Su AN a.ZM a.ZN.1 (a.qE f (.inl (a.sub f AN)) _ rfl) (λj=>?_);rw[<-s];exact hk _ p x q t v (λT' U R=>by obtain⟨q',e,h⟩:=C T' U R;cases e;exact h) (hF.at j)
