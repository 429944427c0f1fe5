import Derived.Test.YtcjlmniddnnieaaGreatPAE
set_option linter.all false
set_option maxRecDepth 100000
set_option maxHeartbeats 16000000
namespace Go.Proofs.YtcjlmniddnnieaaGreat
open Tryz
namespace e_
open Conc au bn ai
structure da where
 st:Nat
 bJ:Nat
 wg:Nat
 Nw:TypeId
 Gv:TypeId
 tWg:TypeId
 N:Nat
 rows:Nat->Nat
 size:Value
 A5:Value
 yT:Value
 least:Value
 bad:Nat->Bool
 place:Nat->Value
 K:Nat->Prop
 most:Nat
 C:Nat
 eL:st≠wg/\st≠bJ/\wg≠bJ
 yU:∀b,K b->b≠st/\b≠wg/\b≠bJ
def A6:At->Prop
 | .main _=>True
 | _=>False
def jm:At->Bool
 | .work .rel _ | .work .nW _ | .work .lb _ | .gone _ | .old=>true
 | _=>false
def tb(c:da)(b:cb):Obj:=.cells #[.int .u64 ((b.aY*4294967296+b.ea.toNat:Nat):Int),.int .u32 (b.gI:Int)] c.tWg
def Gw(c:da)(b:cb):Obj:=.cells b.done.toArray c.Gv
abbrev ar(c:da):e9 where
 ao:=At
 aO:=cb
 um:=cV c.N c.rows c.bad
 gn:=λb=>c.C*(c.N-b.taken)
 CV:=λo a b b'=>(o=true->b'.taken=b.taken/\b'.came=b.came/\b'.done=b.done/\b'.least=b.least)/\b.taken<=b'.taken/\(A6 a->b'.aY<=b.aY)
 SR:=Nv
 left:=rb
 past:=jm
 zero:=A6
 st:=c.st
 ty:=c.Nw
 cells:=λb=>#[c.size,c.A5,.I (b.taken:Int),.I (b.came:Int),c.yT,b.least.elim c.least c.place]
 oJ:=λb w=>w.heap[c.wg]?=some (tb c b)/\(True->w.heap[c.bJ]?=some (Gw c b))
 CW:=λk=>k=c.wg\/k=c.bJ
 hh:=λl=>(∃off sp,l=.cell ⟨c.st,off,sp⟩/\2<=off)\/e8 l=some c.bJ
 eW:=λl=>l=.cell ⟨c.wg,0,none⟩\/l=.cell ⟨c.wg,1,none⟩
 K:=c.K
 wg:=⟨c.wg,0,none⟩
 most:=c.most
def bA(c:da):(ar c).Good where
 refl:=AJ
 trans:=AJ
 SS:=AJ
 Nk:=λh=>h.elim c.eL.1 c.eL.2.1
 nt:=λb d=>⟨(c.yU b d).1,λh=>h.elim (c.yU b d).2.1 (c.yU b d).2.2⟩
 ov:=λb az h=>h.alive
 zero:=λb az j a h f e=>by cases a with|main s=>exact h.only j s f| _=>exact e.elim
 hh:=AJ
 eW:=λl h=>by rcases h with rfl|rfl<;>exact⟨c.wg,Y,.inl Y⟩
 uf:=λl h hs=>by
  rcases h with⟨off,sp,rfl,_⟩|h
  .grind
  .rcases hs with rfl|rfl<;>simp[e8]at h<;>exact c.eL.2.2 h
section
variable{c:da}{Q:cf}{Stop:Bool->ai.Lo At->aX->Prop}{m:Bool}{l:ai.Lo At}{γ:ai.aN cb}{X:aX}{w':aH}
def vH{b:cb}{w:aH}(h:w.heap[c.wg]?=some (tb c b)):w.cell? (.a c.wg 0)=some (.int .u64 ((b.aY*4294967296+b.ea.toNat:Nat):Int)):=by simp[World.cell?,h,tb]
def Nx{b:cb}{w:aH}(h:w.heap[c.wg]?=some (tb c b)):w.cell? (.a c.wg 1)=some (.int .u32 (b.gI:Int)):=by simp[World.cell?,h,tb]
def A7{b:cb}{w:aH}(h:w.heap[c.wg]?=some (tb c b))(off:Nat)(sp):w.frozen? ⟨c.wg,off,sp⟩=false:=by simp[World.frozen?,h,tb]
def aaF{mu:bp}{b b1:cb}{w:aH}(d:w.heap[c.st]?=some (gU (ar c) mu b))(a:(ar c).oJ b w)(hs:b1.gI=b.gI)(ht:b1.taken=b.taken)(f:b1.came=b.came)(hd:b1.done=b.done/\b1.least=b.least){v:Int}(hv:v=((b1.aY*4294967296+b1.ea.toNat:Nat):Int)):
 (w.setCell ⟨c.wg,0,none⟩ (.int .u64 v)).heap[c.st]?=some (gU (ar c) mu b1)/\(ar c).oJ b1 (w.setCell ⟨c.wg,0,none⟩ (.int .u64 v)):=by
 subst hv;refine⟨?_,?_,λe=>?_⟩
 .rw[m3 w _ _ c.eL.1,d];grind[gU]
 .simp_all[World.setCell,vaz,tb]
 .rw[m3 w _ _ (Ne.symm c.eL.2.2),a.2 e];grind[Gw]
def aoa{mu:bp}{b b1:cb}{w:aH}(d:w.heap[c.st]?=some (gU (ar c) mu b))(a:(ar c).oJ b w)(hs:b1.aY=b.aY/\b1.ea=b.ea)(ht:b1.taken=b.taken)(f:b1.came=b.came)(hd:b1.done=b.done/\b1.least=b.least){v:Int}(hv:v=(b1.gI:Int)):
 (w.setCell ⟨c.wg,1,none⟩ (.int .u32 v)).heap[c.st]?=some (gU (ar c) mu b1)/\(ar c).oJ b1 (w.setCell ⟨c.wg,1,none⟩ (.int .u32 v)):=by
 subst hv;refine⟨?_,?_,λe=>?_⟩
 .rw[m3 w _ _ c.eL.1,d];grind[gU]
 .simp_all[World.setCell,vaz,tb]
 .rw[m3 w _ _ (Ne.symm c.eL.2.2),a.2 e];grind[Gw]
def Tb{mine:dY}(w:aH)(off:Nat)(sp)(v:Value):lE (am (ar c)) mine w (w.setCell ⟨c.wg,off,sp⟩ v):=
 ⟨λb _ _ hs=>m3 w _ v AJ,BR,.refl _,Y,Y⟩
def Tc{mine:dY}(w:aH)(off:Nat)(sp)(v:Value):lE (am (ar c)) mine w (w.setCell ⟨c.st,off,sp⟩ v):=
 ⟨λb _ _ hs=>m3 w _ v AJ,BR,.refl _,Y,Y⟩
def aaG{mine:dY}(w:aH)(off:Nat)(sp)(v:Value):lE (am (ar c)) mine w (w.setCell ⟨c.bJ,off,sp⟩ v):=
 ⟨λb _ _ hs=>m3 w _ v AJ,BR,.refl _,Y,Y⟩
end
end e_
namespace e_
open Conc bn ai
section
section
variable{N:Nat}{rows:uas}{bad:uaz}{b:cb}{xs:List At}{i:Nat}{l:uac}
def cV.aoc(h:cV N rows bad b xs)(hi:xs[i]?=some (.work .rel l)):1<=b.aY:=by have a:=h.aY;grind[oK,gC]
def cV.aod(h:cV N rows bad b xs)(hi:xs[i]?=some (.work .nW l)):b.aY=0/\b.ea=true:=by
 have:=oK gJ xs i _ hi;simp[gJ]at this;obtain⟨s,_,a⟩:=h.main;cases s with
 |s_=>
  rcases a with⟨m1,_,_,d⟩|⟨_,_,c,_⟩
  .grind
  .omega
 |spawn k q=>have:=a.2.2.1;omega
 |qa=>have:=a.2.2.1;omega
 |over=>have:=a.2.2.2.1;omega
def cV.aoe(h:cV N rows bad b xs)(hi:xs[i]?=some (.work .lb l)):b.gI=0:=by
 have:=oK gW xs i _ hi;simp[gW]at this;obtain⟨s,_,a⟩:=h.main;cases s with
 |s_=>rcases a with⟨_,_,c,_⟩|⟨_,_,_,d⟩<;>omega
 |spawn k q=>have:=a.2.2.2;omega
 |qa=>have:=a.2.2.2;omega
 |over=>have:=a.2.2.2.2;omega
end
section
variable{c:da}{l:ai.Lo At}{γ:ai.aN cb}{p:uac}
def uu(h:hH (am (ar c)) l γ):∃(xs:List At)(i:Nat),xs[i]?=some l.al/\cV c.N c.rows c.bad γ.al xs:=by obtain⟨ls,i,hi,hg⟩:∃(ls:List (ai.Lo At))(i:Nat),ls[i]?=some l/\s6 (ar c) γ ls:=h;exact⟨ls.map (·.al),i,AJ,hg.pe⟩
def aof(h:hH (am (ar c)) l γ)(a:l.al=.work .rel p):1<=γ.al.aY:=by obtain⟨xs,i,hi,hg⟩:=uu h;rw[a]at hi;exact hg.aoc hi
def aaH(h:hH (am (ar c)) l γ)(a:l.al=.work .nW p):γ.al.aY=0/\γ.al.ea=true:=by obtain⟨xs,i,hi,hg⟩:=uu h;rw[a]at hi;exact hg.aod hi
def aog(h:hH (am (ar c)) l γ)(a:l.al=.work .lb p):γ.al.gI=0:=by obtain⟨xs,i,hi,hg⟩:=uu h;rw[a]at hi;exact hg.aoe hi
end
end
variable{g1:uaf}
section
open au
section
variable{c:da}{Q:cf}{Stop:Bool->ai.Lo At->aX->Prop}{m:Bool}{l:ai.Lo At}{γ:ai.aN cb}{X:aX}{w':aH}
def yV(n:dN (am (ar c)) l γ X w'){w1:aH}{es:uao}{a1:At}{b1:cb}{f1 d1:Nat}(hs:stepG Q m X.g w'=.go g1 w1 es)(hrun:g1.status=.running)(b:∃e∈es,vw (am (ar c)) e)(hk:lE (am (ar c)) X.mine w' w1)(hsz:w1.heap.size=w'.heap.size)(j:w1.heap[c.st]?=some (gU (ar c) γ.mu b1)/\(ar c).oJ b1 w1)(g:∀(az:List At)(i:Nat),az[i]?=some l.al->cV c.N c.rows c.bad γ.al az->cV c.N c.rows c.bad b1 (az.set i a1))(p:f1+c.C*(c.N-b1.taken)+1<=l.fuel+c.C*(c.N-γ.al.taken))(q:l.mx=.own\/(b1.taken=γ.al.taken/\b1.came=γ.al.came/\b1.done=γ.al.done/\b1.least=γ.al.least))(r:γ.al.taken<=b1.taken)(y:A6 l.al\/b1.aY<=γ.al.aY)(k:rb a1->l.mx=.idle)(f:l.tok=true->l.mx=.own)(says:Says (am (ar c)) l ({l with al:=a1,fuel:=f1,deaf:=d1}:ai.Lo At) X.mine es)(d:mayWake Q X.g=true\/∀a,Nv a γ.al->Nv a b1)(w:rb a1->m=false/\Stop m ({l with al:=a1,fuel:=f1,deaf:=d1}:ai.Lo At) ⟨g1,w1,X.mine⟩)(h:bf (am (ar c)) Q Stop m ({l with al:=a1,fuel:=f1,deaf:=d1}:ai.Lo At) ({γ with al:=b1,a6:=γ.a6-1}:ai.aN cb) ⟨g1,w1,X.mine⟩):Then (Z:=am (ar c)) Q Stop m l γ X w':=by
 have hg:grown X.mine w' w1=X.mine:=kx hsz;refine .turn (l1:=({l with al:=a1,fuel:=f1,deaf:=d1}:ai.Lo At)) (bB:=({γ with al:=b1,a6:=γ.a6-1}:ai.aN cb)) hs ⟨hrun,.inl b,hk,j,SV (bA c) n.sees g p (λo a' v t=>?_) k f,AJ,d.imp id λu s x=>?_⟩ AJ AJ
 .grind
 grind
def Nz(d:dN (am (ar c)) l γ X w'){a1:At}{b1:cb}{f1:Nat}{v:Int}(hs:stepG Q m X.g w'=.go g1 (w'.setCell ⟨c.wg,0,none⟩ (.int .u64 v)) #[⟨.cell ⟨c.wg,0,none⟩,false,true⟩,⟨.cell ⟨c.wg,0,none⟩,true,true⟩])(hrun:g1.status=.running)(hv:v=((b1.aY*4294967296+b1.ea.toNat:Nat):Int))(hd:0<l.deaf)(f:b1.gI=γ.al.gI)(b:b1.taken=γ.al.taken/\b1.came=γ.al.came/\b1.done=γ.al.done/\b1.least=γ.al.least)(k:∀(az:List At)(i:Nat),az[i]?=some l.al->cV c.N c.rows c.bad γ.al az->cV c.N c.rows c.bad b1 (az.set i a1))(q:f1<l.fuel)(p:A6 l.al\/b1.aY<=γ.al.aY)(n:rb a1->l.mx=.idle)(j:l.tok=true->l.mx=.own)(g:jm a1=jm l.al)(o:rb a1->m=false/\Stop m ({l with al:=a1,fuel:=f1}:ai.Lo At) ⟨g1,w'.setCell ⟨c.wg,0,none⟩ (.int .u64 v),X.mine⟩)(h:bf (am (ar c)) Q Stop m ({l with al:=a1,fuel:=f1}:ai.Lo At) ({γ with al:=b1,a6:=γ.a6-1}:ai.aN cb) ⟨g1,w'.setCell ⟨c.wg,0,none⟩ (.int .u64 v),X.mine⟩):Then (Z:=am (ar c)) Q Stop m l γ X w':=
 yV (d1:=l.deaf) d hs hrun ⟨⟨.cell ⟨c.wg,0,none⟩,true,true⟩,AQ,.inr (.inr (.inr (.inr ⟨Y,c.wg,Y,.inr LF⟩)))⟩ (Tb w' 0 none _) (mq _ _ _) (aaF d.mt.1 d.mt.2 f b.1 b.2.1 b.2.2 hv) k AJ (.inr b) AJ p n j
  (.inl ⟨Y,g,Y,.inr AJ,.inr ⟨Y,AJ,hd⟩,PA⟩) (.inr λa e=>⟨e.1,f.trans e.2⟩) o h
def aoj(d:dN (am (ar c)) l γ X w'){a1:At}{b1:cb}{f1:Nat}{v:Int}(hs:stepG Q m X.g w'=.go g1 (w'.setCell ⟨c.wg,0,none⟩ (.int .u64 v)) #[⟨.cell ⟨c.wg,0,none⟩,true,true⟩])(hrun:g1.status=.running)(hv:v=((b1.aY*4294967296+b1.ea.toNat:Nat):Int))(hd:0<l.deaf)(f:b1.gI=γ.al.gI)(b:b1.taken=γ.al.taken/\b1.came=γ.al.came/\b1.done=γ.al.done/\b1.least=γ.al.least)(k:∀(az:List At)(i:Nat),az[i]?=some l.al->cV c.N c.rows c.bad γ.al az->cV c.N c.rows c.bad b1 (az.set i a1))(p:f1<l.fuel)(n:A6 l.al\/b1.aY<=γ.al.aY)(o:¬rb a1)(j:l.tok=true->l.mx=.own)(g:jm a1=jm l.al)(h:bf (am (ar c)) Q Stop m ({l with al:=a1,fuel:=f1}:ai.Lo At) ({γ with al:=b1,a6:=γ.a6-1}:ai.aN cb) ⟨g1,w'.setCell ⟨c.wg,0,none⟩ (.int .u64 v),X.mine⟩):Then (Z:=am (ar c)) Q Stop m l γ X w':=
 yV (d1:=l.deaf) d hs hrun ⟨⟨.cell ⟨c.wg,0,none⟩,true,true⟩,AQ,.inr (.inr (.inr (.inr ⟨Y,c.wg,Y,.inr LF⟩)))⟩ (Tb w' 0 none _) (mq _ _ _) (aaF d.mt.1 d.mt.2 f b.1 b.2.1 b.2.2 hv) k AJ (.inr b) AJ n AJ j
  (.inl ⟨Y,g,Y,.inr AJ,PA⟩) (.inr λa e=>⟨e.1,f.trans e.2⟩) AJ h
def aaI(d:dN (am (ar c)) l γ X w'){a1:At}{b1:cb}{f1:Nat}{v:Int}(hs:stepG Q m X.g w'=.go g1 (w'.setCell ⟨c.wg,1,none⟩ (.int .u32 v)) (semEvents ⟨c.wg,1,none⟩))(hrun:g1.status=.running)(hv:v=(b1.gI:Int))(q:b1.aY=γ.al.aY/\b1.ea=γ.al.ea)(b:b1.taken=γ.al.taken/\b1.came=γ.al.came/\b1.done=γ.al.done/\b1.least=γ.al.least)(k:∀(az:List At)(i:Nat),az[i]?=some l.al->cV c.N c.rows c.bad γ.al az->cV c.N c.rows c.bad b1 (az.set i a1))(r:f1<l.fuel)(n:rb a1->l.mx=.idle)(j:l.tok=true->l.mx=.own)(g:jm a1=jm l.al)(f:mayWake Q X.g=true\/γ.al.gI≠0)(o:rb a1->m=false/\Stop m ({l with al:=a1,fuel:=f1}:ai.Lo At) ⟨g1,w'.setCell ⟨c.wg,1,none⟩ (.int .u32 v),X.mine⟩)(h:bf (am (ar c)) Q Stop m ({l with al:=a1,fuel:=f1}:ai.Lo At) ({γ with al:=b1,a6:=γ.a6-1}:ai.aN cb) ⟨g1,w'.setCell ⟨c.wg,1,none⟩ (.int .u32 v),X.mine⟩):Then (Z:=am (ar c)) Q Stop m l γ X w':=
 yV (d1:=l.deaf) d hs hrun ⟨⟨.cell ⟨c.wg,1,none⟩,true,true⟩,by simp[semEvents],.inr (.inr (.inr (.inr ⟨Y,c.wg,Y,.inr LF⟩)))⟩ (Tb w' 1 none _) (mq _ _ _) (aoa d.mt.1 d.mt.2 q b.1 b.2.1 b.2.2 hv) k AJ (.inr b) AJ AJ n j
  (.inl ⟨Y,g,by grind[deafBehind,semEvents],.inl trivial,.inr ⟨Y,AJ,IT⟩,.inr ⟨Y,AJ,IT⟩,.inl trivial,PA⟩)
  (f.imp id λe a p=>absurd p.2 e) o h
def aaJ(b:dN (am (ar c)) l γ X w'){mk:Mark}(a:mk=.disable\/mk=.enable){a1:At}{f1 d1:Nat}(hs:stepG Q m X.g w'=.go g1 w' #[⟨.mark mk,false,true⟩])(hrun:g1.status=.running)(g:∀(az:List At)(i:Nat),az[i]?=some l.al->cV c.N c.rows c.bad γ.al az->cV c.N c.rows c.bad γ.al (az.set i a1))(k:f1<l.fuel)(j:¬rb a1)(f:l.tok=true->l.mx=.own)(d:jm a1=jm l.al)(hd:d1=deafBehind l.deaf #[⟨.mark mk,false,true⟩])(h:bf (am (ar c)) Q Stop m ({l with al:=a1,fuel:=f1,deaf:=d1}:ai.Lo At) ({γ with a6:=γ.a6-1}:ai.aN cb) ⟨g1,w',X.mine⟩):Then (Z:=am (ar c)) Q Stop m l γ X w':=
 yV (b1:=γ.al) (d1:=d1) b hs hrun ⟨⟨.mark mk,false,true⟩,AQ,a.elim (λe=>.inl KE) (λe=>.inr AJ)⟩ (p_ _ _ _) Y b.mt g AP AJ Kj AJ AJ f
  (.inl ⟨Y,d,hd,.inl (by rcases a with rfl|rfl<;>exact trivial),PA⟩) AJ AJ h
def aok(a:dN (am (ar c)) l γ X w'){p:uac}{f1:Nat}(hs:stepG Q m X.g w'=.go g1 w' #[⟨.mark (.releaseMerge ⟨c.wg,0,none⟩),false,true⟩])(hrun:g1.status=.running)(d:l.al=.work .free p)(a3:γ.al.taken=c.N)(f:f1<l.fuel)(hd:l.deaf=0)(b:l.tok=false)(h:bf (am (ar c)) Q Stop m ({l with al:=.work .rel p,fuel:=f1}:ai.Lo At) ({γ with a6:=γ.a6-1}:ai.aN cb) ⟨g1,w',X.mine⟩):Then (Z:=am (ar c)) Q Stop m l γ X w':=
 yV (a1:=.work .rel p) (b1:=γ.al) (d1:=l.deaf) a hs hrun ⟨⟨.mark (.releaseMerge ⟨c.wg,0,none⟩),false,true⟩,AQ,.inr AJ⟩ (p_ _ _ _) Y a.mt (λaz i hi hg=>hg.release a3 AJ) AP AJ Kj AJ Lm AJ
  (.inr (.inr (.inr ⟨Y,hd,hd,Y,Y⟩))) AJ (λe=>e.elim) h
end
end
end e_
namespace tr
open Conc
theorem Wu:f73.nn=false:=AS
theorem Us:f73.body.isNone=true:=by kernel_rfl
theorem Ri:Extern.findNext f73=none:=by kernel_rfl
theorem Q8:Extern.find f73=some (λ_=>pure (.F)):=by kernel_rfl
theorem UV:f106.nn=false:=AS
theorem UW:f106.body.isNone=true:=by kernel_rfl
theorem UX:Extern.findNext f106=none:=by kernel_rfl
theorem UY:Extern.find f106=some (Extern.Atomic.update (Op.intArith .add) .u64 true):=by kernel_rfl
theorem UZ:f107.nn=false:=AS
theorem U0:f107.body.isNone=true:=by kernel_rfl
theorem U1:Extern.find f107=some (Extern.Atomic.loadT (.int .u64)):=by kernel_rfl
theorem U2:Extern.findNext f107=none:=by kernel_rfl
theorem ase:f108.nn=false:=AS
theorem asf:f108.body.isNone=true:=by kernel_rfl
theorem asg:Extern.find f108=some Extern.Atomic.storeT:=by kernel_rfl
theorem ash:Extern.findNext f108=none:=by kernel_rfl
theorem Q7:f113.nn=false:=AS
theorem Q6:f113.body.isNone=true:=by kernel_rfl
theorem Q5:Extern.findNext f113=none:=by kernel_rfl
theorem Q4:Extern.find f113=some (Extern.Atomic.casT (.int .u64)):=by kernel_rfl
theorem Q3:f89.nn=false:=AS
theorem Q1:f89.body.isNone=true:=by kernel_rfl
theorem QV:Extern.findNext f89=none:=by kernel_rfl
theorem QU:Extern.find f89=some Extern.Sync.semacquire:=by kernel_rfl
theorem asi:f82.nn=false:=AS
theorem QF:f82.body.isNone=true:=by kernel_rfl
theorem asj:Extern.findNext f82=none:=by kernel_rfl
theorem asl:Extern.find f82=some Extern.Sync.semrelease:=by kernel_rfl
theorem asm:f78.nn=false:=AS
theorem asn:f78.body.isNone=true:=by kernel_rfl
theorem aso:Extern.findNext f78=none:=by kernel_rfl
theorem asp:Extern.find f78=some (Extern.Race.marked .read):=by kernel_rfl
theorem asq:f88.nn=false:=AS
theorem asr:f88.body.isNone=true:=by kernel_rfl
theorem ass:Extern.findNext f88=none:=by kernel_rfl
theorem ast:Extern.find f88=some (Extern.Race.marked .write):=by kernel_rfl
theorem asu:f50.nn=false:=AS
theorem QE:f77.nn=false:=AS
theorem U3:f79.nn=false:=AS
theorem asv:f80.nn=false:=AS
theorem asw:f87.nn=false:=AS
open RowKit Conc.Lib ConcR.Gen ConcM au bn ai e_ bz
def Vp{c:da}(e5:c.most<=250){l:ai.Lo At}{γ:ai.aN cb}(h:hH (am (ar c)) l γ):γ.al.aY<=250:=by
 obtain⟨ls,i,hi,hg⟩:∃(ls:List (ai.Lo At))(i:Nat),ls[i]?=some l/\s6 (ar c) γ ls:=h;have f:γ.al.aY=dh gC (ls.map (·.al)):=hg.pe.aY;have e:ls.length<=c.most:=hg.len;have d:∀xs:List At,dh gC xs<=xs.length:=by
  intro xs;induction xs with
  |nil=>simp[dh]
  |cons a xs b=>
   have:gC a<=1:=by
    cases a with
    |main s=>cases s with
     |spawn k q=>cases q<;>simp[gC]
     | _=>simp[gC]
    |work s l=>cases s<;>simp[gC]
    | _=>simp[gC]
   grind[dh]
 grind
def G_{c:da}{mine:dY}(h:∀b,c.K b\/mine b->b≠c.wg)(w:aH)(off:Nat)(sp)(v:Value):ak (am (ar c)) mine w (w.setCell ⟨c.wg,off,sp⟩ v):=
 ⟨λb a=>m3 w _ v (h b a),BR,.refl _,Y,Y⟩
def OU:∀n,n<256->∀t,t<2->bits .and .u64 ((n*4294967296+t:Nat):Int) 2147483648=0/\bits .and .u64 ((n*4294967296+t:Nat):Int) 2147483647=(t:Int):=by decide+kernel
def Vq:prog.underlying 174=some (.pointer 137):=by simp
theorem Vr:(prog.info? 137).map (λi=>decide (i.size=0))=some false:=by kernel_rfl
def R0:prog.underlying 182=some (.pointer 135):=by simp
theorem RY:(prog.info? 135).map (λi=>decide (i.size=0))=some false:=by kernel_rfl
def KS{m:Bool}{b:Frame}{a:Act}{kk:uaa}{cs:fG}{w:aH}{ops:fC}{i:Nat}{rest:uad}{o:Oper}{src t:uab}(d:prog.underlying src=some (.pointer t))(c:(prog.info? t).map (λi=>decide (i.size=0))=some false){x:uau}(j:ops[i]?=some o)(f:veg o ops a.tmps=true)(hk:b.kind≠ .early)(h:o.op=.convert src 176 x){ad:Addr}{v:Value}(n:a.eval x=.pointer (some ad))(e:w.cell? ad=some v):
 stepG prog m (Conc.G (b.at a (.inRegion ops (i::rest)::kk)) cs) w=.go (Conc.G (b.at (a.put o.dst (.pointer (some ad))) (.inRegion ops rest::kk)) cs) w #[]:=by
 have k:=run_convert_to_unsafe (P:=prog) d Ow c e;have l:=λes=>events_convert_to_unsafe (P:=prog) d Ow c e es;have g:(execOp a.eval o).run prog w=.ok (.value (.pointer (some ad))) w:=by simp_all[execOp]
 have p:(execOp a.eval o).events prog w #[]=#[]:=by simp_all[execOp]
 rw[vaq j f hk g];grind[listed,seen_none]
def RX{c:da}{Q:cf}{Stop:Bool->ai.Lo At->aX->Prop}{m:Bool}{l:ai.Lo At}{γ:ai.aN cb}{X:aX}{w':aH}(g:dN (am (ar c)) l γ X w'){g1:uaf}{mk:Mark}(b:mk=.read ⟨c.wg,1,none⟩\/mk=.write ⟨c.wg,1,none⟩)(d:A6 l.al)(hs:stepG Q m X.g w'=.go g1 w' #[⟨.mark mk,false,true⟩])(hrun:g1.status=.running)(h:bf (am (ar c)) Q Stop m l γ ⟨g1,w',X.mine⟩):Then (Z:=am (ar c)) Q Stop m l γ X w':=by
 refine .quiet hs ⟨hrun,p_ _ _ _,λ_ _ _=>Y,⟨.inr ⟨d,⟨c.wg,1,none⟩,.inr (.inr LO),b⟩,PA⟩,?_⟩ ?_
 .rintro(⟨e,a,f⟩|h)
  .simp only[List.mem_toArray,vbh,vbs,vdo]at a;subst a;rcases f with h|h|⟨_,h⟩|⟨_,h⟩|⟨h,_⟩
   .grind
   .grind
   .grind
   .grind
   grind
  grind
 grind[kx]
section
variable{c:da}{Stop:Bool->ai.Lo At->aX->Prop}{m:Bool}{mine:dY}
variable{a2:Frame}{aD:Act}{aB:fC}{aJ:Nat}{aL:uad}{aG:uaa}{csZ:fG}
def atE{f k:Nat}(e5:c.most<=250)(F:∀b,c.K b\/mine b->b≠c.wg){w0:aH}(D:∀w' H,ak (am (ar c)) mine w0 w'->bf (am (ar c)) prog Stop m ⟨.idle,false,0,f,.main (.spawn k true)⟩ H ⟨Conc.G (a2.at (aD.put ((aB[aJ]?).bind (·.dst)) (.tuple #[])) (.inRegion aB aL::aG)) csZ,w',mine⟩)(w:aH)(γ:ai.aN cb)(E:ak (am (ar c)) mine w0 w):
 bf (am (ar c)) prog Stop m ⟨.idle,false,0,f+3,.main (.spawn k false)⟩ γ ⟨Conc.G ((base 50).at ⟨#[.P c.wg 0,.I 1,.U,.U,.U,.U,.U,.U,.U,.U,.U,.U,.U,.U,.U,.U,.U,.U,.U,.U,.U,.U,.U,.U,.U,.U,.U,.U,.U,.U,.U,.U,.U,.U,.U,.U,.U,.U,.U,.U,.U,.U,.U,.U,.U,.U,.U,.U,.U,.U,.U,.U,.U,.U,.U,.U,.U,.U,.U,.U,.U,.U,.U,.U,.U,.U,.U,.U,.U,.U,.U,.U,.U,.U,.U,.U,.U,.U,.U,.U,.U,.U,.U,.U,.U,.U,.U,.U,.U,.U,.U,.U,.U,.U,.U,.U,.U,.U,.U,.U,.U,.U,.U,.U,.U,.U,.U,.U,.U,.U,.U,.U,.U,.U,.U,.U,.U],[]⟩ [.code (f50.body.getD .skip)]) (a2.at aD (.inRegion aB (aJ::aL)::aG)::csZ),w,mine⟩:=by
 have hF:=E;simp only[f50,vae];refine bb (bA c) ?_;repeat w_go ak.trans
 refine dU Y hF λg a p n j d o l hF=>?_;refine s7 (d1:=1) (bA c) l LF (vbu .disable AQ Y Y Ag Y func71 Du Dv Dw Dx) Y La (s5 (f1:=f+2) Kn _) AQ Y ?_;clear l o n a;refine bb (bA c) ?_;walk_nrm
 repeat w_go ak.trans
 u_defer ak.trans hF
 repeat w_go ak.trans
 refine dU Y hF λg a p n j d o l hF=>?_;refine l5 (A:=ar c) (stepG_entry_pure (.F) Y Y Ag Y func73 Wu Us Ri Q8) Y Y (.refl _) Y Y ?_;clear l o n a;refine bb (bA c) ?_;walk_nrm
 repeat w_go ak.trans
 u_call func77 QE f77 ak.trans hF
 repeat w_go ak.trans
 refine dU Y hF λg a p n j d o l hF=>?_;have L:=Vp e5 l.sees;have z:d.al.ea=false:=by obtain⟨ls,iF,hi,hg⟩:=l.sees;obtain⟨s,hs,C⟩:=hg.pe.main;have h0:=hg.pe.only iF (.spawn k false) AJ;subst h0;rw[vbg,hi]at hs;cases hs;exact C.1
 have hv:IntKind.wrap .u64 (((d.al.aY*4294967296+d.al.ea.toNat:Nat):Int)+4294967296)=((({d.al with aY:=d.al.aY+1}:cb).aY*4294967296+({d.al with aY:=d.al.aY+1}:cb).ea.toNat:Nat):Int):=by grind[IntKind.wrap_u64]
 refine Nz l (a1:=.main (.spawn k true)) (b1:={d.al with aY:=d.al.aY+1}) (f1:=f+1) (stepG_add_atomic Y Y Ag Y func106 UV UW UX .u64 UY Y Y (vH l.mt.2.1) (A7 l.mt.2.1 0 none)) Y hv AQ Y ⟨Y,Y,Y,Y⟩ (λxs i hi hg=>?_) Kn (.inl trivial) Lm AQ Y Lm ?_
 .have h0:=hg.only i _ hi;subst h0;exact hg.add hi
 rw[hv];replace hF:=ak.trans hF (G_ (c:=c) (mine:=mine) F j 0 none (.int .u64 ((({d.al with aY:=d.al.aY+1}:cb).aY*4294967296+({d.al with aY:=d.al.aY+1}:cb).ea.toNat:Nat):Int)));have u:((({d.al with aY:=d.al.aY+1}:cb).aY*4294967296+({d.al with aY:=d.al.aY+1}:cb).ea.toNat:Nat):Int)=((d.al.aY+1:Nat):Int)*4294967296:=by grind
 rw[u]at hF⊢;have t:bits .and .u64 (((d.al.aY+1:Nat):Int)*4294967296) 2147483648=0:=by have:=(OU (d.al.aY+1) AP 0 AP).1;grind
 have r:bits .and .u64 (((d.al.aY+1:Nat):Int)*4294967296) 2147483647=0:=by have:=(OU (d.al.aY+1) AP 0 AP).2;grind
 have v:(((d.al.aY+1:Nat):Int)*4294967296) / 4294967296=((d.al.aY+1:Nat):Int):=AP;have K:IntKind.wrap .i32 ((d.al.aY+1:Nat):Int)=((d.al.aY+1:Nat):Int):=JH;have B:(0:Int)<((d.al.aY+1:Nat):Int):=AP;clear hv z u;generalize((d.al.aY+1:Nat):Int)=y at hF t v r K B⊢;have M:decide (y<0)=false:=AJ;have I:decide (0<y)=true:=AJ;generalize y*4294967296=x at hF t v r⊢;clear l o n a;refine bb (bA c) ?_;walk_nrm
 repeat w_go ak.trans
 by_cases q:y=1;focus
  subst q;u_leave1 func77 ak.trans hF
  repeat w_go ak.trans
  refine dU Y hF λg a p n j d o l hF=>?_;refine l5 (A:=ar c) (KS R0 RY Y Y Ag Y Y (Nx l.mt.2.1)) Y Y (.refl _) Y Y ?_;clear l o n a;refine bb (bA c) ?_;walk_nrm
  repeat w_go ak.trans
  refine dU Y hF λg a p n j d o l hF=>?_;refine RX l LF trivial (vck .read AQ Y Y Ag Y func78 asm asn aso asp Bi) Y ?_;clear l o n a;refine bb (bA c) ?_;walk_nrm
 rotate_left
 focus
  have J:(y==1)=false:=AJ;u_leave1 func77 ak.trans hF
 rotate_left
 all_goals
  repeat w_go ak.trans
  refine dU Y hF λg a p n j d o l hF=>?_;refine s7 (d1:=0) (bA c) l LO (stepG_unwind_entry Y func72 rm rn rp rq (by simp[Extern.Race.none_];rfl) AQ AQ) Y La (s5 (f1:=f) Kn _) AQ Y ?_;clear l o n a;refine bb (bA c) ?_;u_leave0 func50 ak.trans hF
  exact vag (λg a=>⟨Y,λp _=>D g p (ak.trans hF a)⟩)
