import Derived.Test.YtncomcmfgmojkaaGreatPAE
set_option linter.all false
set_option maxRecDepth 100000
set_option maxHeartbeats 16000000
namespace Go.Proofs.YtncomcmfgmojkaaGreat
open Go.Proofs.Tryz
namespace fi
open Conc av bn ah
structure dI where
 st:Nat
 bF:Nat
 wg:Nat
 Md:TypeId
 FB:TypeId
 tWg:TypeId
 N:Nat
 rows:Nat->Nat
 size:Value
 zF:Value
 xt:Value
 least:Value
 K:Nat->Prop
 most:Nat
 C:Nat
 eZ:st≠wg/\st≠bF/\wg≠bF
 zG:∀b,K b->b≠st/\b≠wg/\b≠bF
def zH:At->Prop
 | .main _=>True
 | _=>False
def kp:At->Bool
 | .work .rel _ | .work .nc _ | .work .lb _ | .gone _ | .old=>true
 | _=>false
def r5(c:dI)(b:cx):Obj:=.cells #[.int .u64 ((b.aR*4294967296+b.dZ.toNat:Nat):Int),.int .u32 (b.fW:Int)] c.tWg
def FC(c:dI)(b:cx):Obj:=.cells b.done.toArray c.FB
abbrev az(c:dI):eR where
 al:=At
 aJ:=cx
 Fx:=c2 c.N c.rows
 xq:=λb=>c.C*(c.N-b.taken)
 Bx:=λo a b b'=>(o=true->b'.taken=b.taken/\b'.came=b.came/\b'.done=b.done)/\b.taken<=b'.taken/\(zH a->b'.aR<=b.aR)
 RE:=Mc
 left:=qq
 past:=kp
 zero:=zH
 st:=c.st
 ty:=c.Md
 cells:=λb=>#[c.size,c.zF,.int .i64 (b.taken:Int),.int .i64 (b.came:Int),c.xt,c.least]
 nV:=λb w=>w.heap[c.wg]?=some (r5 c b)/\(True->w.heap[c.bF]?=some (FC c b))
 By:=λk=>k=c.wg\/k=c.bF
 gF:=λl=>(∃off sp,l=.cell ⟨c.st,off,sp⟩/\2<=off)\/e8 l=some c.bF
 eK:=λl=>l=.cell ⟨c.wg,0,none⟩\/l=.cell ⟨c.wg,1,none⟩
 K:=c.K
 wg:=⟨c.wg,0,none⟩
 most:=c.most
def bR(c:dI):(az c).Good where
 refl:=AA
 trans:=AA
 RF:=AA
 L0:=λh=>h.elim c.eZ.1 c.eZ.2.1
 nh:=λb d=>⟨(c.zG b d).1,λh=>h.elim (c.zG b d).2.1 (c.zG b d).2.2⟩
 nI:=λb aC h=>h.alive
 zero:=λb aC j a h f e=>by cases a with|main s=>exact h.only j s f| _=>exact e.elim
 gF:=AA
 eK:=λl h=>by rcases h with rfl|rfl<;>exact⟨c.wg,Y,.inl Y⟩
 sX:=λl h hs=>by
  rcases h with⟨off,sp,rfl,_⟩|h
  .grind
  .rcases hs with rfl|rfl<;>simp[e8]at h<;>exact c.eZ.2.2 h
def YT{A:eR}(G:A.Good){l:ah.Lo A.al}{γ:ah.aN A.aJ}(hs:gH (ak A) l γ){a1:A.al}{b1:A.aJ}{f1 d1:Nat}{mO:Bool}(m:∀(aC:List A.al)(i:Nat),aC[i]?=some l.am->A.Fx γ.am aC->A.Fx b1 (aC.set i a1))(C:f1+A.xq b1+1<=l.fuel+A.xq γ.am)(g:∀(o:Bool)(a':A.al),(l.mx=.own->o=false)->(A.zero l.am->¬A.zero a')->A.Bx o a' γ.am b1)(w:A.left a1->l.mx=.idle)(v:mO=true->l.mx=.own):
 Bn (ak A) l γ ({mx:=l.mx,tok:=mO,deaf:=d1,fuel:=f1,am:=a1}:ah.Lo A.al) ({mu:=γ.mu,a_:=γ.a_-1,am:=b1}:ah.aN A.aJ):=by
 have key:∀(ls:List (ah.Lo A.al))(i:Nat),ls[i]?=some l->rT A γ ls->1<=γ.a_/\((ls.set i ({mx:=l.mx,tok:=mO,deaf:=d1,fuel:=f1,am:=a1}:ah.Lo A.al)).map (·.fuel)).sum+2*qn γ.mu (ls.map (·.mx))+A.xq b1<=γ.a_-1:=by intro ls i hi hg;have c:i<ls.length:=(List.getElem?_eq_some_iff.1 hi).1;have y:=(List.getElem?_eq_some_iff.1 hi).2;have e:=Fu (ls.map (·.fuel)) i f1 AA;have q:(ls.set i ({mx:=l.mx,tok:=mO,deaf:=d1,fuel:=f1,am:=a1}:ah.Lo A.al)).map (·.fuel)=(ls.map (·.fuel)).set i f1:=Br;rw[q];have p:(ls.map (·.fuel))[i]'AA=l.fuel:=AA;rw[p]at e;have z:=L1 (ls.map (·.fuel)) i l.fuel AA;have:=hg.gI;omega
 refine⟨?_,λls i hi hg=>?_⟩
 .obtain⟨ls,i,hi,hg⟩:=hs;grind
 .obtain⟨u,t⟩:=key ls i hi hg;have s:(ls.set i ({mx:=l.mx,tok:=mO,deaf:=d1,fuel:=f1,am:=a1}:ah.Lo A.al)).map (·.mx)=ls.map (·.mx):=RG _ hi Y;have r:(ls.set i ({mx:=l.mx,tok:=mO,deaf:=d1,fuel:=f1,am:=a1}:ah.Lo A.al)).map (·.am)=(ls.map (·.am)).set i a1:=Br;have c:i<ls.length:=(List.getElem?_eq_some_iff.1 hi).1;have k:(ls.map (·.am))[i]?=some l.am:=AA;refine⟨⟨by rw[s];exact hg.lx,by rw[r];exact m _ i k hg.oB,AA,λj b a hk=>?_,λj b a hk=>?_,by rw[List.length_set];exact hg.len⟩,λj h a E=>.inr ⟨AA,?_,.refl _ _⟩⟩
  .by_cases d:j=i
   .grind
   .rw[List.getElem?_set_ne (Ne.symm d)]at a;exact hg.aQ j b a hk
  .by_cases d:j=i
   .grind
   .rw[List.getElem?_set_ne (Ne.symm d)]at a;exact hg.Iq j b a hk
  .refine g _ _ (λB=>?_) (λn f=>?_)
   .cases x:h.mx<;>simp only[YF]
    exact absurd (hg.lx.YC AA AA) a
   .have h1:=G.zero _ _ i l.am hg.oB k n;have D:=G.zero _ _ j h.am hg.oB AA f;grind
section
variable{c:dI}{Q:cg}{Stop:Bool->ah.Lo At->aV->Prop}{m:Bool}{l:ah.Lo At}{γ:ah.aN cx}{X:aV}{w':aO}
def t8{b:cx}{w:aO}(h:w.heap[c.wg]?=some (r5 c b)):w.cell? ⟨c.wg,0,none⟩=some (.int .u64 ((b.aR*4294967296+b.dZ.toNat:Nat):Int)):=by simp[World.cell?,h,r5]
def Me{b:cx}{w:aO}(h:w.heap[c.wg]?=some (r5 c b)):w.cell? ⟨c.wg,1,none⟩=some (.int .u32 (b.fW:Int)):=by simp[World.cell?,h,r5]
def zI{b:cx}{w:aO}(h:w.heap[c.wg]?=some (r5 c b))(off:Nat)(sp):w.frozen? ⟨c.wg,off,sp⟩=false:=by simp[World.frozen?,h,r5]
def YU{mu:bj}{b b1:cx}{w:aO}(h1:w.heap[c.st]?=some (gT (az c) mu b))(d:(az c).nV b w)(hs:b1.fW=b.fW)(ht:b1.taken=b.taken)(f:b1.came=b.came)(hd:b1.done=b.done){v:Int}(a:v=((b1.aR*4294967296+b1.dZ.toNat:Nat):Int)):
 (w.setCell ⟨c.wg,0,none⟩ (.int .u64 v)).heap[c.st]?=some (gT (az c) mu b1)/\(az c).nV b1 (w.setCell ⟨c.wg,0,none⟩ (.int .u64 v)):=by
 subst a;refine⟨?_,?_,λe=>?_⟩
 .rw[ni w _ _ c.eZ.1,h1];grind[gT]
 .simp_all[World.setCell,Array.getElem?_modify,r5]
 .rw[ni w _ _ (Ne.symm c.eZ.2.2),d.2 e];grind[FC]
def alz{mu:bj}{b b1:cx}{w:aO}(h1:w.heap[c.st]?=some (gT (az c) mu b))(d:(az c).nV b w)(hs:b1.aR=b.aR/\b1.dZ=b.dZ)(ht:b1.taken=b.taken)(f:b1.came=b.came)(hd:b1.done=b.done){v:Int}(a:v=(b1.fW:Int)):
 (w.setCell ⟨c.wg,1,none⟩ (.int .u32 v)).heap[c.st]?=some (gT (az c) mu b1)/\(az c).nV b1 (w.setCell ⟨c.wg,1,none⟩ (.int .u32 v)):=by
 subst a;refine⟨?_,?_,λe=>?_⟩
 .rw[ni w _ _ c.eZ.1,h1];grind[gT]
 .simp_all[World.setCell,Array.getElem?_modify,r5]
 .rw[ni w _ _ (Ne.symm c.eZ.2.2),d.2 e];grind[FC]
def RY{mine:Nat->Prop}(w:aO)(off:Nat)(sp)(v:Value):kW (ak (az c)) mine w (w.setCell ⟨c.wg,off,sp⟩ v):=
 ⟨λb _ _ hs=>ni w _ v AA,Br,.refl _,Y,Y⟩
def YV{mine:Nat->Prop}(w:aO)(off:Nat)(sp)(v:Value):kW (ak (az c)) mine w (w.setCell ⟨c.st,off,sp⟩ v):=
 ⟨λb _ _ hs=>ni w _ v AA,Br,.refl _,Y,Y⟩
def alA{mine:Nat->Prop}(w:aO)(off:Nat)(sp)(v:Value):kW (ak (az c)) mine w (w.setCell ⟨c.bF,off,sp⟩ v):=
 ⟨λb _ _ hs=>ni w _ v AA,Br,.refl _,Y,Y⟩
end
end fi
namespace fi
open Conc bn ah
section
section
variable{N:Nat}{rows:Nat->Nat}{b:cx}{xs:List At}{i:Nat}{l:List (Nat×Value)}
def c2.alC(h:c2 N rows b xs)(hi:xs[i]?=some (.work .rel l)):1<=b.aR:=by have h1:=h.aR;grind[po,ga]
def c2.alD(h:c2 N rows b xs)(hi:xs[i]?=some (.work .nc l)):b.aR=0/\b.dZ=true:=by
 have:=po gp xs i _ hi;simp[gp]at this;obtain⟨s,_,a⟩:=h.main;cases s with
 |rZ=>
  rcases a with⟨m1,_,_,d⟩|⟨_,_,c,_⟩
  .grind
  .omega
 |spawn k q=>have:=a.2.2.1;omega
 |pn=>have:=a.2.2.1;omega
 |over=>have:=a.2.2.2.1;omega
def c2.alE(h:c2 N rows b xs)(hi:xs[i]?=some (.work .lb l)):b.fW=0:=by
 have:=po gK xs i _ hi;simp[gK]at this;obtain⟨s,_,a⟩:=h.main;cases s with
 |rZ=>rcases a with⟨_,_,c,_⟩|⟨_,_,_,d⟩<;>omega
 |spawn k q=>have:=a.2.2.2;omega
 |pn=>have:=a.2.2.2;omega
 |over=>have:=a.2.2.2.2;omega
end
section
variable{c:dI}{l:ah.Lo At}{γ:ah.aN cx}{p:List (Nat×Value)}
def t9(h:gH (ak (az c)) l γ):∃(xs:List At)(i:Nat),xs[i]?=some l.am/\c2 c.N c.rows γ.am xs:=by obtain⟨ls,i,hi,hg⟩:∃(ls:List (ah.Lo At))(i:Nat),ls[i]?=some l/\rT (az c) γ ls:=h;exact⟨ls.map (·.am),i,AA,hg.oB⟩
def alF(h:gH (ak (az c)) l γ)(a:l.am=.work .rel p):1<=γ.am.aR:=by obtain⟨xs,i,hi,hg⟩:=t9 h;rw[a]at hi;exact hg.alC hi
def YW(h:gH (ak (az c)) l γ)(a:l.am=.work .nc p):γ.am.aR=0/\γ.am.dZ=true:=by obtain⟨xs,i,hi,hg⟩:=t9 h;rw[a]at hi;exact hg.alD hi
def alG(h:gH (ak (az c)) l γ)(a:l.am=.work .lb p):γ.am.fW=0:=by obtain⟨xs,i,hi,hg⟩:=t9 h;rw[a]at hi;exact hg.alE hi
end
end
variable{g1:Goroutine}
section
open av
section
variable{c:dI}{Q:cg}{Stop:Bool->ah.Lo At->aV->Prop}{m:Bool}{l:ah.Lo At}{γ:ah.aN cx}{X:aV}{w':aO}
def BI(n:dO (ak (az c)) l γ X w'){w1:aO}{es:Array Event}{a1:At}{b1:cx}{f1 d1:Nat}(hs:stepG Q m X.g w'=.go g1 w1 es)(hrun:g1.status=.running)(b:∃e∈es,vN (ak (az c)) e)(hk:kW (ak (az c)) X.mine w' w1)(hsz:w1.heap.size=w'.heap.size)(j:w1.heap[c.st]?=some (gT (az c) γ.mu b1)/\(az c).nV b1 w1)(f:∀(aC:List At)(i:Nat),aC[i]?=some l.am->c2 c.N c.rows γ.am aC->c2 c.N c.rows b1 (aC.set i a1))(p:f1+c.C*(c.N-b1.taken)+1<=l.fuel+c.C*(c.N-γ.am.taken))(q:l.mx=.own\/(b1.taken=γ.am.taken/\b1.came=γ.am.came/\b1.done=γ.am.done))(s:γ.am.taken<=b1.taken)(y:zH l.am\/b1.aR<=γ.am.aR)(k:qq a1->l.mx=.idle)(g:l.tok=true->l.mx=.own)(says:Says (ak (az c)) l ({l with am:=a1,fuel:=f1,deaf:=d1}:ah.Lo At) X.mine es)(d:mayWake Q X.g=true\/∀a,Mc a γ.am->Mc a b1)(w:qq a1->m=false/\Stop m ({l with am:=a1,fuel:=f1,deaf:=d1}:ah.Lo At) ⟨g1,w1,X.mine⟩)(h:bh (ak (az c)) Q Stop m ({l with am:=a1,fuel:=f1,deaf:=d1}:ah.Lo At) ({γ with am:=b1,a_:=γ.a_-1}:ah.aN cx) ⟨g1,w1,X.mine⟩):Then (Z:=ak (az c)) Q Stop m l γ X w':=by
 have hg:grown X.mine w' w1=X.mine:=kX hsz;refine .turn (l1:=({l with am:=a1,fuel:=f1,deaf:=d1}:ah.Lo At)) (bx:=({γ with am:=b1,a_:=γ.a_-1}:ah.aN cx)) hs ⟨hrun,.inl b,hk,j,YT (bR c) n.sees f p (λo a' v t=>?_) k g,AA,d.imp id λu r x=>?_⟩ AA AA
 .grind
 grind
def Mg(d:dO (ak (az c)) l γ X w'){a1:At}{b1:cx}{f1:Nat}{v:Int}(hs:stepG Q m X.g w'=.go g1 (w'.setCell ⟨c.wg,0,none⟩ (.int .u64 v)) #[⟨.cell ⟨c.wg,0,none⟩,false,true⟩,⟨.cell ⟨c.wg,0,none⟩,true,true⟩])(hrun:g1.status=.running)(o:v=((b1.aR*4294967296+b1.dZ.toNat:Nat):Int))(hd:0<l.deaf)(e:b1.fW=γ.am.fW)(b:b1.taken=γ.am.taken/\b1.came=γ.am.came/\b1.done=γ.am.done)(j:∀(aC:List At)(i:Nat),aC[i]?=some l.am->c2 c.N c.rows γ.am aC->c2 c.N c.rows b1 (aC.set i a1))(r:f1<l.fuel)(q:zH l.am\/b1.aR<=γ.am.aR)(n:qq a1->l.mx=.idle)(k:l.tok=true->l.mx=.own)(g:kp a1=kp l.am)(p:qq a1->m=false/\Stop m ({l with am:=a1,fuel:=f1}:ah.Lo At) ⟨g1,w'.setCell ⟨c.wg,0,none⟩ (.int .u64 v),X.mine⟩)(h:bh (ak (az c)) Q Stop m ({l with am:=a1,fuel:=f1}:ah.Lo At) ({γ with am:=b1,a_:=γ.a_-1}:ah.aN cx) ⟨g1,w'.setCell ⟨c.wg,0,none⟩ (.int .u64 v),X.mine⟩):Then (Z:=ak (az c)) Q Stop m l γ X w':=
 BI (d1:=l.deaf) d hs hrun ⟨⟨.cell ⟨c.wg,0,none⟩,true,true⟩,A_,.inr (.inr (.inr (.inr ⟨Y,c.wg,Y,.inr Kg⟩)))⟩ (RY w' 0 none _) (oC _ _ _) (YU d.mt.1 d.mt.2 e b.1 b.2.1 b.2.2 o) j AA (.inr b) AA q n k
  (.inl ⟨Y,g,Y,.inr AA,.inr ⟨Y,AA,hd⟩,PA⟩) (.inr λa f=>⟨f.1,e.trans f.2⟩) p h
def alJ(d:dO (ak (az c)) l γ X w'){a1:At}{b1:cx}{f1:Nat}{v:Int}(hs:stepG Q m X.g w'=.go g1 (w'.setCell ⟨c.wg,0,none⟩ (.int .u64 v)) #[⟨.cell ⟨c.wg,0,none⟩,true,true⟩])(hrun:g1.status=.running)(n:v=((b1.aR*4294967296+b1.dZ.toNat:Nat):Int))(hd:0<l.deaf)(e:b1.fW=γ.am.fW)(b:b1.taken=γ.am.taken/\b1.came=γ.am.came/\b1.done=γ.am.done)(j:∀(aC:List At)(i:Nat),aC[i]?=some l.am->c2 c.N c.rows γ.am aC->c2 c.N c.rows b1 (aC.set i a1))(q:f1<l.fuel)(o:zH l.am\/b1.aR<=γ.am.aR)(p:¬qq a1)(k:l.tok=true->l.mx=.own)(g:kp a1=kp l.am)(h:bh (ak (az c)) Q Stop m ({l with am:=a1,fuel:=f1}:ah.Lo At) ({γ with am:=b1,a_:=γ.a_-1}:ah.aN cx) ⟨g1,w'.setCell ⟨c.wg,0,none⟩ (.int .u64 v),X.mine⟩):Then (Z:=ak (az c)) Q Stop m l γ X w':=
 BI (d1:=l.deaf) d hs hrun ⟨⟨.cell ⟨c.wg,0,none⟩,true,true⟩,A_,.inr (.inr (.inr (.inr ⟨Y,c.wg,Y,.inr Kg⟩)))⟩ (RY w' 0 none _) (oC _ _ _) (YU d.mt.1 d.mt.2 e b.1 b.2.1 b.2.2 n) j AA (.inr b) AA o AA k
  (.inl ⟨Y,g,Y,.inr AA,PA⟩) (.inr λa f=>⟨f.1,e.trans f.2⟩) AA h
def YX(d:dO (ak (az c)) l γ X w'){a1:At}{b1:cx}{f1:Nat}{v:Int}(hs:stepG Q m X.g w'=.go g1 (w'.setCell ⟨c.wg,1,none⟩ (.int .u32 v)) (semEvents ⟨c.wg,1,none⟩))(hrun:g1.status=.running)(o:v=(b1.fW:Int))(r:b1.aR=γ.am.aR/\b1.dZ=γ.am.dZ)(b:b1.taken=γ.am.taken/\b1.came=γ.am.came/\b1.done=γ.am.done)(j:∀(aC:List At)(i:Nat),aC[i]?=some l.am->c2 c.N c.rows γ.am aC->c2 c.N c.rows b1 (aC.set i a1))(s:f1<l.fuel)(n:qq a1->l.mx=.idle)(k:l.tok=true->l.mx=.own)(g:kp a1=kp l.am)(f:mayWake Q X.g=true\/γ.am.fW≠0)(p:qq a1->m=false/\Stop m ({l with am:=a1,fuel:=f1}:ah.Lo At) ⟨g1,w'.setCell ⟨c.wg,1,none⟩ (.int .u32 v),X.mine⟩)(h:bh (ak (az c)) Q Stop m ({l with am:=a1,fuel:=f1}:ah.Lo At) ({γ with am:=b1,a_:=γ.a_-1}:ah.aN cx) ⟨g1,w'.setCell ⟨c.wg,1,none⟩ (.int .u32 v),X.mine⟩):Then (Z:=ak (az c)) Q Stop m l γ X w':=
 BI (d1:=l.deaf) d hs hrun ⟨⟨.cell ⟨c.wg,1,none⟩,true,true⟩,by simp[semEvents],.inr (.inr (.inr (.inr ⟨Y,c.wg,Y,.inr Kg⟩)))⟩ (RY w' 1 none _) (oC _ _ _) (alz d.mt.1 d.mt.2 r b.1 b.2.1 b.2.2 o) j AA (.inr b) AA AA n k
  (.inl ⟨Y,g,by grind[deafBehind,semEvents],.inl trivial,.inr ⟨Y,AA,H3⟩,.inr ⟨Y,AA,H3⟩,.inl trivial,PA⟩)
  (f.imp id λe a q=>absurd q.2 e) p h
def YY(b:dO (ak (az c)) l γ X w'){mk:Mark}(a:mk=.disable\/mk=.enable){a1:At}{f1 d1:Nat}(hs:stepG Q m X.g w'=.go g1 w' #[⟨.mark mk,false,true⟩])(hrun:g1.status=.running)(f:∀(aC:List At)(i:Nat),aC[i]?=some l.am->c2 c.N c.rows γ.am aC->c2 c.N c.rows γ.am (aC.set i a1))(k:f1<l.fuel)(j:¬qq a1)(g:l.tok=true->l.mx=.own)(d:kp a1=kp l.am)(hd:d1=deafBehind l.deaf #[⟨.mark mk,false,true⟩])(h:bh (ak (az c)) Q Stop m ({l with am:=a1,fuel:=f1,deaf:=d1}:ah.Lo At) ({γ with a_:=γ.a_-1}:ah.aN cx) ⟨g1,w',X.mine⟩):Then (Z:=ak (az c)) Q Stop m l γ X w':=
 BI (b1:=γ.am) (d1:=d1) b hs hrun ⟨⟨.mark mk,false,true⟩,A_,a.elim (λe=>.inl (by rw[e])) (λe=>.inr AA)⟩ (ra _ _ _) Y b.mt f As AA J1 AA AA g
  (.inl ⟨Y,d,hd,.inl (by rcases a with rfl|rfl<;>exact trivial),PA⟩) AA AA h
def alK(a:dO (ak (az c)) l γ X w'){p:List (Nat×Value)}{f1:Nat}(hs:stepG Q m X.g w'=.go g1 w' #[⟨.mark (.releaseMerge ⟨c.wg,0,none⟩),false,true⟩])(hrun:g1.status=.running)(d:l.am=.work .free p)(a0:γ.am.taken=c.N)(f:f1<l.fuel)(hd:l.deaf=0)(b:l.tok=false)(h:bh (ak (az c)) Q Stop m ({l with am:=.work .rel p,fuel:=f1}:ah.Lo At) ({γ with a_:=γ.a_-1}:ah.aN cx) ⟨g1,w',X.mine⟩):Then (Z:=ak (az c)) Q Stop m l γ X w':=
 BI (a1:=.work .rel p) (b1:=γ.am) (d1:=l.deaf) a hs hrun ⟨⟨.mark (.releaseMerge ⟨c.wg,0,none⟩),false,true⟩,A_,.inr AA⟩ (ra _ _ _) Y a.mt (λaC i hi hg=>hg.release a0 AA) As AA J1 AA Lh AA
  (.inr (.inr (.inr ⟨Y,hd,hd,Y,Y⟩))) AA (λe=>e.elim) h
end
end
end fi
namespace sn
open Conc
theorem Ug:(f75.name== "runtime.NumGoroutine")=false:=by kernel_rfl
theorem Ub:f75.body.isNone=true:=by kernel_rfl
theorem Ua:Extern.findNext f75=none:=by kernel_rfl
theorem T9:Extern.find f75=some (λ_=>pure (.bool false)):=by kernel_rfl
theorem TA:(f108.name== "runtime.NumGoroutine")=false:=by kernel_rfl
theorem TB:f108.body.isNone=true:=by kernel_rfl
theorem TC:Extern.findNext f108=none:=by kernel_rfl
theorem TD:Extern.find f108=some (Extern.Atomic.update (Op.intArith .add) .u64 true):=by kernel_rfl
theorem TE:(f109.name== "runtime.NumGoroutine")=false:=by kernel_rfl
theorem TF:f109.body.isNone=true:=by kernel_rfl
theorem TG:Extern.find f109=some (Extern.Atomic.loadT (.int .u64)):=by kernel_rfl
theorem TH:Extern.findNext f109=none:=by kernel_rfl
theorem apV:(f110.name== "runtime.NumGoroutine")=false:=by kernel_rfl
theorem apW:f110.body.isNone=true:=by kernel_rfl
theorem apX:Extern.find f110=some Extern.Atomic.storeT:=by kernel_rfl
theorem apY:Extern.findNext f110=none:=by kernel_rfl
theorem T8:(f115.name== "runtime.NumGoroutine")=false:=by kernel_rfl
theorem T7:f115.body.isNone=true:=by kernel_rfl
theorem TQ:Extern.findNext f115=none:=by kernel_rfl
theorem TN:Extern.find f115=some (Extern.Atomic.casT (.int .u64)):=by kernel_rfl
theorem TJ:(f91.name== "runtime.NumGoroutine")=false:=by kernel_rfl
theorem Tz:f91.body.isNone=true:=by kernel_rfl
theorem RO:Extern.findNext f91=none:=by kernel_rfl
theorem Nx:Extern.find f91=some Extern.Sync.semacquire:=by kernel_rfl
theorem apZ:(f84.name== "runtime.NumGoroutine")=false:=by kernel_rfl
theorem Nw:f84.body.isNone=true:=by kernel_rfl
theorem ap0:Extern.findNext f84=none:=by kernel_rfl
theorem ap1:Extern.find f84=some Extern.Sync.semrelease:=by kernel_rfl
theorem ap2:(f80.name== "runtime.NumGoroutine")=false:=by kernel_rfl
theorem ap3:f80.body.isNone=true:=by kernel_rfl
theorem ap4:Extern.findNext f80=none:=by kernel_rfl
theorem ap5:Extern.find f80=some (Extern.Race.marked .read):=by kernel_rfl
theorem ap6:(f90.name== "runtime.NumGoroutine")=false:=by kernel_rfl
theorem ap7:f90.body.isNone=true:=by kernel_rfl
theorem ap8:Extern.findNext f90=none:=by kernel_rfl
theorem ap9:Extern.find f90=some (Extern.Race.marked .write):=by kernel_rfl
theorem ap_:(f52.name== "runtime.NumGoroutine")=false:=by kernel_rfl
theorem Nv:(f79.name== "runtime.NumGoroutine")=false:=by kernel_rfl
theorem TI:(f81.name== "runtime.NumGoroutine")=false:=by kernel_rfl
theorem aqa:(f82.name== "runtime.NumGoroutine")=false:=by kernel_rfl
theorem aqb:(f89.name== "runtime.NumGoroutine")=false:=by kernel_rfl
open RowKit Conc.Lib ConcR.Gen ConcM av bn ah fi bO
def T3{c:dI}(e9:c.most<=250){l:ah.Lo At}{γ:ah.aN cx}(h:gH (ak (az c)) l γ):γ.am.aR<=250:=by
 obtain⟨ls,i,hi,hg⟩:∃(ls:List (ah.Lo At))(i:Nat),ls[i]?=some l/\rT (az c) γ ls:=h;have h1:γ.am.aR=dc ga (ls.map (·.am)):=hg.oB.aR;have d:ls.length<=c.most:=hg.len;have h3:∀xs:List At,dc ga xs<=xs.length:=by
  intro xs;induction xs with
  |nil=>simp[dc]
  |cons a xs b=>
   have:ga a<=1:=by
    cases a with
    |main s=>cases s with
     |spawn k q=>cases q<;>simp[ga]
     | _=>simp[ga]
    |work s l=>cases s<;>simp[ga]
    | _=>simp[ga]
   grind[dc]
 grind
def Gi{c:dI}{mine:Nat->Prop}(h:∀b,c.K b\/mine b->b≠c.wg)(w:aO)(off:Nat)(sp)(v:Value):ai (ak (az c)) mine w (w.setCell ⟨c.wg,off,sp⟩ v):=
 ⟨λb a=>ni w _ v (h b a),Br,.refl _,Y,Y⟩
def NC:∀n,n<256->∀t,t<2->bits .and .u64 ((n*4294967296+t:Nat):Int) 2147483648=0/\bits .and .u64 ((n*4294967296+t:Nat):Int) 2147483647=(t:Int):=by decide+kernel
def T4:prog.underlying 176=some (.pointer 139):=by simp
theorem T5:(prog.info? 139).map (λi=>decide (i.size=0))=some false:=by kernel_rfl
def zX:prog.underlying 184=some (.pointer 137):=by simp
theorem PL:(prog.info? 137).map (λi=>decide (i.size=0))=some false:=by kernel_rfl
def Js{m:Bool}{b:Frame}{a:Act}{kk:List Item}{cs:List Frame}{w:aO}{ops:Array Oper}{i:Nat}{rest:List Nat}{o:Oper}{src t:TypeId}(d:prog.underlying src=some (.pointer t))(c:(prog.info? t).map (λi=>decide (i.size=0))=some false){x:Operand}(j:ops[i]?=some o)(f:Region.wanted o (yielded ops a.tmps)=true)(hk:b.kind≠ .early)(h:o.op=.convert src 178 x){ad:Addr}{v:Value}(n:a.eval x=.pointer (some ad))(e:w.cell? ad=some v):
 stepG prog m (Conc.G (b.at a (.inRegion ops (i::rest)::kk)) cs) w=.go (Conc.G (b.at (a.put o.dst (.pointer (some ad))) (.inRegion ops rest::kk)) cs) w #[]:=by
 have k:=run_convert_to_unsafe (P:=prog) d Ng c e;have l:=λes=>events_convert_to_unsafe (P:=prog) d Ng c e es;have g:(execOp a.eval o).run prog w=.ok (.value (.pointer (some ad))) w:=by simp_all[execOp]
 have p:(execOp a.eval o).events prog w #[]=#[]:=by simp_all[execOp]
 rw[stepG_value j f hk g];grind[listed,seen_none]
def PH{c:dI}{Q:cg}{Stop:Bool->ah.Lo At->aV->Prop}{m:Bool}{l:ah.Lo At}{γ:ah.aN cx}{X:aV}{w':aO}(g:dO (ak (az c)) l γ X w'){g1:Goroutine}{mk:Mark}(b:mk=.read ⟨c.wg,1,none⟩\/mk=.write ⟨c.wg,1,none⟩)(d:zH l.am)(hs:stepG Q m X.g w'=.go g1 w' #[⟨.mark mk,false,true⟩])(hrun:g1.status=.running)(h:bh (ak (az c)) Q Stop m l γ ⟨g1,w',X.mine⟩):Then (Z:=ak (az c)) Q Stop m l γ X w':=by
 refine .quiet hs ⟨hrun,ra _ _ _,λ_ _ _=>Y,⟨.inr ⟨d,⟨c.wg,1,none⟩,.inr (.inr K1),b⟩,PA⟩,?_⟩ ?_
 .rintro(⟨e,a,f⟩|h)
  .simp only[List.mem_toArray,List.mem_cons,List.not_mem_nil,or_false]at a;subst a;rcases f with h|h|⟨_,h⟩|⟨_,h⟩|⟨h,_⟩
   .grind
   .grind
   .grind
   .grind
   grind
  grind
 grind[kX]
section
variable{c:dI}{Stop:Bool->ah.Lo At->aV->Prop}{m:Bool}{mine:Nat->Prop}
variable{a2:Frame}{aF:Act}{aD:Array Oper}{aI:Nat}{aL:List Nat}{aH:List Item}{csZ:List Frame}
def arh{f k:Nat}(e9:c.most<=250)(H:∀b,c.K b\/mine b->b≠c.wg){w0:aO}(E:∀w' I,ai (ak (az c)) mine w0 w'->bh (ak (az c)) prog Stop m ⟨.idle,false,0,f,.main (.spawn k true)⟩ I ⟨Conc.G (a2.at (aF.put ((aD[aI]?).bind (·.dst)) (.tuple #[])) (.inRegion aD aL::aH)) csZ,w',mine⟩)(w:aO)(γ:ah.aN cx)(F:ai (ak (az c)) mine w0 w):
 bh (ak (az c)) prog Stop m ⟨.idle,false,0,f+3,.main (.spawn k false)⟩ γ ⟨Conc.G ((base 52).at ⟨#[.pointer (some ⟨c.wg,0,none⟩),.int .i64 1,undef,undef,undef,undef,undef,undef,undef,undef,undef,undef,undef,undef,undef,undef,undef,undef,undef,undef,undef,undef,undef,undef,undef,undef,undef,undef,undef,undef,undef,undef,undef,undef,undef,undef,undef,undef,undef,undef,undef,undef,undef,undef,undef,undef,undef,undef,undef,undef,undef,undef,undef,undef,undef,undef,undef,undef,undef,undef,undef,undef,undef,undef,undef,undef,undef,undef,undef,undef,undef,undef,undef,undef,undef,undef,undef,undef,undef,undef,undef,undef,undef,undef,undef,undef,undef,undef,undef,undef,undef,undef,undef,undef,undef,undef,undef,undef,undef,undef,undef,undef,undef,undef,undef,undef,undef,undef,undef,undef,undef,undef,undef,undef,undef,undef,undef],[]⟩ [.code (f52.body.getD .skip)]) (a2.at aF (.inRegion aD (aI::aL)::aH)::csZ),w,mine⟩:=by
 have hF:=F;simp only[f52,Option.getD_some];refine bk (bR c) ?_;repeat w_go ai.trans
 refine dH Y hF λg a p o j d n l hF=>?_;refine rU (d1:=1) (bR c) l Kg (stepG_mark0 .disable A_ Y Y BJ Y func73 Cq Cr Cs Ct) Y Lv (rS (f1:=f+2) KX _) A_ Y ?_;clear l n o a;refine bk (bR c) ?_;walk_nrm
 repeat w_go ai.trans
 u_defer ai.trans hF
 repeat w_go ai.trans
 refine dH Y hF λg a p o j d n l hF=>?_;refine lz (A:=az c) (stepG_entry_pure (.bool false) Y Y BJ Y func75 Ug Ub Ua T9) Y Y (.refl _) Y Y ?_;clear l n o a;refine bk (bR c) ?_;walk_nrm
 repeat w_go ai.trans
 u_call func79 Nv f79 ai.trans hF
 repeat w_go ai.trans
 refine dH Y hF λg a p o j d n l hF=>?_;have M:=T3 e9 l.sees;have B:d.am.dZ=false:=by obtain⟨ls,dM,hi,hg⟩:=l.sees;obtain⟨s,hs,D⟩:=hg.oB.main;have h0:=hg.oB.only dM (.spawn k false) AA;subst h0;rw[List.getElem?_map,hi]at hs;cases hs;exact D.1
 have q:IntKind.wrap .u64 (((d.am.aR*4294967296+d.am.dZ.toNat:Nat):Int)+4294967296)=((({d.am with aR:=d.am.aR+1}:cx).aR*4294967296+({d.am with aR:=d.am.aR+1}:cx).dZ.toNat:Nat):Int):=by grind[IntKind.wrap_u64]
 refine Mg l (a1:=.main (.spawn k true)) (b1:={d.am with aR:=d.am.aR+1}) (f1:=f+1) (stepG_add_atomic Y Y BJ Y func108 TA TB TC .u64 TD Y Y (t8 l.mt.2.1) (zI l.mt.2.1 0 none)) Y q A_ Y ⟨Y,Y,Y⟩ (λxs i hi hg=>?_) KX (.inl trivial) Lh A_ Y Lh ?_
 .have h0:=hg.only i _ hi;subst h0;exact hg.add hi
 rw[q];replace hF:=ai.trans hF (Gi (c:=c) (mine:=mine) H j 0 none (.int .u64 ((({d.am with aR:=d.am.aR+1}:cx).aR*4294967296+({d.am with aR:=d.am.aR+1}:cx).dZ.toNat:Nat):Int)));have v:((({d.am with aR:=d.am.aR+1}:cx).aR*4294967296+({d.am with aR:=d.am.aR+1}:cx).dZ.toNat:Nat):Int)=((d.am.aR+1:Nat):Int)*4294967296:=by grind
 rw[v]at hF⊢;have u:bits .and .u64 (((d.am.aR+1:Nat):Int)*4294967296) 2147483648=0:=by have:=(NC (d.am.aR+1) As 0 As).1;grind
 have t:bits .and .u64 (((d.am.aR+1:Nat):Int)*4294967296) 2147483647=0:=by have:=(NC (d.am.aR+1) As 0 As).2;grind
 have z:(((d.am.aR+1:Nat):Int)*4294967296) / 4294967296=((d.am.aR+1:Nat):Int):=As;have L:IntKind.wrap .i32 ((d.am.aR+1:Nat):Int)=((d.am.aR+1:Nat):Int):=Iu;have C:(0:Int)<((d.am.aR+1:Nat):Int):=As;clear q B v;generalize((d.am.aR+1:Nat):Int)=y at hF u z t L C⊢;have N:decide (y<0)=false:=AA;have J:decide (0<y)=true:=AA;generalize y*4294967296=x at hF u z t⊢;clear l n o a;refine bk (bR c) ?_;walk_nrm
 repeat w_go ai.trans
 by_cases r:y=1;focus
  subst r;u_leave1 func79 ai.trans hF
  repeat w_go ai.trans
  refine dH Y hF λg a p o j d n l hF=>?_;refine lz (A:=az c) (Js zX PL Y Y BJ Y Y (Me l.mt.2.1)) Y Y (.refl _) Y Y ?_;clear l n o a;refine bk (bR c) ?_;walk_nrm
  repeat w_go ai.trans
  refine dH Y hF λg a p o j d n l hF=>?_;refine PH l Kg trivial (stepG_markAt .read A_ Y Y BJ Y func80 ap2 ap3 ap4 ap5 B4) Y ?_;clear l n o a;refine bk (bR c) ?_;walk_nrm
 rotate_left
 focus
  have K:(y==1)=false:=AA;u_leave1 func79 ai.trans hF
 rotate_left
 all_goals
  repeat w_go ai.trans
  refine dH Y hF λg a p o j d n l hF=>?_;refine rU (d1:=0) (bR c) l K1 (stepG_unwind_entry Y func74 qy qz qA qB (by simp[Extern.Race.none_];rfl) A_ A_) Y Lv (rS (f1:=f) KX _) A_ Y ?_;clear l n o a;refine bk (bR c) ?_;u_leave0 func52 ai.trans hF
  exact Goes.stop (λg a=>⟨Y,λp _=>E g p (ai.trans hF a)⟩)
end
end sn
end Go.Proofs.YtncomcmfgmojkaaGreat
