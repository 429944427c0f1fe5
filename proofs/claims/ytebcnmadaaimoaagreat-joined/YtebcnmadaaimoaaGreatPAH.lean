import Derived.Test.YtebcnmadaaimoaaGreatPAD
set_option linter.all false
set_option maxRecDepth 100000
set_option maxHeartbeats 16000000
namespace Go.Proofs.YtebcnmadaaimoaaGreat
open Go.Proofs.Tryz
namespace ft
open Conc az bo ag
variable{g1:uai}{d1 f1:Nat}
section
section
variable{c:dy}{Q:cf}{Stop:Bool->ag.Lo At->aX->Prop}{m:Bool}{l:ag.Lo At}{γ:ag.aN ck}{X:aX}{w':aL}
def yn(n:dP (al (av c)) l γ X w'){w1:aL}{es:uaq}{a1:At}{b1:ck}(hs:stepG Q m X.g w'=.go g1 w1 es)(hrun:g1.status=.running)(b:∃e∈es,uX (al (av c)) e)(hk:lF (al (av c)) X.mine w' w1)(hsz:w1.heap.size=w'.heap.size)(j:w1.heap[c.st]?=some (gS (av c) γ.mu b1)/\(av c).oF b1 w1)(g:∀(aB:List At)(i:Nat),aB[i]?=some l.aj->cT c.N c.rows c.b3 γ.aj aB->cT c.N c.rows c.b3 b1 (aB.set i a1))(p:f1+c.C*(c.N-b1.taken)+1<=l.fuel+c.C*(c.N-γ.aj.taken))(q:l.mx=.own\/(b1.taken=γ.aj.taken/\b1.came=γ.aj.came/\b1.done=γ.aj.done/\b1.least=γ.aj.least))(s:γ.aj.taken<=b1.taken/\γ.aj.came<=b1.came)(y:AL l.aj\/b1.aW<=γ.aj.aW)(k:qR a1->l.mx=.idle)(f:l.tok=true->l.mx=.own)(says:Says (al (av c)) l ({l with aj:=a1,fuel:=f1,deaf:=d1}:ag.Lo At) X.mine es)(d:mayWake Q X.g=true\/∀a,MS a γ.aj->MS a b1)(w:qR a1->m=false/\Stop m ({l with aj:=a1,fuel:=f1,deaf:=d1}:ag.Lo At) ⟨g1,w1,X.mine⟩)(h:bg (al (av c)) Q Stop m ({l with aj:=a1,fuel:=f1,deaf:=d1}:ag.Lo At) ({γ with aj:=b1,a6:=γ.a6-1}:ag.aN ck) ⟨g1,w1,X.mine⟩):Then (Z:=al (av c)) Q Stop m l γ X w':=by
 have hg:grown X.mine w' w1=X.mine:=kC hsz;refine .turn (l1:=({l with aj:=a1,fuel:=f1,deaf:=d1}:ag.Lo At)) (bF:=({γ with aj:=b1,a6:=γ.a6-1}:ag.aN ck)) hs ⟨hrun,.inl b,hk,j,RQ (bD c) n.sees g p (λo a' v t=>?_) k f,AF,d.imp id λu r x=>?_⟩ AF AF
 .grind
 grind
def MX(d:dP (al (av c)) l γ X w'){a1:At}{b1:ck}{v:Int}(hs:stepG Q m X.g w'=.go g1 (w'.setCell ⟨c.wg,0,none⟩ (.int .u64 v)) #[⟨.cell ⟨c.wg,0,none⟩,false,true⟩,⟨.cell ⟨c.wg,0,none⟩,true,true⟩])(hrun:g1.status=.running)(hv:v=((b1.aW*4294967296+b1.et.toNat:Nat):Int))(hd:0<l.deaf)(f:b1.gF=γ.aj.gF)(b:b1.taken=γ.aj.taken/\b1.came=γ.aj.came/\b1.done=γ.aj.done/\b1.least=γ.aj.least)(k:∀(aB:List At)(i:Nat),aB[i]?=some l.aj->cT c.N c.rows c.b3 γ.aj aB->cT c.N c.rows c.b3 b1 (aB.set i a1))(q:f1<l.fuel)(p:AL l.aj\/b1.aW<=γ.aj.aW)(n:qR a1->l.mx=.idle)(j:l.tok=true->l.mx=.own)(g:jx a1=jx l.aj)(o:qR a1->m=false/\Stop m ({l with aj:=a1,fuel:=f1}:ag.Lo At) ⟨g1,w'.setCell ⟨c.wg,0,none⟩ (.int .u64 v),X.mine⟩)(h:bg (al (av c)) Q Stop m ({l with aj:=a1,fuel:=f1}:ag.Lo At) ({γ with aj:=b1,a6:=γ.a6-1}:ag.aN ck) ⟨g1,w'.setCell ⟨c.wg,0,none⟩ (.int .u64 v),X.mine⟩):Then (Z:=al (av c)) Q Stop m l γ X w':=
 yn (d1:=l.deaf) d hs hrun ⟨⟨.cell ⟨c.wg,0,none⟩,true,true⟩,Ab,.inr (.inr (.inr (.inr ⟨U,c.wg,U,.inr KB⟩)))⟩ (R_ w' 0 none _) (nU _ _ _) (Y_ d.mt.1 d.mt.2 f b.1 b.2.1 b.2.2 hv) k AF (.inr b) AF p n j
  (.inl ⟨U,g,U,.inr AF,.inr ⟨U,AF,hd⟩,NE⟩) (.inr λa e=>⟨e.1,f.trans e.2⟩) o h
def amN(d:dP (al (av c)) l γ X w'){a1:At}{b1:ck}{v:Int}(hs:stepG Q m X.g w'=.go g1 (w'.setCell ⟨c.wg,0,none⟩ (.int .u64 v)) #[⟨.cell ⟨c.wg,0,none⟩,true,true⟩])(hrun:g1.status=.running)(hv:v=((b1.aW*4294967296+b1.et.toNat:Nat):Int))(hd:0<l.deaf)(f:b1.gF=γ.aj.gF)(b:b1.taken=γ.aj.taken/\b1.came=γ.aj.came/\b1.done=γ.aj.done/\b1.least=γ.aj.least)(k:∀(aB:List At)(i:Nat),aB[i]?=some l.aj->cT c.N c.rows c.b3 γ.aj aB->cT c.N c.rows c.b3 b1 (aB.set i a1))(p:f1<l.fuel)(n:AL l.aj\/b1.aW<=γ.aj.aW)(o:¬qR a1)(j:l.tok=true->l.mx=.own)(g:jx a1=jx l.aj)(h:bg (al (av c)) Q Stop m ({l with aj:=a1,fuel:=f1}:ag.Lo At) ({γ with aj:=b1,a6:=γ.a6-1}:ag.aN ck) ⟨g1,w'.setCell ⟨c.wg,0,none⟩ (.int .u64 v),X.mine⟩):Then (Z:=al (av c)) Q Stop m l γ X w':=
 yn (d1:=l.deaf) d hs hrun ⟨⟨.cell ⟨c.wg,0,none⟩,true,true⟩,Ab,.inr (.inr (.inr (.inr ⟨U,c.wg,U,.inr KB⟩)))⟩ (R_ w' 0 none _) (nU _ _ _) (Y_ d.mt.1 d.mt.2 f b.1 b.2.1 b.2.2 hv) k AF (.inr b) AF n AF j
  (.inl ⟨U,g,U,.inr AF,NE⟩) (.inr λa e=>⟨e.1,f.trans e.2⟩) AF h
def Zc(d:dP (al (av c)) l γ X w'){a1:At}{b1:ck}{v:Int}(hs:stepG Q m X.g w'=.go g1 (w'.setCell ⟨c.wg,1,none⟩ (.int .u32 v)) (semEvents ⟨c.wg,1,none⟩))(hrun:g1.status=.running)(hv:v=(b1.gF:Int))(q:b1.aW=γ.aj.aW/\b1.et=γ.aj.et)(b:b1.taken=γ.aj.taken/\b1.came=γ.aj.came/\b1.done=γ.aj.done/\b1.least=γ.aj.least)(k:∀(aB:List At)(i:Nat),aB[i]?=some l.aj->cT c.N c.rows c.b3 γ.aj aB->cT c.N c.rows c.b3 b1 (aB.set i a1))(r:f1<l.fuel)(n:qR a1->l.mx=.idle)(j:l.tok=true->l.mx=.own)(g:jx a1=jx l.aj)(f:mayWake Q X.g=true\/γ.aj.gF≠0)(o:qR a1->m=false/\Stop m ({l with aj:=a1,fuel:=f1}:ag.Lo At) ⟨g1,w'.setCell ⟨c.wg,1,none⟩ (.int .u32 v),X.mine⟩)(h:bg (al (av c)) Q Stop m ({l with aj:=a1,fuel:=f1}:ag.Lo At) ({γ with aj:=b1,a6:=γ.a6-1}:ag.aN ck) ⟨g1,w'.setCell ⟨c.wg,1,none⟩ (.int .u32 v),X.mine⟩):Then (Z:=al (av c)) Q Stop m l γ X w':=
 yn (d1:=l.deaf) d hs hrun ⟨⟨.cell ⟨c.wg,1,none⟩,true,true⟩,by simp[semEvents],.inr (.inr (.inr (.inr ⟨U,c.wg,U,.inr KB⟩)))⟩ (R_ w' 1 none _) (nU _ _ _) (amE d.mt.1 d.mt.2 q b.1 b.2.1 b.2.2 hv) k AF (.inr b) AF AF n j
  (.inl ⟨U,g,by grind[deafBehind,semEvents],.inl trivial,.inr ⟨U,AF,Gc⟩,.inr ⟨U,AF,Gc⟩,.inl trivial,NE⟩)
  (f.imp id λe a p=>absurd p.2 e) o h
def Zd(b:dP (al (av c)) l γ X w'){mk:Mark}(a:mk=.disable\/mk=.enable){a1:At}(hs:stepG Q m X.g w'=.go g1 w' #[⟨.mark mk,false,true⟩])(hrun:g1.status=.running)(g:∀(aB:List At)(i:Nat),aB[i]?=some l.aj->cT c.N c.rows c.b3 γ.aj aB->cT c.N c.rows c.b3 γ.aj (aB.set i a1))(k:f1<l.fuel)(j:¬qR a1)(f:l.tok=true->l.mx=.own)(d:jx a1=jx l.aj)(hd:d1=deafBehind l.deaf #[⟨.mark mk,false,true⟩])(h:bg (al (av c)) Q Stop m ({l with aj:=a1,fuel:=f1,deaf:=d1}:ag.Lo At) ({γ with a6:=γ.a6-1}:ag.aN ck) ⟨g1,w',X.mine⟩):Then (Z:=al (av c)) Q Stop m l γ X w':=
 yn (b1:=γ.aj) (d1:=d1) b hs hrun ⟨⟨.mark mk,false,true⟩,Ab,a.elim (λe=>.inl JS) (λe=>.inr AF)⟩ (pW _ _ _) U b.mt g AX AF ⟨vac _,vac _⟩ AF AF f
  (.inl ⟨U,d,hd,.inl (by rcases a with rfl|rfl<;>exact trivial),NE⟩) AF AF h
def amO(a:dP (al (av c)) l γ X w'){p:uac}(hs:stepG Q m X.g w'=.go g1 w' #[⟨.mark (.releaseMerge ⟨c.wg,0,none⟩),false,true⟩])(hrun:g1.status=.running)(d:l.aj=.work .free p)(a4:oG c.N γ.aj)(f:f1<l.fuel)(hd:l.deaf=0)(b:l.tok=false)(h:bg (al (av c)) Q Stop m ({l with aj:=.work .rel p,fuel:=f1}:ag.Lo At) ({γ with a6:=γ.a6-1}:ag.aN ck) ⟨g1,w',X.mine⟩):Then (Z:=al (av c)) Q Stop m l γ X w':=
 yn (a1:=.work .rel p) (b1:=γ.aj) (d1:=l.deaf) a hs hrun ⟨⟨.mark (.releaseMerge ⟨c.wg,0,none⟩),false,true⟩,Ab,.inr AF⟩ (pW _ _ _) U a.mt (λaB i hi hg=>hg.release a4 AF) AX AF ⟨vac _,vac _⟩ AF LH AF
  (.inr (.inr (.inr ⟨U,hd,hd,U,U⟩))) AF (λe=>e.elim) h
end
end
end ft
namespace ti
open Conc
theorem Pj:(f71.name== "runtime.NumGoroutine")=false:=by kernel_rfl
theorem Sd:f71.body.isNone=true:=by kernel_rfl
theorem R4:Extern.findNext f71=none:=by kernel_rfl
theorem R1:Extern.find f71=some (λ_=>pure (.F)):=by kernel_rfl
theorem T4:(f104.name== "runtime.NumGoroutine")=false:=by kernel_rfl
theorem T5:f104.body.isNone=true:=by kernel_rfl
theorem T6:Extern.findNext f104=none:=by kernel_rfl
theorem T7:Extern.find f104=some (Extern.Atomic.update (Op.intArith .add) .u64 true):=by kernel_rfl
theorem T8:(f105.name== "runtime.NumGoroutine")=false:=by kernel_rfl
theorem T9:f105.body.isNone=true:=by kernel_rfl
theorem T_:Extern.find f105=some (Extern.Atomic.loadT (.int .u64)):=by kernel_rfl
theorem Ua:Extern.findNext f105=none:=by kernel_rfl
theorem ar9:(f106.name== "runtime.NumGoroutine")=false:=by kernel_rfl
theorem ar_:f106.body.isNone=true:=by kernel_rfl
theorem asa:Extern.find f106=some Extern.Atomic.storeT:=by kernel_rfl
theorem asb:Extern.findNext f106=none:=by kernel_rfl
theorem R0:(f111.name== "runtime.NumGoroutine")=false:=by kernel_rfl
theorem RZ:f111.body.isNone=true:=by kernel_rfl
theorem RY:Extern.findNext f111=none:=by kernel_rfl
theorem RX:Extern.find f111=some (Extern.Atomic.casT (.int .u64)):=by kernel_rfl
theorem RJ:(f87.name== "runtime.NumGoroutine")=false:=by kernel_rfl
theorem RE:f87.body.isNone=true:=by kernel_rfl
theorem RA:Extern.findNext f87=none:=by kernel_rfl
theorem Rx:Extern.find f87=some Extern.Sync.semacquire:=by kernel_rfl
theorem asc:(f80.name== "runtime.NumGoroutine")=false:=by kernel_rfl
theorem Rv:f80.body.isNone=true:=by kernel_rfl
theorem asd:Extern.findNext f80=none:=by kernel_rfl
theorem ase:Extern.find f80=some Extern.Sync.semrelease:=by kernel_rfl
theorem asf:(f76.name== "runtime.NumGoroutine")=false:=by kernel_rfl
theorem asg:f76.body.isNone=true:=by kernel_rfl
theorem ash:Extern.findNext f76=none:=by kernel_rfl
theorem asi:Extern.find f76=some (Extern.Race.marked .read):=by kernel_rfl
theorem asj:(f86.name== "runtime.NumGoroutine")=false:=by kernel_rfl
theorem asl:f86.body.isNone=true:=by kernel_rfl
theorem asm:Extern.findNext f86=none:=by kernel_rfl
theorem asn:Extern.find f86=some (Extern.Race.marked .write):=by kernel_rfl
theorem aso:(f48.name== "runtime.NumGoroutine")=false:=by kernel_rfl
theorem Rm:(f75.name== "runtime.NumGoroutine")=false:=by kernel_rfl
theorem Ub:(f77.name== "runtime.NumGoroutine")=false:=by kernel_rfl
theorem asp:(f78.name== "runtime.NumGoroutine")=false:=by kernel_rfl
theorem asq:(f85.name== "runtime.NumGoroutine")=false:=by kernel_rfl
open RowKit Conc.Lib ConcR.Gen ConcM az bo ag ft bR
def Uv{c:dy}(eR:c.most<=250){l:ag.Lo At}{γ:ag.aN ck}(h:ij (al (av c)) l γ):γ.aj.aW<=250:=by
 obtain⟨ls,i,hi,hg⟩:∃(ls:List (ag.Lo At))(i:Nat),ls[i]?=some l/\tW (av c) γ ls:=h;have f:γ.aj.aW=dc gA (ls.map (·.aj)):=hg.pT.aW;have e:ls.length<=c.most:=hg.len;have d:∀xs:List At,dc gA xs<=xs.length:=by
  intro xs;induction xs with
  |nil=>simp[dc]
  |cons a xs b=>
   have:gA a<=1:=by
    cases a with
    |main s=>cases s with
     |spawn k q=>cases q<;>simp[gA]
     | _=>simp[gA]
    |work s l=>cases s<;>simp[gA]
    | _=>simp[gA]
   grind[dc]
 grind
def G8{c:dy}{mine:c7}(h:∀b,c.K b\/mine b->b≠c.wg)(w:aL)(off:Nat)(sp)(v:Value):ak (al (av c)) mine w (w.setCell ⟨c.wg,off,sp⟩ v):=
 ⟨λb a=>nT w _ v (h b a),Bc,.refl _,U,U⟩
def Ou:∀n,n<256->∀t,t<2->bits .and .u64 ((n*4294967296+t:Nat):Int) 2147483648=0/\bits .and .u64 ((n*4294967296+t:Nat):Int) 2147483647=(t:Int):=by decide+kernel
def Uw:prog.underlying 170=some (.pointer 133):=by simp
theorem Ux:(prog.info? 133).map (λi=>decide (i.size=0))=some false:=by kernel_rfl
def Lw:prog.underlying 178=some (.pointer 131):=by simp
theorem z5:(prog.info? 131).map (λi=>decide (i.size=0))=some false:=by kernel_rfl
def Kv{m:Bool}{b:Frame}{a:Act}{kk:fC}{cs:dZ}{w:aL}{ops:du}{i:Nat}{rest:e8}{o:Oper}{src t:uaa}(d:prog.underlying src=some (.pointer t))(c:(prog.info? t).map (λi=>decide (i.size=0))=some false){x:uap}(j:ops[i]?=some o)(f:Region.wanted o (yielded ops a.tmps)=true)(hk:b.kind≠ .early)(h:o.op=.convert src 172 x){ad:Addr}{v:Value}(n:a.eval x=.pointer (some ad))(e:w.cell? ad=some v):
 stepG prog m (Conc.G (b.at a (.inRegion ops (i::rest)::kk)) cs) w=.go (Conc.G (b.at (a.put o.dst (.pointer (some ad))) (.inRegion ops rest::kk)) cs) w #[]:=by
 have k:=run_convert_to_unsafe (P:=prog) d N9 c e;have l:=λes=>events_convert_to_unsafe (P:=prog) d N9 c e es;have g:(execOp a.eval o).run prog w=.ok (.value (.pointer (some ad))) w:=by simp_all[execOp]
 have p:(execOp a.eval o).events prog w #[]=#[]:=by simp_all[execOp]
 rw[vay j f hk g];grind[listed,seen_none]
def z0{c:dy}{Q:cf}{Stop:Bool->ag.Lo At->aX->Prop}{m:Bool}{l:ag.Lo At}{γ:ag.aN ck}{X:aX}{w':aL}(g:dP (al (av c)) l γ X w'){g1:uai}{mk:Mark}(b:mk=.read ⟨c.wg,1,none⟩\/mk=.write ⟨c.wg,1,none⟩)(d:AL l.aj)(hs:stepG Q m X.g w'=.go g1 w' #[⟨.mark mk,false,true⟩])(hrun:g1.status=.running)(h:bg (al (av c)) Q Stop m l γ ⟨g1,w',X.mine⟩):Then (Z:=al (av c)) Q Stop m l γ X w':=by
 refine .quiet hs ⟨hrun,pW _ _ _,λ_ _ _=>U,⟨.inr ⟨d,⟨c.wg,1,none⟩,.inr (.inr Kj),b⟩,NE⟩,?_⟩ ?_
 .rintro(⟨e,a,f⟩|h)
  .simp only[List.mem_toArray,vbo,vdd,or_false]at a;subst a;rcases f with h|h|⟨_,h⟩|⟨_,h⟩|⟨h,_⟩
   .grind
   .grind
   .grind
   .grind
   grind
  grind
 grind[kC]
section
variable{c:dy}{Stop:Bool->ag.Lo At->aX->Prop}{m:Bool}{mine:c7}
variable{a2:Frame}{aF:Act}{aC:du}{aJ:Nat}{aO:e8}{aH:fC}{csZ:dZ}
def atF{f k:Nat}(eR:c.most<=250)(F:∀b,c.K b\/mine b->b≠c.wg){w0:aL}(D:∀w' H,ak (al (av c)) mine w0 w'->bg (al (av c)) prog Stop m ⟨.idle,false,0,f,.main (.spawn k true)⟩ H ⟨Conc.G (a2.at (aF.put ((aC[aJ]?).bind (·.dst)) (.tuple #[])) (.inRegion aC aO::aH)) csZ,w',mine⟩)(w:aL)(γ:ag.aN ck)(E:ak (al (av c)) mine w0 w):
 bg (al (av c)) prog Stop m ⟨.idle,false,0,f+3,.main (.spawn k false)⟩ γ ⟨Conc.G ((base 48).at ⟨#[.P c.wg 0,.I 1,.U,.U,.U,.U,.U,.U,.U,.U,.U,.U,.U,.U,.U,.U,.U,.U,.U,.U,.U,.U,.U,.U,.U,.U,.U,.U,.U,.U,.U,.U,.U,.U,.U,.U,.U,.U,.U,.U,.U,.U,.U,.U,.U,.U,.U,.U,.U,.U,.U,.U,.U,.U,.U,.U,.U,.U,.U,.U,.U,.U,.U,.U,.U,.U,.U,.U,.U,.U,.U,.U,.U,.U,.U,.U,.U,.U,.U,.U,.U,.U,.U,.U,.U,.U,.U,.U,.U,.U,.U,.U,.U,.U,.U,.U,.U,.U,.U,.U,.U,.U,.U,.U,.U,.U,.U,.U,.U,.U,.U,.U,.U,.U,.U,.U,.U],[]⟩ [.code (f48.body.getD .skip)]) (a2.at aF (.inRegion aC (aJ::aO)::aH)::csZ),w,mine⟩:=by
 have hF:=E;simp only[f48,vae];refine a9 (bD c) ?_;repeat w_go ak.trans
 refine dY U hF λg a p o j d n l hF=>?_;refine sV (d1:=1) (bD c) l KB (vbu .disable Ab U U Ap U func69 Dg Dh Di Dj) U K8 (sU (f1:=f+2) Jz _) Ab U ?_;clear l n o a;refine a9 (bD c) ?_;walk_nrm
 repeat w_go ak.trans
 u_defer ak.trans hF
 repeat w_go ak.trans
 refine dY U hF λg a p o j d n l hF=>?_;refine l6 (A:=av c) (stepG_entry_pure (.F) U U Ap U func71 Pj Sd R4 R1) U U (.refl _) U U ?_;clear l n o a;refine a9 (bD c) ?_;walk_nrm
 repeat w_go ak.trans
 u_call func75 Rm f75 ak.trans hF
 repeat w_go ak.trans
 refine dY U hF λg a p o j d n l hF=>?_;have L:=Uv eR l.sees;have z:d.aj.et=false:=by obtain⟨ls,dQ,hi,hg⟩:=l.sees;obtain⟨s,hs,C⟩:=hg.pT.main;have h0:=hg.pT.only dQ (.spawn k false) AF;subst h0;rw[vbc,hi]at hs;cases hs;exact C.1
 have hv:IntKind.wrap .u64 (((d.aj.aW*4294967296+d.aj.et.toNat:Nat):Int)+4294967296)=((({d.aj with aW:=d.aj.aW+1}:ck).aW*4294967296+({d.aj with aW:=d.aj.aW+1}:ck).et.toNat:Nat):Int):=by grind[IntKind.wrap_u64]
 refine MX l (a1:=.main (.spawn k true)) (b1:={d.aj with aW:=d.aj.aW+1}) (f1:=f+1) (vda U U Ap U func104 T4 T5 T6 .u64 T7 U U (vg l.mt.2.1) (AM l.mt.2.1 0 none)) U hv Ab U ⟨U,U,U,U⟩ (λxs i hi hg=>?_) Jz (.inl trivial) LH Ab U LH ?_
 .have h0:=hg.only i _ hi;subst h0;exact hg.add hi
 rw[hv];replace hF:=ak.trans hF (G8 (c:=c) (mine:=mine) F j 0 none (.int .u64 ((({d.aj with aW:=d.aj.aW+1}:ck).aW*4294967296+({d.aj with aW:=d.aj.aW+1}:ck).et.toNat:Nat):Int)));have u:((({d.aj with aW:=d.aj.aW+1}:ck).aW*4294967296+({d.aj with aW:=d.aj.aW+1}:ck).et.toNat:Nat):Int)=((d.aj.aW+1:Nat):Int)*4294967296:=by grind
 rw[u]at hF⊢;have t:bits .and .u64 (((d.aj.aW+1:Nat):Int)*4294967296) 2147483648=0:=by have:=(Ou (d.aj.aW+1) AX 0 AX).1;grind
 have r:bits .and .u64 (((d.aj.aW+1:Nat):Int)*4294967296) 2147483647=0:=by have:=(Ou (d.aj.aW+1) AX 0 AX).2;grind
 have v:(((d.aj.aW+1:Nat):Int)*4294967296) / 4294967296=((d.aj.aW+1:Nat):Int):=AX;have K:IntKind.wrap .i32 ((d.aj.aW+1:Nat):Int)=((d.aj.aW+1:Nat):Int):=IZ;have B:(0:Int)<((d.aj.aW+1:Nat):Int):=AX;clear hv z u;generalize((d.aj.aW+1:Nat):Int)=y at hF t v r K B⊢;have M:decide (y<0)=false:=AF;have I:decide (0<y)=true:=AF;generalize y*4294967296=x at hF t v r⊢;clear l n o a;refine a9 (bD c) ?_;walk_nrm
 repeat w_go ak.trans
 by_cases q:y=1;focus
  subst q;u_leave1 func75 ak.trans hF
  repeat w_go ak.trans
  refine dY U hF λg a p o j d n l hF=>?_;refine l6 (A:=av c) (Kv Lw z5 U U Ap U U (MV l.mt.2.1)) U U (.refl _) U U ?_;clear l n o a;refine a9 (bD c) ?_;walk_nrm
  repeat w_go ak.trans
  refine dY U hF λg a p o j d n l hF=>?_;refine z0 l KB trivial (vcw .read Ab U U Ap U func76 asf asg ash asi Bn) U ?_;clear l n o a;refine a9 (bD c) ?_;walk_nrm
 rotate_left
 focus
  have J:(y==1)=false:=AF;u_leave1 func75 ak.trans hF
 rotate_left
 all_goals
  repeat w_go ak.trans
  refine dY U hF λg a p o j d n l hF=>?_;refine sV (d1:=0) (bD c) l Kj (stepG_unwind_entry U func70 re rf rg rh (by simp[Extern.Race.none_];rfl) Ab Ab) U K8 (sU (f1:=f) Jz _) Ab U ?_;clear l n o a;refine a9 (bD c) ?_;u_leave0 func48 ak.trans hF
  exact vah (λg a=>⟨U,λp _=>D g p (ak.trans hF a)⟩)
