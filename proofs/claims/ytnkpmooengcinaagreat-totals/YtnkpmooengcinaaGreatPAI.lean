import Derived.Test.YtnkpmooengcinaaGreatPAD
set_option linter.all false
set_option maxRecDepth 100000
set_option maxHeartbeats 16000000
namespace Go.Proofs.YtnkpmooengcinaaGreat
open Go.Proofs.Tryz
namespace sw
open Conc
theorem Zp:(f64.name== "runtime.NumGoroutine")=false:=by kernel_rfl
theorem Zq:f64.body.isNone=true:=by kernel_rfl
theorem Zr:Extern.findNext f64=none:=by kernel_rfl
theorem Zs:Extern.find f64=some (λ_=>pure (.F)):=by kernel_rfl
theorem RU:(f97.name== "runtime.NumGoroutine")=false:=by kernel_rfl
theorem RV:f97.body.isNone=true:=by kernel_rfl
theorem RX:Extern.findNext f97=none:=by kernel_rfl
theorem RY:Extern.find f97=some (Extern.Atomic.update (Op.intArith .add) .u64 true):=by kernel_rfl
theorem RZ:(f98.name== "runtime.NumGoroutine")=false:=by kernel_rfl
theorem R0:f98.body.isNone=true:=by kernel_rfl
theorem R1:Extern.find f98=some (Extern.Atomic.loadT (.int .u64)):=by kernel_rfl
theorem R2:Extern.findNext f98=none:=by kernel_rfl
theorem anc:(f99.name== "runtime.NumGoroutine")=false:=by kernel_rfl
theorem ane:f99.body.isNone=true:=by kernel_rfl
theorem anf:Extern.find f99=some Extern.Atomic.storeT:=by kernel_rfl
theorem ang:Extern.findNext f99=none:=by kernel_rfl
theorem Zt:(f104.name== "runtime.NumGoroutine")=false:=by kernel_rfl
theorem Zu:f104.body.isNone=true:=by kernel_rfl
theorem Zv:Extern.findNext f104=none:=by kernel_rfl
theorem Zw:Extern.find f104=some (Extern.Atomic.casT (.int .u64)):=by kernel_rfl
theorem Zx:(f80.name== "runtime.NumGoroutine")=false:=by kernel_rfl
theorem Zy:f80.body.isNone=true:=by kernel_rfl
theorem Zz:Extern.findNext f80=none:=by kernel_rfl
theorem ZA:Extern.find f80=some Extern.Sync.semacquire:=by kernel_rfl
theorem anh:(f73.name== "runtime.NumGoroutine")=false:=by kernel_rfl
theorem ZB:f73.body.isNone=true:=by kernel_rfl
theorem ani:Extern.findNext f73=none:=by kernel_rfl
theorem anj:Extern.find f73=some Extern.Sync.semrelease:=by kernel_rfl
theorem ank:(f69.name== "runtime.NumGoroutine")=false:=by kernel_rfl
theorem anl:f69.body.isNone=true:=by kernel_rfl
theorem anm:Extern.findNext f69=none:=by kernel_rfl
theorem ann:Extern.find f69=some (Extern.Race.marked .read):=by kernel_rfl
theorem ano:(f79.name== "runtime.NumGoroutine")=false:=by kernel_rfl
theorem anp:f79.body.isNone=true:=by kernel_rfl
theorem anq:Extern.findNext f79=none:=by kernel_rfl
theorem anr:Extern.find f79=some (Extern.Race.marked .write):=by kernel_rfl
theorem ans:(f41.name== "runtime.NumGoroutine")=false:=by kernel_rfl
theorem ZC:(f68.name== "runtime.NumGoroutine")=false:=by kernel_rfl
theorem R3:(f70.name== "runtime.NumGoroutine")=false:=by kernel_rfl
theorem ant:(f71.name== "runtime.NumGoroutine")=false:=by kernel_rfl
theorem anu:(f78.name== "runtime.NumGoroutine")=false:=by kernel_rfl
open RowKit Conc.Lib ConcR.Gen ConcM av bn ae ej bM
def Sl{c:db}(eR:c.most<=250){l:ae.Lo At}{γ:ae.aM cj}(h:g8 (ak (ar c)) l γ):γ.aj.aX<=250:=by
 obtain⟨ls,i,hi,hg⟩:∃(ls:List (ae.Lo At))(i:Nat),ls[i]?=some l/\r4 (ar c) γ ls:=h;have f:γ.aj.aX=di gl (ls.map (·.aj)):=hg.oB.aX;have e:ls.length<=c.most:=hg.len;have d:∀xs:List At,di gl xs<=xs.length:=by
  intro xs;induction xs with
  |nil=>simp[di]
  |cons a xs b=>
   have:gl a<=1:=by
    cases a with
    |main s=>cases s with
     |spawn k q=>cases q<;>simp[gl]
     | _=>simp[gl]
    |work s l=>cases s<;>simp[gl]
    | _=>simp[gl]
   grind[di]
 grind
def F4{c:db}{mine:c5}(h:∀b,c.K b\/mine b->b≠c.wg)(w:aH)(off:Nat)(sp)(v:Value):ai (ak (ar c)) mine w (w.setCell ⟨c.wg,off,sp⟩ v):=
 ⟨λb a=>k5 w _ v (h b a),BB,.refl _,U,U⟩
def MP:∀n,n<256->∀t,t<2->bits .and .u64 ((n*4294967296+t:Nat):Int) 2147483648=0/\bits .and .u64 ((n*4294967296+t:Nat):Int) 2147483647=(t:Int):=by decide+kernel
def Sm:prog.underlying 161=some (.pointer 126):=by simp
theorem Sn:(prog.info? 126).map (λi=>decide (i.size=0))=some false:=by kernel_rfl
def Z2:prog.underlying 169=some (.pointer 124):=by simp
theorem Z3:(prog.info? 124).map (λi=>decide (i.size=0))=some false:=by kernel_rfl
def I9{m:Bool}{b:Frame}{a:Act}{kk:uab}{cs:fA}{w:aH}{ops:eQ}{i:Nat}{rest:uag}{o:Oper}{src t:uaa}(d:prog.underlying src=some (.pointer t))(c:(prog.info? t).map (λi=>decide (i.size=0))=some false){x:uaq}(j:ops[i]?=some o)(f:Region.wanted o (yielded ops a.tmps)=true)(hk:b.kind≠ .early)(h:o.op=.convert src 163 x){ad:Addr}{v:Value}(n:a.eval x=.pointer (some ad))(e:w.cell? ad=some v):
 stepG prog m (Conc.G (b.at a (.inRegion ops (i::rest)::kk)) cs) w=.go (Conc.G (b.at (a.put o.dst (.pointer (some ad))) (.inRegion ops rest::kk)) cs) w #[]:=by
 have k:=run_convert_to_unsafe (P:=prog) d Mv c e;have l:=λes=>events_convert_to_unsafe (P:=prog) d Mv c e es;have g:(execOp a.eval o).run prog w=.ok (.value (.pointer (some ad))) w:=by simp_all[execOp]
 have p:(execOp a.eval o).events prog w #[]=#[]:=by simp_all[execOp]
 rw[vau j f hk g];grind[listed,seen_none]
def Z4{c:db}{Q:ck}{Stop:Bool->ae.Lo At->aV->Prop}{m:Bool}{l:ae.Lo At}{γ:ae.aM cj}{X:aV}{w':aH}(g:dI (ak (ar c)) l γ X w'){g1:uai}{mk:Mark}(b:mk=.read ⟨c.wg,1,none⟩\/mk=.write ⟨c.wg,1,none⟩)(d:zY l.aj)(hs:stepG Q m X.g w'=.go g1 w' #[⟨.mark mk,false,true⟩])(hrun:g1.status=.running)(h:bd (ak (ar c)) Q Stop m l γ ⟨g1,w',X.mine⟩):Then (Z:=ak (ar c)) Q Stop m l γ X w':=by
 refine .quiet hs ⟨hrun,po _ _ _,λ_ _ _=>U,⟨.inr ⟨d,⟨c.wg,1,none⟩,.inr (.inr Io),b⟩,PA⟩,?_⟩ ?_
 .rintro(⟨e,a,f⟩|h)
  .simp only[List.mem_toArray,vbc,vbr,vds]at a;subst a;rcases f with h|h|⟨_,h⟩|⟨_,h⟩|⟨h,_⟩
   .grind
   .grind
   .grind
   .grind
   grind
  grind
 grind[j9]
section
variable{c:db}{Stop:Bool->ae.Lo At->aV->Prop}{m:Bool}{mine:c5}
variable{aY:Frame}{aF:Act}{az:eQ}{aI:Nat}{aK:uag}{aG:uab}{csZ:fA}
def aoz{f k:Nat}(eR:c.most<=250)(F:∀b,c.K b\/mine b->b≠c.wg){w0:aH}(D:∀w' H,ai (ak (ar c)) mine w0 w'->bd (ak (ar c)) prog Stop m ⟨.idle,false,0,f,.main (.spawn k true)⟩ H ⟨Conc.G (aY.at (aF.put ((az[aI]?).bind (·.dst)) (.tuple #[])) (.inRegion az aK::aG)) csZ,w',mine⟩)(w:aH)(γ:ae.aM cj)(E:ai (ak (ar c)) mine w0 w):
 bd (ak (ar c)) prog Stop m ⟨.idle,false,0,f+3,.main (.spawn k false)⟩ γ ⟨Conc.G ((base 41).at ⟨#[.P c.wg 0,.I 1,.U,.U,.U,.U,.U,.U,.U,.U,.U,.U,.U,.U,.U,.U,.U,.U,.U,.U,.U,.U,.U,.U,.U,.U,.U,.U,.U,.U,.U,.U,.U,.U,.U,.U,.U,.U,.U,.U,.U,.U,.U,.U,.U,.U,.U,.U,.U,.U,.U,.U,.U,.U,.U,.U,.U,.U,.U,.U,.U,.U,.U,.U,.U,.U,.U,.U,.U,.U,.U,.U,.U,.U,.U,.U,.U,.U,.U,.U,.U,.U,.U,.U,.U,.U,.U,.U,.U,.U,.U,.U,.U,.U,.U,.U,.U,.U,.U,.U,.U,.U,.U,.U,.U,.U,.U,.U,.U,.U,.U,.U,.U,.U,.U,.U,.U],[]⟩ [.code (f41.body.getD .skip)]) (aY.at aF (.inRegion az (aI::aK)::aG)::csZ),w,mine⟩:=by
 have hF:=E;simp only[f41,vah];refine a8 (bu c) ?_;repeat w_go ai.trans
 refine dO U hF λg a p n j d o l hF=>?_;refine r5 (d1:=1) (bu c) l Ij (vbs .disable Ab U U Ad U func62 Ce Cf Cg Ch) U I3 (rZ (f1:=f+2) IY _) Ab U ?_;clear l o n a;refine a8 (bu c) ?_;walk_nrm
 repeat w_go ai.trans
 u_defer ai.trans hF
 repeat w_go ai.trans
 refine dO U hF λg a p n j d o l hF=>?_;refine lv (A:=ar c) (stepG_entry_pure (.F) U U Ad U func64 Zp Zq Zr Zs) U U (.refl _) U U ?_;clear l o n a;refine a8 (bu c) ?_;walk_nrm
 repeat w_go ai.trans
 u_call func68 ZC f68 ai.trans hF
 repeat w_go ai.trans
 refine dO U hF λg a p n j d o l hF=>?_;have K:=Sl eR l.sees;have z:d.aj.ea=false:=by obtain⟨ls,j8,hi,hg⟩:=l.sees;obtain⟨s,hs,C⟩:=hg.oB.main;have h0:=hg.oB.only j8 (.spawn k false) AN;subst h0;rw[vbg,hi]at hs;cases hs;exact C.1
 have hv:IntKind.wrap .u64 (((d.aj.aX*4294967296+d.aj.ea.toNat:Nat):Int)+4294967296)=((({d.aj with aX:=d.aj.aX+1}:cj).aX*4294967296+({d.aj with aX:=d.aj.aX+1}:cj).ea.toNat:Nat):Int):=by grind[IntKind.wrap_u64]
 refine LH l (a1:=.main (.spawn k true)) (b1:={d.aj with aX:=d.aj.aX+1}) (f1:=f+1) (vco U U Ad U func97 RU RV RX .u64 RY U U (uA l.mt.2.1) (zZ l.mt.2.1 0 none)) U hv Ab U ⟨U,U,U,U⟩ (λxs i hi hg=>?_) IY (.inl trivial) I8 Ab U I8 ?_
 .have h0:=hg.only i _ hi;subst h0;exact hg.add hi
 rw[hv];replace hF:=ai.trans hF (F4 (c:=c) (mine:=mine) F j 0 none (.int .u64 ((({d.aj with aX:=d.aj.aX+1}:cj).aX*4294967296+({d.aj with aX:=d.aj.aX+1}:cj).ea.toNat:Nat):Int)));have u:((({d.aj with aX:=d.aj.aX+1}:cj).aX*4294967296+({d.aj with aX:=d.aj.aX+1}:cj).ea.toNat:Nat):Int)=((d.aj.aX+1:Nat):Int)*4294967296:=by grind
 rw[u]at hF⊢;have t:bits .and .u64 (((d.aj.aX+1:Nat):Int)*4294967296) 2147483648=0:=by have:=(MP (d.aj.aX+1) AY 0 AY).1;grind
 have r:bits .and .u64 (((d.aj.aX+1:Nat):Int)*4294967296) 2147483647=0:=by have:=(MP (d.aj.aX+1) AY 0 AY).2;grind
 have v:(((d.aj.aX+1:Nat):Int)*4294967296) / 4294967296=((d.aj.aX+1:Nat):Int):=AY;have J:IntKind.wrap .i32 ((d.aj.aX+1:Nat):Int)=((d.aj.aX+1:Nat):Int):=HG;have B:(0:Int)<((d.aj.aX+1:Nat):Int):=AY;clear hv z u;generalize((d.aj.aX+1:Nat):Int)=y at hF t v r J B⊢;have M:decide (y<0)=false:=AN;have L:decide (0<y)=true:=AN;generalize y*4294967296=x at hF t v r⊢;clear l o n a;refine a8 (bu c) ?_;walk_nrm
 repeat w_go ai.trans
 by_cases q:y=1;focus
  subst q;u_leave1 func68 ai.trans hF
  repeat w_go ai.trans
  refine dO U hF λg a p n j d o l hF=>?_;refine lv (A:=ar c) (I9 Z2 Z3 U U Ad U U (LF l.mt.2.1)) U U (.refl _) U U ?_;clear l o n a;refine a8 (bu c) ?_;walk_nrm
  repeat w_go ai.trans
  refine dO U hF λg a p n j d o l hF=>?_;refine Z4 l Ij trivial (vck .read Ab U U Ad U func69 ank anl anm ann BF) U ?_;clear l o n a;refine a8 (bu c) ?_;walk_nrm
 rotate_left
 focus
  have I:(y==1)=false:=AN;u_leave1 func68 ai.trans hF
 rotate_left
 all_goals
  repeat w_go ai.trans
  refine dO U hF λg a p n j d o l hF=>?_;refine r5 (d1:=0) (bu c) l Io (stepG_unwind_entry U func63 qv qw qx qy (by simp[Extern.Race.none_];rfl) Ab Ab) U I3 (rZ (f1:=f) IY _) Ab U ?_;clear l o n a;refine a8 (bu c) ?_;u_leave0 func41 ai.trans hF
  exact vaf (λg a=>⟨U,λp _=>D g p (ai.trans hF a)⟩)
