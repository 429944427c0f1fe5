import Derived.Test.YtnomloiacicoaaaGreatPAD
set_option linter.all false
set_option maxRecDepth 100000
set_option maxHeartbeats 16000000
namespace Go.Proofs.YtnomloiacicoaaaGreat
open Tryz
namespace tS
open Conc RowKit Conc.Lib ConcR.Gen ConcM av bj ah eK bQ
def Vz{c:dU}(fl:c.most<=250){l:ah.Lo At}{γ:ah.aQ cO}(h:ib (ao (ay c)) l γ):γ.am.aS<=250:=by
 obtain⟨ls,i,hi,hg⟩:∃(ls:List (ah.Lo At))(i:Nat),ls[i]?=some l/\tt (ay c) γ ls:=h;have h1:γ.am.aS=dI gI (ls.map (·.am)):=hg.pC.aS;have h2:ls.length<=c.most:=hg.len;have h3:∀xs:List At,dI gI xs<=xs.length:=by
  intro xs;induction xs with
  |nil=>simp[dI]
  |cons a xs b=>
   have:gI a<=1:=by
    cases a with
    |main s=>cases s with
     |spawn k q=>cases q<;>simp[gI]
     | _=>simp[gI]
    |work s l=>cases s<;>simp[gI]
    | _=>simp[gI]
   grind[dI]
 grind
def HO{c mine}(h:∀b,c.K b\/mine b->b≠c.wg)w off(sp)v:ai (ao (ay c)) mine w (w.setCell ⟨c.wg,off,sp⟩ v):=
 ⟨λb a=>mN w _ v (h b a),BB,.refl _,Y,Y⟩
def OV:∀n,n<256->∀t,t<2->bits .and .u64 ((n*4294967296+t:Nat):Int) 2147483648=0/\bits .and .u64 ((n*4294967296+t:Nat):Int) 2147483647=(t:Int):=by decide+kernel
def VA:prog.underlying 171=some (.pointer 136):=by simp
theorem VB:(prog.info? 136).map (λi=>decide (i.size=0))=some false:=by kernel_rfl
def Wk:prog.underlying 179=some (.pointer 134):=by simp
theorem Wf:(prog.info? 134).map (λi=>decide (i.size=0))=some false:=by kernel_rfl
def KR{m:Bool}{b:Frame}{a:Act}{kk:uab}{cs:hH}{w:aR}{ops:fF}{i:Nat}{rest:uac}{o:Oper}{src t:uaa}(d:prog.underlying src=some (.pointer t))(c:(prog.info? t).map (λi=>decide (i.size=0))=some false){x:uam}(j:ops[i]?=some o)(f:vfe o ops a.tmps=true)(hk:b.kind≠ .early)(h:o.op=.convert src 173 x){ad:Addr}{v:Value}(n:a.eval x=.pointer (some ad))(e:w.cell? ad=some v):
 stepG prog m (Conc.G (b.at a (.inRegion ops (i::rest)::kk)) cs) w=.go (Conc.G (b.at (a.put o.dst (.pointer (some ad))) (.inRegion ops rest::kk)) cs) w #[]:=by
 have k:=run_convert_to_unsafe (P:=prog) d OD c e;have l:=λes=>events_convert_to_unsafe (P:=prog) d OD c e es;have g:(execOp a.eval o).run prog w=.ok (.value (.pointer (some ad))) w:=by simp_all[execOp]
 have p:(execOp a.eval o).events prog w #[]=#[]:=by simp_all[execOp]
 rw[vbd j f hk g];grind[listed,seen_none]
def V1{c:dU}{Q:cE}{Stop:Bool->ah.Lo At->a0->Prop}{m:Bool}{l:ah.Lo At}{γ:ah.aQ cO}{X:a0}{w':aR}(g:ep (ao (ay c)) l γ X w'){g1:uaj}{mk:Mark}(b:mk=.read ⟨c.wg,1,none⟩\/mk=.write ⟨c.wg,1,none⟩)(d:Ba l.am)(hs:stepG Q m X.g w'=.go g1 w' #[⟨.mark mk,false,true⟩])(hrun:g1.status=.running)(h:bc (ao (ay c)) Q Stop m l γ ⟨g1,w',X.mine⟩):Then (Z:=ao (ay c)) Q Stop m l γ X w':=by
 refine .quiet hs ⟨hrun,rz _ _ _,λ_ _ _=>Y,⟨.inr ⟨d,⟨c.wg,1,none⟩,.inr (.inr Jz),b⟩,NE⟩,?_⟩ ?_
 .rintro(⟨e,a,f⟩|h)
  .simp only[List.mem_toArray,vaw,vbp,vdf]at a;subst a;rcases f with h|h|⟨_,h⟩|⟨_,h⟩|⟨h,_⟩
   .grind
   .grind
   .grind
   .grind
   grind
  grind
 grind[lq]
section
variable{c:dU}{Stop:Bool->ah.Lo At->a0->Prop}{m:Bool}{mine:dL}
variable{a2:Frame}{aI:Act}{aC:fF}{aL:Nat}{aO:uac}{aK:uab}{csZ:hH}
def atA{f k:Nat}(fl:c.most<=250)(E:∀b,c.K b\/mine b->b≠c.wg){w0:aR}(C:∀w' F,ai (ao (ay c)) mine w0 w'->bc (ao (ay c)) prog Stop m ⟨.idle,false,0,f,.main (.spawn k true)⟩ F ⟨Conc.G (a2.at (aI.put ((aC[aL]?).bind (·.dst)) (.tuple #[])) (.inRegion aC aO::aK)) csZ,w',mine⟩)(w:aR)(γ:ah.aQ cO)(D:ai (ao (ay c)) mine w0 w):
 bc (ao (ay c)) prog Stop m ⟨.idle,false,0,f+3,.main (.spawn k false)⟩ γ ⟨Conc.G ((base 48).at ⟨#[.P c.wg 0,.I 1,.U,.U,.U,.U,.U,.U,.U,.U,.U,.U,.U,.U,.U,.U,.U,.U,.U,.U,.U,.U,.U,.U,.U,.U,.U,.U,.U,.U,.U,.U,.U,.U,.U,.U,.U,.U,.U,.U,.U,.U,.U,.U,.U,.U,.U,.U,.U,.U,.U,.U,.U,.U,.U,.U,.U,.U,.U,.U,.U,.U,.U,.U,.U,.U,.U,.U,.U,.U,.U,.U,.U,.U,.U,.U,.U,.U,.U,.U,.U,.U,.U,.U,.U,.U,.U,.U,.U,.U,.U,.U,.U,.U,.U,.U,.U,.U,.U,.U,.U,.U,.U,.U,.U,.U,.U,.U,.U,.U,.U,.U,.U,.U,.U,.U,.U],[]⟩ [.code (f48.body.getD .skip)]) (a2.at aI (.inRegion aC (aL::aO)::aK)::csZ),w,mine⟩:=by
 have hF:=D;simp only[f48,vaf];refine bf (bW c) ?_;repeat w_go ai.trans
 refine ei Y hF λg a p o j d n l hF=>?_;refine tu (d1:=1) (bW c) l Jv (vbz .disable AS Y Y An Y func69 DT DU DV DW) Y Ke (tr (f1:=f+2) Jo _) AS Y ?_;clear l n o a;refine bf (bW c) ?_;walk_nrm
 repeat w_go ai.trans
 u_defer ai.trans hF
 repeat w_go ai.trans
 refine ei Y hF λg a p o j d n l hF=>?_;refine mo (A:=ay c) (stepG_entry_pure (.F) Y Y An Y func71 ac2 ac3 ac4 ac5) Y Y (.refl _) Y Y ?_;clear l n o a;refine bf (bW c) ?_;walk_nrm
 repeat w_go ai.trans
 u_call func75 Up f75 ai.trans hF
 repeat w_go ai.trans
 refine ei Y hF λg a p o j d n l hF=>?_;have K:=Vz fl l.sees;have v:d.am.eF=false:=by obtain⟨ls,cT,hi,hg⟩:=l.sees;obtain⟨s,hs,B⟩:=hg.pC.main;have h0:=hg.pC.only cT (.spawn k false) AA;subst h0;rw[vbf,hi]at hs;cases hs;exact B.1
 have hv:IntKind.wrap .u64 (((d.am.aS*4294967296+d.am.eF.toNat:Nat):Int)+4294967296)=((({d.am with aS:=d.am.aS+1}:cO).aS*4294967296+({d.am with aS:=d.am.aS+1}:cO).eF.toNat:Nat):Int):=by grind[IntKind.wrap_u64]
 refine NQ l (a1:=.main (.spawn k true)) (b1:={d.am with aS:=d.am.aS+1}) (f1:=f+1) (vcu Y Y An Y func104 Vd Ve Vf .u64 Vg Y Y (vL l.mt.2.1) (Bb l.mt.2.1 0 none)) Y hv AS Y ⟨Y,Y,Y,Y⟩ (λxs i hi hg=>?_) Jo (.inl trivial) KQ AS Y KQ ?_
 .have h0:=hg.only i _ hi;subst h0;exact hg.add hi
 rw[hv];replace hF:=ai.trans hF (HO (c:=c) (mine:=mine) E j 0 none (.int .u64 ((({d.am with aS:=d.am.aS+1}:cO).aS*4294967296+({d.am with aS:=d.am.aS+1}:cO).eF.toNat:Nat):Int)));have e0:((({d.am with aS:=d.am.aS+1}:cO).aS*4294967296+({d.am with aS:=d.am.aS+1}:cO).eF.toNat:Nat):Int)=((d.am.aS+1:Nat):Int)*4294967296:=by grind
 rw[e0]at hF⊢;have t:bits .and .u64 (((d.am.aS+1:Nat):Int)*4294967296) 2147483648=0:=by have:=(OV (d.am.aS+1) AQ 0 AQ).1;grind
 have r:bits .and .u64 (((d.am.aS+1:Nat):Int)*4294967296) 2147483647=0:=by have:=(OV (d.am.aS+1) AQ 0 AQ).2;grind
 have u:(((d.am.aS+1:Nat):Int)*4294967296) / 4294967296=((d.am.aS+1:Nat):Int):=AQ;have J:IntKind.wrap .i32 ((d.am.aS+1:Nat):Int)=((d.am.aS+1:Nat):Int):=Ia;have z:(0:Int)<((d.am.aS+1:Nat):Int):=AQ;clear hv v e0;generalize((d.am.aS+1:Nat):Int)=y at hF t u r J z⊢;have L:decide (y<0)=false:=AA;have H:decide (0<y)=true:=AA;generalize y*4294967296=x at hF t u r⊢;clear l n o a;refine bf (bW c) ?_;walk_nrm
 repeat w_go ai.trans
 by_cases q:y=1;focus
  subst q;u_leave1 func75 ai.trans hF
  repeat w_go ai.trans
  refine ei Y hF λg a p o j d n l hF=>?_;refine mo (A:=ay c) (KR Wk Wf Y Y An Y Y (NO l.mt.2.1)) Y Y (.refl _) Y Y ?_;clear l n o a;refine bf (bW c) ?_;walk_nrm
  repeat w_go ai.trans
  refine ei Y hF λg a p o j d n l hF=>?_;refine V1 l Jv trivial (vcq .read AS Y Y An Y func76 asn aso asp asq Bk) Y ?_;clear l n o a;refine bf (bW c) ?_;walk_nrm
 rotate_left
 focus
  have I:(y==1)=false:=AA;u_leave1 func75 ai.trans hF
 rotate_left
 all_goals
  repeat w_go ai.trans
  refine ei Y hF λg a p o j d n l hF=>?_;refine tu (d1:=0) (bW c) l Jz (stepG_unwind_entry Y func70 rJ rK rL rM (by simp[Extern.Race.none_];rfl) AS AS) Y Ke (tr (f1:=f) Jo _) AS Y ?_;clear l n o a;refine bf (bW c) ?_;u_leave0 func48 ai.trans hF
  exact vaj (λg a=>⟨Y,λp _=>C g p (ai.trans hF a)⟩)
