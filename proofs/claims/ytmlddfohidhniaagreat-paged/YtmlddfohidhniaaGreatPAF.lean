import Derived.Test.YtmlddfohidhniaaGreatPAD
set_option linter.all false
set_option maxRecDepth 100000
set_option maxHeartbeats 16000000
namespace Go.Proofs.YtmlddfohidhniaaGreat
open Go.Proofs.Tryz
namespace sM
open Conc RowKit Conc.Lib ConcR.Gen ConcM ax bp ag fq bM
def Ud{c:dD}(eK:c.most<=1000000){l:ag.Lo At}{γ:ag.aO co}(h:hh (am (az c)) l γ):γ.al.aR<=1000000:=by
 obtain⟨ls,i,hi,hg⟩:∃(ls:List (ag.Lo At))(i:Nat),ls[i]?=some l/\tA (az c) γ ls:=h;have f:γ.al.aR=c3 gh (ls.map (·.al)):=hg.pE.aR;have e:ls.length<=c.most:=hg.len;have d:∀xs:List At,c3 gh xs<=xs.length:=by
  intro xs;induction xs with
  |nil=>simp[c3]
  |cons a xs b=>
   have:gh a<=1:=by
    cases a with
    |main s=>cases s with
     |spawn k q=>cases q<;>simp[gh]
     | _=>simp[gh]
    |work s l=>cases s<;>simp[gh]
    | _=>simp[gh]
   grind[c3]
 grind
def Gw{c:dD}{mine:dh}(h:∀b,c.K b\/mine b->b≠c.wg)(w:aS)(off:Nat)(sp)(v:Value):ah (am (az c)) mine w (w.setCell ⟨c.wg,off,sp⟩ v):=
 ⟨λb a=>nt w _ v (h b a),BK,.refl _,Y,Y⟩
def N3:∀n,n<1048576->∀t,t<2->bits .and .u64 ((n*4294967296+t:Nat):Int) 2147483648=0/\bits .and .u64 ((n*4294967296+t:Nat):Int) 2147483647=(t:Int):=by
 intro n hn t ht;have key:∀c:Nat,c<4294967296->bits .and .u64 ((n*4294967296+t:Nat):Int) (c:Int)=((t&&& c:Nat):Int):=λc hc=>by
  have g:((n*4294967296+t)&&& c)<=c:=Nat.and_le_right;have d:=Nat.and_mod_two_pow (a:=n*4294967296+t) (b:=c) (n:=32);have f:(n*4294967296+t) % 2^32=t:=AP;rw[f,vbw (show c<2^32 from hc),vbw (show((n*4294967296+t)&&& c)<2^32 by omega)]at d;rw[<-d];have e:(BitVec.ofInt 64 ((n*4294967296+t:Nat):Int)&&& BitVec.ofInt 64 (c:Int)).toNat=(n*4294967296+t)&&& c:=by rw[BitVec.toNat_and,vcn,vcn,vda,vda,vbw AP,vbw AP]
  show IntKind.wrap .u64 (((BitVec.ofInt 64 ((n*4294967296+t:Nat):Int)&&& BitVec.ofInt 64 (c:Int)).toNat:Nat):Int)=_;rw[e];simp[IntKind.wrap,IntKind.bits,IntKind.signed];omega
 obtain rfl|rfl:t=0\/t=1:=AP
 .exact⟨key 2147483648 AX,key 2147483647 AX⟩
 .exact⟨key 2147483648 AX,key 2147483647 AX⟩
def Ue:prog.underlying 172=some (.pointer 135):=by simp
theorem Uf:(prog.info? 135).map (λi=>decide (i.size=0))=some false:=by kernel_rfl
def y6:prog.underlying 180=some (.pointer 133):=by simp
theorem yn:(prog.info? 133).map (λi=>decide (i.size=0))=some false:=by kernel_rfl
def J4{m:Bool}{b:Frame}{a:Act}{kk:il}{cs:fV}{w:aS}{ops:eY}{i:Nat}{rest:uaa}{o:Oper}{src t:g4}(d:prog.underlying src=some (.pointer t))(c:(prog.info? t).map (λi=>decide (i.size=0))=some false){x:uar}(h:ops[i]?=some o)(e:Region.wanted o (yielded ops a.tmps)=true)(hk:b.kind≠ .early)(g:o.op=.convert src 174 x){ad:Addr}{v:Value}(l:a.eval x=.pointer (some ad))(hc:w.cell? ad=some v):
 stepG prog m (Conc.G (b.at a (.inRegion ops (i::rest)::kk)) cs) w=.go (Conc.G (b.at (a.put o.dst (.pointer (some ad))) (.inRegion ops rest::kk)) cs) w #[]:=by
 have j:=run_convert_to_unsafe (P:=prog) d NL c hc;have k:=λes=>events_convert_to_unsafe (P:=prog) d NL c hc es;have f:(execOp a.eval o).run prog w=.ok (.value (.pointer (some ad))) w:=by simp_all[execOp]
 have n:(execOp a.eval o).events prog w #[]=#[]:=by simp_all[execOp]
 rw[vbc h e hk f];grind[listed,seen_none]
variable{Q:b4}{w':aS}{g1:uah}
def yk{c:dD}{Stop:Bool->ag.Lo At->aV->Prop}{m:Bool}{l:ag.Lo At}{γ:ag.aO co}{X:aV}(g:dQ (am (az c)) l γ X w'){mk:Mark}(b:mk=.read ⟨c.wg,1,none⟩\/mk=.write ⟨c.wg,1,none⟩)(d:z1 l.al)(hs:stepG Q m X.g w'=.go g1 w' #[⟨.mark mk,false,true⟩])(hrun:g1.status=.running)(h:bg (am (az c)) Q Stop m l γ ⟨g1,w',X.mine⟩):Then (Z:=am (az c)) Q Stop m l γ X w':=by
 refine .quiet hs ⟨hrun,qj _ _ _,λ_ _ _=>Y,⟨.inr ⟨d,⟨c.wg,1,none⟩,.inr (.inr KK),b⟩,PJ⟩,?_⟩ ?_
 .rintro(⟨e,a,f⟩|h)
  .simp only[List.mem_toArray,vbn,vcy,or_false]at a;subst a;rcases f with h|h|⟨_,h⟩|⟨_,h⟩|⟨h,_⟩
   .grind
   .grind
   .grind
   .grind
   grind
  grind
 grind[kR]
variable{w0:aS}
section
variable{c:dD}{Stop:Bool->ag.Lo At->aV->Prop}{m:Bool}{mine:dh}
variable{a4:Frame}{aF:Act}{aC:eY}{aK:Nat}{aM:uaa}{aH:il}{csZ:fV}
def asv{f k:Nat}(eK:c.most<=1000000)(F:∀b,c.K b\/mine b->b≠c.wg)(D:∀w' H,ah (am (az c)) mine w0 w'->bg (am (az c)) prog Stop m ⟨.idle,false,0,f,.main (.spawn k true)⟩ H ⟨Conc.G (a4.at (aF.put ((aC[aK]?).bind (·.dst)) (.tuple #[])) (.inRegion aC aM::aH)) csZ,w',mine⟩)(w:aS)(γ:ag.aO co)(E:ah (am (az c)) mine w0 w):
 bg (am (az c)) prog Stop m ⟨.idle,false,0,f+3,.main (.spawn k false)⟩ γ ⟨Conc.G ((base 50).at ⟨#[.P c.wg 0,.I 1,.U,.U,.U,.U,.U,.U,.U,.U,.U,.U,.U,.U,.U,.U,.U,.U,.U,.U,.U,.U,.U,.U,.U,.U,.U,.U,.U,.U,.U,.U,.U,.U,.U,.U,.U,.U,.U,.U,.U,.U,.U,.U,.U,.U,.U,.U,.U,.U,.U,.U,.U,.U,.U,.U,.U,.U,.U,.U,.U,.U,.U,.U,.U,.U,.U,.U,.U,.U,.U,.U,.U,.U,.U,.U,.U,.U,.U,.U,.U,.U,.U,.U,.U,.U,.U,.U,.U,.U,.U,.U,.U,.U,.U,.U,.U,.U,.U,.U,.U,.U,.U,.U,.U,.U,.U,.U,.U,.U,.U,.U,.U,.U,.U,.U,.U],[]⟩ [.code (f50.body.getD .skip)]) (a4.at aF (.inRegion aC (aK::aM)::aH)::csZ),w,mine⟩:=by
 have hF:=E;simp only[f50,vae];refine bl (bR c) ?_;repeat w_go ah.trans
 refine dL Y hF λg a p o j d n l hF=>?_;refine sk (d1:=1) (bR c) l J1 (vbx .disable Ad Y Y Am Y func71 CE CF CG CH) Y Kx (sj (f1:=f+2) Jo _) Ad Y ?_;clear l n o a;refine bl (bR c) ?_;walk_nrm
 repeat w_go ah.trans
 u_defer ah.trans hF
 repeat w_go ah.trans
 refine dL Y hF λg a p o j d n l hF=>?_;refine lH (A:=az c) (stepG_entry_pure (.F) Y Y Am Y func73 QS QR Qu Qi) Y Y (.refl _) Y Y ?_;clear l n o a;refine bl (bR c) ?_;walk_nrm
 repeat w_go ah.trans
 u_call func77 R5 f77 ah.trans hF
 repeat w_go ah.trans
 refine dL Y hF λg a p o j d n l hF=>?_;have L:=Ud eK l.sees;have z:d.al.eg=false:=by obtain⟨ls,ee,hi,hg⟩:=l.sees;obtain⟨s,hs,C⟩:=hg.pE.main;have h0:=hg.pE.only ee (.spawn k false) AA;subst h0;rw[vbd,hi]at hs;cases hs;exact C.1
 have hv:IntKind.wrap .u64 (((d.al.aR*4294967296+d.al.eg.toNat:Nat):Int)+4294967296)=((({d.al with aR:=d.al.aR+1}:co).aR*4294967296+({d.al with aR:=d.al.aR+1}:co).eg.toNat:Nat):Int):=by grind[IntKind.wrap_u64]
 refine Mv l (a1:=.main (.spawn k true)) (b1:={d.al with aR:=d.al.aR+1}) (f1:=f+1) (vcw Y Y Am Y func106 TO TP TQ .u64 TR Y Y (uI l.mt.2.1) (z2 l.mt.2.1 0 none)) Y hv Ad Y ⟨Y,Y,Y,Y⟩ (λxs i hi hg=>?_) Jo (.inl trivial) Kl Ad Y Kl ?_
 .have h0:=hg.only i _ hi;subst h0;exact hg.add hi
 rw[hv];replace hF:=ah.trans hF (Gw (c:=c) (mine:=mine) F j 0 none (.int .u64 ((({d.al with aR:=d.al.aR+1}:co).aR*4294967296+({d.al with aR:=d.al.aR+1}:co).eg.toNat:Nat):Int)));have u:((({d.al with aR:=d.al.aR+1}:co).aR*4294967296+({d.al with aR:=d.al.aR+1}:co).eg.toNat:Nat):Int)=((d.al.aR+1:Nat):Int)*4294967296:=by grind
 rw[u]at hF⊢;have t:bits .and .u64 (((d.al.aR+1:Nat):Int)*4294967296) 2147483648=0:=by have:=(N3 (d.al.aR+1) AP 0 AP).1;grind
 have r:bits .and .u64 (((d.al.aR+1:Nat):Int)*4294967296) 2147483647=0:=by have:=(N3 (d.al.aR+1) AP 0 AP).2;grind
 have v:(((d.al.aR+1:Nat):Int)*4294967296) / 4294967296=((d.al.aR+1:Nat):Int):=AP;have K:IntKind.wrap .i32 ((d.al.aR+1:Nat):Int)=((d.al.aR+1:Nat):Int):=H4;have B:(0:Int)<((d.al.aR+1:Nat):Int):=AP;clear hv z u;generalize((d.al.aR+1:Nat):Int)=y at hF t v r K B⊢;have M:decide (y<0)=false:=AA;have I:decide (0<y)=true:=AA;generalize y*4294967296=x at hF t v r⊢;clear l n o a;refine bl (bR c) ?_;walk_nrm
 repeat w_go ah.trans
 by_cases q:y=1;focus
  subst q;u_leave1 func77 ah.trans hF
  repeat w_go ah.trans
  refine dL Y hF λg a p o j d n l hF=>?_;refine lH (A:=az c) (J4 y6 yn Y Y Am Y Y (Mt l.mt.2.1)) Y Y (.refl _) Y Y ?_;clear l n o a;refine bl (bR c) ?_;walk_nrm
  repeat w_go ah.trans
  refine dL Y hF λg a p o j d n l hF=>?_;refine yk l J1 trivial (vcu .read Ad Y Y Am Y func78 aq9 aq_ ara arb Bz) Y ?_;clear l n o a;refine bl (bR c) ?_;walk_nrm
 rotate_left
 focus
  have J:(y==1)=false:=AA;u_leave1 func77 ah.trans hF
 rotate_left
 all_goals
  repeat w_go ah.trans
  refine dL Y hF λg a p o j d n l hF=>?_;refine sk (d1:=0) (bR c) l KK (stepG_unwind_entry Y func72 qy qz qA qB (by simp[Extern.Race.none_];rfl) Ad Ad) Y Kx (sj (f1:=f) Jo _) Ad Y ?_;clear l n o a;refine bl (bR c) ?_;u_leave0 func50 ah.trans hF
  exact vai (λg a=>⟨Y,λp _=>D g p (ah.trans hF a)⟩)
end
variable{P:b4}
section
section
variable{c:dD}{Stop:Bool->ag.Lo At->aV->Prop}{mine:dh}
theorem x9:∀{n d:Nat}{g:uah},QuitsD P n d g->QuitsD P (n+1) d g
 |0,_,_,h=>.inl h
 | _+1,_,_,h=>h.imp id λ⟨e,g',es,c,b,a⟩=>⟨e,g',es,c,b,x9 a⟩
theorem N4{n d:Nat}{g:uah}(h:QuitsD P n d g):∀r,QuitsD P (n+r) d g
 |0=>h
 |r+1=>x9 (N4 h r)
def asy{l:ag.Lo At}{γ:ag.aO co}{X:aV}(f:dQ (am (az c)) l γ X w'){p:uae}{f1:Nat}{v:Int}(hs:stepG Q false X.g w'=.go g1 (w'.setCell ⟨c.wg,0,none⟩ (.int .u64 v)) #[⟨.cell ⟨c.wg,0,none⟩,false,true⟩,⟨.cell ⟨c.wg,0,none⟩,true,true⟩])(hrun:g1.status=.running)(hv:v=(((γ.al.aR-1)*4294967296+γ.al.eg.toNat:Nat):Int))(hd:0<l.deaf)(b:l.al=.work .rel p)(d:γ.al.eg=false\/2<=γ.al.aR)(g:f1<l.fuel)(a:l.mx=.idle)(h:l.tok=false)(hS:Stop false ({l with al:=.gone p,fuel:=f1}:ag.Lo At) ⟨g1,w'.setCell ⟨c.wg,0,none⟩ (.int .u64 v),X.mine⟩):Then (Z:=am (az c)) Q Stop false l γ X w':=
 Mv f (a1:=.gone p) (b1:={γ.al with aR:=γ.al.aR-1}) (f1:=f1) hs hrun hv hd Y ⟨Y,Y,Y,Y⟩ (λxs i hi hg=>hg.out d AA) g (.inr (Nat.sub_le _ _)) (λ_=>a) (λe=>AA) (by rw[b];rfl) (λ_=>⟨Y,hS⟩) (.stop hS)
def ss{m:Bool}{l:ag.Lo At}{γ:ag.aO co}{X:aV}(d:dQ (am (az c)) l γ X w')(hs:stepG Q m X.g w'=.go g1 w' #[⟨.cell ⟨c.wg,0,none⟩,false,true⟩])(hrun:g1.status=.running)(hd:0<l.deaf)(h:bg (am (az c)) Q Stop m l γ ⟨g1,w',X.mine⟩):Then (Z:=am (az c)) Q Stop m l γ X w':=by
 refine .quiet hs ⟨hrun,qj _ _ _,λ_ _ _=>Y,⟨.inr ⟨Y,.inr (.inr J1),hd⟩,PJ⟩,?_⟩ ?_
 .rintro(⟨e,a,b⟩|h)
  .simp only[List.mem_toArray,vbn,vcy,or_false]at a;subst a;rcases b with h|h|⟨_,h⟩|⟨_,h⟩|⟨h,_⟩<;>cases h
  grind
 grind[kR]
def asz{l:ag.Lo At}{γ:ag.aO co}{X:aV}(f:dQ (am (az c)) l γ X w'){p:uae}{f1:Nat}{v:Int}(hs:stepG Q false X.g w'=.go g1 (w'.setCell ⟨c.wg,1,none⟩ (.int .u32 v)) (semEvents ⟨c.wg,1,none⟩))(hrun:g1.status=.running)(hv:v=((γ.al.gp+1:Nat):Int))(d:l.al=.work .lb p)(g:f1<l.fuel)(a:l.mx=.idle)(h:l.tok=false)(b:mayWake Q X.g=true)(hS:Stop false ({l with al:=.gone p,fuel:=f1}:ag.Lo At) ⟨g1,w'.setCell ⟨c.wg,1,none⟩ (.int .u32 v),X.mine⟩):Then (Z:=am (az c)) Q Stop false l γ X w':=
 YF f (a1:=.gone p) (b1:={γ.al with gp:=γ.al.gp+1}) (f1:=f1) hs hrun hv ⟨Y,Y⟩ ⟨Y,Y,Y,Y⟩ (λxs i hi hg=>hg.raise AA) g (λ_=>a) (λe=>AA) (by rw[d];rfl) (.inl b) (λ_=>⟨Y,hS⟩) (.stop hS)
def asA{l:ag.Lo At}{γ a:ag.aO co}(h:(am (az c)).dZ l γ a)(hs:hh (am (az c)) l a)(a7:oc c.N γ.al):oc c.N a.al:=ri a7 AA
def asB(n t:Nat)(hn:1<=n)(a:n<=1000000)(ht:t<=1):IntKind.wrap .u64 (((n*4294967296+t:Nat):Int)+18446744069414584320)=(((n-1)*4294967296+t:Nat):Int):=by rw[IntKind.wrap_u64];omega
def asC{f nq:Nat}{p:uae}(eK:c.most<=1000000)(K:∀b,c.K b\/mine b->b≠c.wg){E:Frame}{cs:fV}(hc:E.mode=.returning)(hq:QuitsD prog nq 0 (Conc.G E cs))(hS:∀f' g w',ah (am (az c)) mine w0 w'->(∃n,QuitsD prog n 1 g)->Stop false ⟨.idle,false,1,f',.gone p⟩ ⟨g,w',mine⟩)(w:aS)(γ:ag.aO co)(Y:ah (am (az c)) mine w0 w)(a7:oc c.N γ.al):
 bg (am (az c)) prog Stop false ⟨.idle,false,0,f+5,.work .free p⟩ γ ⟨Conc.G ((baseD 52).at ⟨#[.P c.wg 0,.U,.U,.U],[]⟩ [.code (f52.body.getD .skip)]) (E::cs),w,mine⟩:=by
 have hF:=Y;simp only[f52,vae];refine bl (bR c) ?_;repeat w_go ah.trans
 u_call func50 arg f50 ah.trans hF
 repeat w_go ah.trans
 refine dL rfl hF λl a r o k d m j hF=>?_;have X:=(da (bR c)).trans _ _ _ _ o m;refine lH (A:=az c) (J4 Ue Uf rfl rfl Am rfl rfl (uI j.mt.2.1)) rfl rfl (.refl _) rfl rfl ?_;clear j m o a;refine bl (bR c) ?_;walk_nrm
 repeat w_go ah.trans
 refine dL rfl hF λl a r o S eJ m j hF=>?_;have z:=(da (bR c)).trans _ _ _ _ X ((da (bR c)).trans _ _ _ _ o m);refine alz j (f1:=f+4) (vcu .releaseMerge Ad rfl rfl Am rfl func70 Tt Tu Tv Tw Bz) rfl rfl (asA z j.sees a7) Jo rfl rfl ?_;clear X z;clear j m o a;refine bl (bR c) ?_;walk_nrm
 repeat w_go ah.trans
 refine dL rfl hF λl a r o k d m j hF=>?_;refine sk (d1:=1) (bR c) j J1 (vbx .disable Ad rfl rfl Am rfl func71 CE CF CG CH) rfl Kx (sj (f1:=f+3) Jo _) Ad rfl ?_;clear j m o a;refine bl (bR c) ?_;walk_nrm
 repeat w_go ah.trans
 u_defer ah.trans hF
 repeat w_go ah.trans
 refine dL rfl hF λl a r o k d m j hF=>?_;refine lH (A:=az c) (stepG_entry_pure (.F) rfl rfl Am rfl func73 QS QR Qu Qi) rfl rfl (.refl _) rfl rfl ?_;clear j m o a;refine bl (bR c) ?_;walk_nrm
 repeat w_go ah.trans
 u_call func77 R5 f77 ah.trans hF
 repeat w_go ah.trans
 refine dL rfl hF λl a r o k d m j hF=>?_;have U:=Ud eK j.sees;have V:=alu j.sees rfl;have hv:=asB d.al.aR d.al.eg.toNat V U (vay _);have I:=N3 (d.al.aR-1) AP d.al.eg.toNat (by grind[Bool.toNat_le]);have J:=I.1;have H:=I.2;have t:((((d.al.aR-1)*4294967296+d.al.eg.toNat:Nat):Int)) / 4294967296=((d.al.aR-1:Nat):Int):=by grind[Bool.toNat_le]
 have R:IntKind.wrap .i32 ((d.al.aR-1:Nat):Int)=((d.al.aR-1:Nat):Int):=H4;have P:decide (((d.al.aR-1:Nat):Int)<0)=false:=Ad;have L:=Gw (c:=c) (mine:=mine) K k 0 none (.int .u64 (((d.al.aR-1)*4294967296+d.al.eg.toNat:Nat):Int));have F:=λ(g:uah)(h:∃n,QuitsD prog n 1 g)=>hS (f+2) g (k.setCell ⟨c.wg,0,none⟩ (.int .u64 (IntKind.wrap .u64 (((d.al.aR*4294967296+d.al.eg.toNat:Nat):Int)+18446744069414584320)))) (by grind[ah.trans]) h;clear I;by_cases O:d.al.eg=true/\d.al.aR=1
 .obtain⟨s,u⟩:=O;have W:(((d.al.aR-1)*4294967296+d.al.eg.toNat:Nat):Int)=1:=AA;have bY:bits .and .u64 1 2147483648=0:=AX;have cw:bits .and .u64 1 2147483647=1:=AX;refine Mv j (a1:=.work .nv p) (b1:={d.al with aR:=d.al.aR-1}) (f1:=f+2) (vcw rfl rfl Am rfl func106 TO TP TQ .u64 TR rfl rfl (uI j.mt.2.1) (z2 j.mt.2.1 0 none)) rfl hv Ad rfl ⟨rfl,rfl,rfl,rfl⟩ (λxs i hi hg=>hg.alk s u hi) Jo (.inr (Nat.sub_le _ _)) Kl Ad rfl Kl ?_;rw[hv];replace hF:=ah.trans hF L;rw[W]at hF⊢;clear F L hv J t H R P W s u U V;clear j m o a;refine bl (bR c) ?_;walk_nrm
  repeat w_go ah.trans
  u_leave1 func77 ah.trans hF
  repeat w_go ah.trans
  u_call func79 TW f79 ah.trans hF
  repeat w_go ah.trans
  refine dL rfl hF λl a r o k d m j hF=>?_;have B:=YE j.sees rfl;have q:=uI j.mt.2.1;rw[B.1,B.2]at q;refine ss j (stepG_load_atomic (v:=1) rfl rfl Am rfl func107 TS TT TV .u64 TU rfl q) rfl Ad ?_;clear B q;clear j m o a;refine bl (bR c) ?_;walk_nrm
  repeat w_go ah.trans
  u_leave1 func79 ah.trans hF
  repeat w_go ah.trans
  u_call func80 arh f80 ah.trans hF
  repeat w_go ah.trans
  refine dL rfl hF λl a r o k d m j hF=>?_;have B:=YE j.sees rfl;refine aly j (a1:=.work .lb p) (b1:={d.al with eg:=false}) (f1:=f+1) (stepG_store_atomic rfl rfl Am rfl func108 aq2 aq3 aq5 aq4 rfl rfl (uI j.mt.2.1) (z2 j.mt.2.1 0 none)) rfl AA Ad rfl ⟨rfl,rfl,rfl,rfl⟩ (λxs i hi hg=>hg.alm hi) Jo (.inr JT) (λe=>e) Ad rfl ?_;replace hF:=ah.trans hF (Gw (c:=c) (mine:=mine) K k 0 none (.int .u64 0));clear B;clear j m o a;refine bl (bR c) ?_;walk_nrm
  repeat w_go ah.trans
  u_leave0 func80 ah.trans hF
  repeat w_go ah.trans
  refine dL rfl hF λl a r o k d m j hF=>?_;have Q:=alv j.sees rfl;have q:=Mt j.mt.2.1;rw[Q]at q;have T:=Gw (c:=c) (mine:=mine) K k 1 none (.int .u32 (IntKind.wrap .u32 (((0:Nat):Int)+1)));refine asz j (f1:=f) (stepG_semrelease (ad:=⟨c.wg,1,none⟩) rfl rfl Am rfl func82 aq6 R9 aq7 aq8 Bz q (z2 j.mt.2.1 1 none)) rfl (by rw[Q];rfl) rfl Jo rfl rfl (mayWake_entry rfl rfl func82 R9) (hS f _ _ (ah.trans hF T) ?_);clear j m o a hS T q Q hF;refine⟨nq+140,?_⟩;walk_nrm
  repeat q_go
  refine QuitsD.unwind_mark .enable rfl Ad rfl func72 qy qz qA qB ?_;simp only[deafBehind_enable1];q_leave0 func50
  repeat q_go
  exact QuitsD.leaveD rfl rfl func52 rfl hc (N4 hq _)
 .have D:d.al.eg=false\/2<=d.al.aR:=by grind
  refine asy j (f1:=f+2) (vcw rfl rfl Am rfl func106 TO TP TQ .u64 TR rfl rfl (uI j.mt.2.1) (z2 j.mt.2.1 0 none)) rfl hv Ad rfl D Jo rfl rfl (F _ ?_);rw[hv];clear j m o a F L hv hS;have Bn:IntKind.u32.wrap 0=0:=AX;have Z:IntKind.u32.wrap 1=1:=AX;by_cases s:d.al.eg=false
  .have N:bits .and .u64 (((d.al.aR-1)*4294967296+d.al.eg.toNat:Nat):Int) 2147483647=0:=by grind
   clear H s D O;generalize(((d.al.aR-1)*4294967296+d.al.eg.toNat:Nat):Int)=x at J t N⊢;generalize C:((d.al.aR-1:Nat):Int)=y at t R P⊢;by_cases h0:y=0;focus
    clear C;subst h0
   rotate_left
   focus
    have M:decide (0<y)=true:=AA;clear C
   rotate_left
   all_goals
    refine⟨nq+140,?_⟩;walk_nrm
    repeat q_go
    q_leave1 func77
    repeat q_go
    refine QuitsD.unwind_mark .enable rfl Ad rfl func72 qy qz qA qB ?_;simp only[deafBehind_enable1];q_leave0 func50
    repeat q_go
    exact QuitsD.leaveD rfl rfl func52 rfl hc (N4 hq _)
  .have s:d.al.eg=true:=by grind
   have N:bits .and .u64 (((d.al.aR-1)*4294967296+d.al.eg.toNat:Nat):Int) 2147483647=1:=AA;have h2:2<=d.al.aR:=D.resolve_left AA;clear H s D O;generalize(((d.al.aR-1)*4294967296+d.al.eg.toNat:Nat):Int)=x at J t N⊢;generalize C:((d.al.aR-1:Nat):Int)=y at t R P⊢;have M:decide (0<y)=true:=AA;clear C;refine⟨nq+140,?_⟩;walk_nrm
   repeat q_go
   q_leave1 func77
   repeat q_go
   refine QuitsD.unwind_mark .enable rfl Ad rfl func72 qy qz qA qB ?_;simp only[deafBehind_enable1];q_leave0 func50
   repeat q_go
   exact QuitsD.leaveD rfl rfl func52 rfl hc (N4 hq _)
