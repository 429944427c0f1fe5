import Derived.Test.YtoehnnefaeoeoaaGreatPAD
set_option linter.all false
set_option maxRecDepth 100000
set_option maxHeartbeats 16000000
namespace Go.Proofs.YtoehnnefaeoeoaaGreat
open Go.Proofs.Tryz
namespace vp
open Conc RowKit Conc.Lib ConcR.Gen ConcM az bu ab gb ba
theorem Tx{c:dT}(fo:c.d4<=250){l:ab.av aV}{γ:ab.aT cF}(h:hX (ah (aE c)) l γ):γ.am.a0<=250:=by
 obtain⟨aU,i,hi,b⟩:∃(aU:List (ab.av aV))(i:Nat),aU[i]?=some l/\u_ (aE c) γ aU:=h;have g:γ.am.a0=dm g7 (aU.map (·.am)):=b.qw.a0;have f:aU.length<=c.d4:=b.len;have e:∀xs:List aV,dm g7 xs<=xs.length:=by
  intro xs;induction xs with
  |nil=>simp[dm]
  |cons a xs d=>
   have:g7 a<=1:=by
    cases a with
    |main s=>cases s with
     |spawn k q=>cases q<;>simp[g7]
     | _=>simp[g7]
    |aR s l=>cases s<;>simp[g7]
    | _=>simp[g7]
   grind[dm]
 grind
theorem GH{c:dT}{mine:Nat->Prop}(h:∀b,c.K b\/mine b->b≠c.wg)(w:World)(off:Nat)(sp)(v:Value):U (ah (aE c)) mine w (w.setCell ⟨c.wg,off,sp⟩ v):=
 ⟨fun b a=>mw w _ v (h b a),Bp,.refl _,rfl,rfl⟩
theorem N3:∀n,n<256->∀t,t<2->bits .and .u64 ((n*4294967296+t:Nat):Int) 2147483648=0/\bits .and .u64 ((n*4294967296+t:Nat):Int) 2147483647=(t:Int):=by decide+kernel
theorem Ty:prog.underlying 173=some (.pointer 136):=by simp
theorem Tz:(prog.info? 136).map (fun i=>decide (i.size=0))=some false:=by kernel_rfl
theorem abG:prog.underlying 181=some (.pointer 134):=by simp
theorem abH:(prog.info? 134).map (fun i=>decide (i.size=0))=some false:=by kernel_rfl
theorem JQ{m:Bool}{b:Frame}{a:Act}{kk:List Item}{cs:List Frame}{w:World}{ops:Array Oper}{i:Nat}{rest:List Nat}{o:Oper}{src t:TypeId}(d:prog.underlying src=some (.pointer t))(c:(prog.info? t).map (fun i=>decide (i.size=0))=some false)
 {x:Operand} (j:ops[i]?=some o) (f:Region.wanted o (yielded ops a.tmps)=true) (k:b.kind≠ .early) (h:o.op=.convert src 175 x) {ad:Addr} {v:Value} (p:a.eval x=.pointer (some ad)) (e:w.cell? ad=some v):
 stepG prog m (Conc.G (b.at a (.inRegion ops (i::rest)::kk)) cs) w=.go (Conc.G (b.at (a.put o.dst (.pointer (some ad))) (.inRegion ops rest::kk)) cs) w #[]:=by
 have l:=run_convert_to_unsafe (P:=prog) d NH c e;have n:=fun es=>events_convert_to_unsafe (P:=prog) d NH c e es;have g:(execOp a.eval o).run prog w=.ok (.value (.pointer (some ad))) w:=by simp_all[execOp]
 have q:(execOp a.eval o).events prog w #[]=#[]:=by simp_all[execOp]
 rw[stepG_value j f k g];grind[listed,seen_none]
variable {Q:Program}{w':World}{g1:Goroutine}
theorem abI{c:dT}{Stop:Bool->ab.av aV->a6->Prop}{m:Bool}{l:ab.av aV}{γ:ab.aT cF}{X:a6}(i:dX (ah (aE c)) l γ X w'){mk:Mark}(b:mk=.read ⟨c.wg,1,none⟩\/mk=.write ⟨c.wg,1,none⟩)(d:Bi l.am)
 (g:stepG Q m X.g w'=.go g1 w' #[⟨.mark mk,false,true⟩]) (hrun:g1.status=.running) (h:bh (ah (aE c)) Q Stop m l γ ⟨g1,w',X.mine⟩):iq (Z:=ah (aE c)) Q Stop m l γ X w':=by
 refine .quiet g ⟨hrun,tT _ _ _,fun _ _ _=>rfl,⟨.inr ⟨d,⟨c.wg,1,none⟩,.inr (.inr K0),b⟩,trivial⟩,?_⟩ ?_
 ·rintro(⟨e,a,f⟩|h)
  ·simp only[List.mem_toArray,List.mem_cons,List.not_mem_nil,or_false]at a;subst a;rcases f with h|h|⟨_,h⟩|⟨_,h⟩|⟨h,_⟩
   ·grind
   ·grind
   ·grind
   ·grind
   grind
  grind
 grind[lD]
variable {w0:World}
section
variable {c:dT} {Stop:Bool->ab.av aV->a6->Prop} {m:Bool} {mine:Nat->Prop}
variable {b₁:Frame} {a₁:Act} {aG:Array Oper} {i₁:Nat} {aP:List Nat} {k₁:List Item} {cs₁:List Frame}
theorem aq_{f k:Nat}(fo:c.d4<=250)(K:∀b,c.K b\/mine b->b≠c.wg)
 (z:∀w' L,U (ah (aE c)) mine w0 w'->bh (ah (aE c)) prog Stop m ⟨.idle,false,0,f,.main (.spawn k true)⟩ L ⟨Conc.G (b₁.at (a₁.put ((aG[i₁]?).bind (·.dst)) (.tuple #[])) (.inRegion aG aP::k₁)) cs₁,w',mine⟩) (w:World) (γ:ab.aT cF) (J:U (ah (aE c)) mine w0 w):
 bh (ah (aE c)) prog Stop m ⟨.idle,false,0,f+3,.main (.spawn k false)⟩ γ ⟨Conc.G ((base 49).at ⟨#[.pointer (some ⟨c.wg,0,none⟩),.int .i64 1,undef,undef,undef,undef,undef,undef,undef,undef,undef,undef,undef,undef,undef,undef,undef,undef,undef,undef,undef,undef,undef,undef,undef,undef,undef,undef,undef,undef,undef,undef,undef,undef,undef,undef,undef,undef,undef,undef,undef,undef,undef,undef,undef,undef,undef,undef,undef,undef,undef,undef,undef,undef,undef,undef,undef,undef,undef,undef,undef,undef,undef,undef,undef,undef,undef,undef,undef,undef,undef,undef,undef,undef,undef,undef,undef,undef,undef,undef,undef,undef,undef,undef,undef,undef,undef,undef,undef,undef,undef,undef,undef,undef,undef,undef,undef,undef,undef,undef,undef,undef,undef,undef,undef,undef,undef,undef,undef,undef,undef,undef,undef,undef,undef,undef,undef],[]⟩ [.code (f49.body.getD .skip)]) (b₁.at a₁ (.inRegion aG (i₁::aP)::k₁)::cs₁),w,mine⟩:=by
 have hF:=J;simp only[f49,Option.getD_some];refine a5 (aN (bR c)) Js 300 _ _ γ Jt ?_;repeat w_go U.trans
 refine dj rfl hF fun o g n l p a j d hF=>?_;refine sq (d1:=1) (bR c) d Jt (stepG_mark0 .disable Aa rfl rfl Bc rfl func70 D1 D2 D3 D4) rfl K4 (sn (f1:=f+2) KI _) Aa rfl ?_;clear d j l g;refine a5 (aN (bR c)) Js 300 _ _ _ Jt ?_;walk_nrm
 repeat w_go U.trans
 u_defer U.trans hF
 repeat w_go U.trans
 refine dj rfl hF fun o g n l p a j d hF=>?_;refine k8 (A:=aE c) (stepG_entry_pure (.bool false) rfl rfl Bc rfl func72 aa7 aa8 aa9 aa_) rfl rfl (.refl _) rfl rfl ?_;clear d j l g;refine a5 (aN (bR c)) Js 300 _ _ _ Jt ?_;walk_nrm
 repeat w_go U.trans
 u_call func76 abj f76 U.trans hF
 repeat w_go U.trans
 refine dj rfl hF fun o g n l p a j d hF=>?_;have P:=Tx fo d.sees;have E:a.am.eg=false:=by obtain⟨aU,H,hi,q⟩:=d.sees;obtain⟨s,v,I⟩:=q.qw.main;have h0:=q.qw.only H (.spawn k false) AU;subst h0;rw[List.getElem?_map,hi]at v;cases v;exact I.1
 have r:IntKind.wrap .u64 (((a.am.a0*4294967296+a.am.eg.toNat:Nat):Int)+4294967296)=((({a.am with a0:=a.am.a0+1}:cF).a0*4294967296+({a.am with a0:=a.am.a0+1}:cF).eg.toNat:Nat):Int):=by grind[IntKind.wrap_u64]
 refine MJ d (a1:=.main (.spawn k true)) (b1:={a.am with a0:=a.am.a0+1}) (f1:=f+1) (stepG_add_atomic rfl rfl Bc rfl func105 S7 S8 S9 .u64 S_ rfl rfl (xC d.mt.2.1) (Bj d.mt.2.1 0 none)) rfl r Aa rfl ⟨rfl,rfl,rfl⟩ (fun xs i hi q=>?_) KI (.inl trivial) K5 Aa rfl K5 ?_
 ·have h0:=q.only i _ hi;subst h0;exact q.add hi
 rw[r];replace hF:=U.trans hF (GH (c:=c) (mine:=mine) K p 0 none (.int .u64 ((({a.am with a0:=a.am.a0+1}:cF).a0*4294967296+({a.am with a0:=a.am.a0+1}:cF).eg.toNat:Nat):Int)));have C:((({a.am with a0:=a.am.a0+1}:cF).a0*4294967296+({a.am with a0:=a.am.a0+1}:cF).eg.toNat:Nat):Int)=((a.am.a0+1:Nat):Int)*4294967296:=by grind
 rw[C]at hF⊢;have B:bits .and .u64 (((a.am.a0+1:Nat):Int)*4294967296) 2147483648=0:=by have:=(N3 (a.am.a0+1) Ay 0 Ay).1;grind
 have u:bits .and .u64 (((a.am.a0+1:Nat):Int)*4294967296) 2147483647=0:=by have:=(N3 (a.am.a0+1) Ay 0 Ay).2;grind
 have D:(((a.am.a0+1:Nat):Int)*4294967296) / 4294967296=((a.am.a0+1:Nat):Int):=Ay;have O:IntKind.wrap .i32 ((a.am.a0+1:Nat):Int)=((a.am.a0+1:Nat):Int):=Io;have F:(0:Int)<((a.am.a0+1:Nat):Int):=Ay;clear r E C;generalize((a.am.a0+1:Nat):Int)=y at hF B D u O F⊢;have Q:decide (y<0)=false:=AU;have M:decide (0<y)=true:=AU;generalize y*4294967296=x at hF B D u⊢;clear d j l g;refine a5 (aN (bR c)) Js 300 _ _ _ Jt ?_;walk_nrm
 repeat w_go U.trans
 by_cases t:y=1
 ·subst t;u_leave1 func76 U.trans hF
  repeat w_go U.trans
  refine dj rfl hF fun o g n l p a j d hF=>?_;refine k8 (A:=aE c) (JQ abG abH rfl rfl Bc rfl rfl (MH d.mt.2.1)) rfl rfl (.refl _) rfl rfl ?_;clear d j l g;refine a5 (aN (bR c)) Js 300 _ _ _ Jt ?_;walk_nrm
  repeat w_go U.trans
  refine dj rfl hF fun o g n l p a j d hF=>?_;refine abI d Jt trivial (stepG_markAt .read Aa rfl rfl Bc rfl func77 apK apL apM apN CX) rfl ?_;clear d j l g;refine a5 (aN (bR c)) Js 300 _ _ _ Jt ?_;walk_nrm
  repeat w_go U.trans
  refine dj rfl hF fun o g n l p a j d hF=>?_;refine sq (d1:=0) (bR c) d K0 (stepG_unwind_entry rfl func71 oq ot ou ov (by simp[Extern.Race.none_];rfl) Aa Aa) rfl K4 (sn (f1:=f) KI _) Aa rfl ?_;clear d j l g;refine a5 (aN (bR c)) Js 300 _ _ _ Jt ?_;u_leave0 func49 U.trans hF
  exact Goes.stop (fun o g=>⟨rfl,fun n _=>z o n (U.trans hF g)⟩)
 ·have N:(y==1)=false:=by grind
  u_leave1 func76 U.trans hF
  repeat w_go U.trans
  refine dj rfl hF fun o g n l p a j d hF=>?_;refine sq (d1:=0) (bR c) d K0 (stepG_unwind_entry rfl func71 oq ot ou ov (by simp[Extern.Race.none_];rfl) Aa Aa) rfl K4 (sn (f1:=f) KI _) Aa rfl ?_;clear d j l g;refine a5 (aN (bR c)) Js 300 _ _ _ Jt ?_;u_leave0 func49 U.trans hF
  exact Goes.stop (fun o g=>⟨rfl,fun n _=>z o n (U.trans hF g)⟩)
end
variable {P:Program}
section
section
variable {c:dT} {Stop:Bool->ab.av aV->a6->Prop} {mine:Nat->Prop}
theorem abK:∀{n d:Nat}{g:Goroutine},QuitsD P n d g->QuitsD P (n+1) d g
 |0,_,_,h=>.inl h
 | _+1,_,_,h=>h.imp id fun⟨e,g',es,c,b,a⟩=>⟨e,g',es,c,b,abK a⟩
theorem JR{n d:Nat}{g:Goroutine}(h:QuitsD P n d g):∀r,QuitsD P (n+r) d g
 |0=>h
 |r+1=>abK (JR h r)
theorem arc{l:ab.av aV}{γ:ab.aT cF}{X:a6}(h:dX (ah (aE c)) l γ X w'){p:List (Nat×Value)}{f1:Nat}{v:Int}(g:stepG Q false X.g w'=.go g1 (w'.setCell ⟨c.wg,0,none⟩ (.int .u64 v)) #[⟨.cell ⟨c.wg,0,none⟩,false,true⟩,⟨.cell ⟨c.wg,0,none⟩,true,true⟩])(hrun:g1.status=.running)
 (f:v=(((γ.am.a0-1)*4294967296+γ.am.eg.toNat:Nat):Int)) (hd:0<l.deaf) (b:l.am=.aR .rel p) (d:γ.am.eg=false\/2<=γ.am.a0) (k:f1<l.fuel) (a:l.bB=.idle) (m:l.cD=false)
 (hS:Stop false ({l with am:=.gone p,fuel:=f1}:ab.av aV) ⟨g1,w'.setCell ⟨c.wg,0,none⟩ (.int .u64 v),X.mine⟩):iq (Z:=ah (aE c)) Q Stop false l γ X w':=
 MJ h (a1:=.gone p) (b1:={γ.am with a0:=γ.am.a0-1}) (f1:=f1) g hrun f hd rfl ⟨rfl,rfl,rfl⟩ (fun xs i hi j=>j.out d AU) k (.inr (Nat.sub_le _ _)) (fun _=>a) (fun e=>AU) (by rw[b];rfl) (fun _=>⟨rfl,hS⟩) (.stop hS)
theorem tj{m:Bool}{l:ab.av aV}{γ:ab.aT cF}{X:a6}(f:dX (ah (aE c)) l γ X w')(d:stepG Q m X.g w'=.go g1 w' #[⟨.cell ⟨c.wg,0,none⟩,false,true⟩])(hrun:g1.status=.running)(hd:0<l.deaf)(h:bh (ah (aE c)) Q Stop m l γ ⟨g1,w',X.mine⟩):iq (Z:=ah (aE c)) Q Stop m l γ X w':=by
 refine .quiet d ⟨hrun,tT _ _ _,fun _ _ _=>rfl,⟨.inr ⟨rfl,.inr (.inr Jt),hd⟩,trivial⟩,?_⟩ ?_
 ·rintro(⟨e,a,b⟩|h)
  ·simp only[List.mem_toArray,List.mem_cons,List.not_mem_nil,or_false]at a;subst a;rcases b with h|h|⟨_,h⟩|⟨_,h⟩|⟨h,_⟩<;>cases h
  grind
 grind[lD]
theorem ard{l:ab.av aV}{γ:ab.aT cF}{X:a6}(h:dX (ah (aE c)) l γ X w'){p:List (Nat×Value)}{f1:Nat}{v:Int}(g:stepG Q false X.g w'=.go g1 (w'.setCell ⟨c.wg,1,none⟩ (.int .u32 v)) (semEvents ⟨c.wg,1,none⟩))(hrun:g1.status=.running)
 (f:v=((γ.am.gP+1:Nat):Int)) (d:l.am=.aR .lb p) (k:f1<l.fuel) (a:l.bB=.idle) (m:l.cD=false) (b:mayWake Q X.g=true)
 (hS:Stop false ({l with am:=.gone p,fuel:=f1}:ab.av aV) ⟨g1,w'.setCell ⟨c.wg,1,none⟩ (.int .u32 v),X.mine⟩):iq (Z:=ah (aE c)) Q Stop false l γ X w':=
 Y4 h (a1:=.gone p) (b1:={γ.am with gP:=γ.am.gP+1}) (f1:=f1) g hrun f ⟨rfl,rfl⟩ ⟨rfl,rfl,rfl⟩ (fun xs i hi j=>j.raise AU) k (fun _=>a) (fun e=>AU) (by rw[d];rfl) (.inl b) (fun _=>⟨rfl,hS⟩) (.stop hS)
theorem are{l:ab.av aV}{γ:ab.aT cF}(h:hX (ah (aE c)) l γ):γ.am.taken<=c.N:=by obtain⟨aU,i,hi,a⟩:∃(aU:List (ab.av aV))(i:Nat),aU[i]?=some l/\u_ (aE c) γ aU:=h;exact a.qw.a2
theorem arf{l:ab.av aV}{γ a:ab.aT cF}(h:(ah (aE c)).dN l γ a)(b:hX (ah (aE c)) l a)(cj:γ.am.taken=c.N):a.am.taken=c.N:=by have d:=are b;grind
theorem arg(n t:Nat)(b:1<=n)(a:n<=250)(ht:t<=1):IntKind.wrap .u64 (((n*4294967296+t:Nat):Int)+18446744069414584320)=(((n-1)*4294967296+t:Nat):Int):=by rw[IntKind.wrap_u64];omega
theorem arh{f nq:Nat}{p:List (Nat×Value)}(fo:c.d4<=250)(N:∀b,c.K b\/mine b->b≠c.wg){W:Frame}{cs:List Frame}(H:W.mode=.returning)(F:QuitsD prog nq 0 (Conc.G W cs))
 (hS:∀f' g w',U (ah (aE c)) mine w0 w'->(∃n,QuitsD prog n 1 g)->Stop false ⟨.idle,false,1,f',.gone p⟩ ⟨g,w',mine⟩) (w:World) (γ:ab.aT cF) (gy:U (ah (aE c)) mine w0 w) (cj:γ.am.taken=c.N):
 bh (ah (aE c)) prog Stop false ⟨.idle,false,0,f+5,.aR .free p⟩ γ ⟨Conc.G ((baseD 51).at ⟨#[.pointer (some ⟨c.wg,0,none⟩),undef,undef,undef],[]⟩ [.code (f51.body.getD .skip)]) (W::cs),w,mine⟩:=by
 have hF:=gy;simp only[f51,Option.getD_some];refine a5 (aN (bR c)) Js 300 _ _ γ Jt ?_;repeat w_go U.trans
 u_call func49 apS f49 U.trans hF
 repeat w_go U.trans
 refine dj rfl hF fun r l q k m a j d hF=>?_;have TA:=(aN (bR c)).trans _ _ _ _ k j;refine k8 (A:=aE c) (JQ Ty Tz rfl rfl Bc rfl rfl (xC d.mt.2.1)) rfl rfl (.refl _) rfl rfl ?_;clear d j k l;refine a5 (aN (bR c)) Js 300 _ _ _ Jt ?_;walk_nrm
 repeat w_go U.trans
 refine dj rfl hF fun r l q k gd eF j d hF=>?_;have B:=(aN (bR c)).trans _ _ _ _ TA ((aN (bR c)).trans _ _ _ _ k j);refine alI d (f1:=f+4) (stepG_markAt .releaseMerge Aa rfl rfl Bc rfl func69 SN SO SP SQ CX) rfl rfl (arf B d.sees cj) KI rfl rfl ?_;clear TA B;clear d j k l;refine a5 (aN (bR c)) Js 300 _ _ _ Jt ?_;walk_nrm
 repeat w_go U.trans
 refine dj rfl hF fun r l q k m a j d hF=>?_;refine sq (d1:=1) (bR c) d Jt (stepG_mark0 .disable Aa rfl rfl Bc rfl func70 D1 D2 D3 D4) rfl K4 (sn (f1:=f+3) KI _) Aa rfl ?_;clear d j k l;refine a5 (aN (bR c)) Js 300 _ _ _ Jt ?_;walk_nrm
 repeat w_go U.trans
 u_defer U.trans hF
 repeat w_go U.trans
 refine dj rfl hF fun r l q k m a j d hF=>?_;refine k8 (A:=aE c) (stepG_entry_pure (.bool false) rfl rfl Bc rfl func72 aa7 aa8 aa9 aa_) rfl rfl (.refl _) rfl rfl ?_;clear d j k l;refine a5 (aN (bR c)) Js 300 _ _ _ Jt ?_;walk_nrm
 repeat w_go U.trans
 u_call func76 abj f76 U.trans hF
 repeat w_go U.trans
 refine dj rfl hF fun r l q k m a j d hF=>?_;have Y:=Tx fo d.sees;have Z:=alD d.sees rfl;have t:=arg a.am.a0 a.am.eg.toNat Z Y (Bool.toNat_le _);have K:=N3 (a.am.a0-1) Ay a.am.eg.toNat (by grind[Bool.toNat_le]);have M:=K.1;have J:=K.2;have u:((((a.am.a0-1)*4294967296+a.am.eg.toNat:Nat):Int)) / 4294967296=((a.am.a0-1:Nat):Int):=by grind[Bool.toNat_le]
 have V:IntKind.wrap .i32 ((a.am.a0-1:Nat):Int)=((a.am.a0-1:Nat):Int):=Io;have S:decide (((a.am.a0-1:Nat):Int)<0)=false:=Aa;have O:=GH (c:=c) (mine:=mine) N m 0 none (.int .u64 (((a.am.a0-1)*4294967296+a.am.eg.toNat:Nat):Int));have I:=fun(g:Goroutine)(h:∃n,QuitsD prog n 1 g)=>hS (f+2) g (m.setCell ⟨c.wg,0,none⟩ (.int .u64 (IntKind.wrap .u64 (((a.am.a0*4294967296+a.am.eg.toNat:Nat):Int)+18446744069414584320)))) (by grind[U.trans]) h;clear K;by_cases R:a.am.eg=true/\a.am.a0=1
 ·obtain⟨s,z⟩:=R;have e1:(((a.am.a0-1)*4294967296+a.am.eg.toNat:Nat):Int)=1:=AU;have bm:bits .and .u64 1 2147483648=0:=AW;have bY:bits .and .u64 1 2147483647=1:=AW;refine MJ d (a1:=.aR .n8 p) (b1:={a.am with a0:=a.am.a0-1}) (f1:=f+2) (stepG_add_atomic rfl rfl Bc rfl func105 S7 S8 S9 .u64 S_ rfl rfl (xC d.mt.2.1) (Bj d.mt.2.1 0 none)) rfl t Aa rfl ⟨rfl,rfl,rfl⟩ (fun xs i hi L=>L.alt s z hi) KI (.inr (Nat.sub_le _ _)) K5 Aa rfl K5 ?_;rw[t];replace hF:=U.trans hF O;rw[e1]at hF⊢;clear I O t M u J V S e1 s z Y Z;clear d j k l;refine a5 (aN (bR c)) Js 300 _ _ _ Jt ?_;walk_nrm
  repeat w_go U.trans
  u_leave1 func76 U.trans hF
  repeat w_go U.trans
  u_call func78 Te f78 U.trans hF
  repeat w_go U.trans
  refine dj rfl hF fun r l q k m a j d hF=>?_;have C:=Y3 d.sees rfl;have o:=xC d.mt.2.1;rw[C.1,C.2]at o;refine tj d (stepG_load_atomic (v:=1) rfl rfl Bc rfl func106 Ta Tb Td .u64 Tc rfl o) rfl Aa ?_;clear C o;clear d j k l;refine a5 (aN (bR c)) Js 300 _ _ _ Jt ?_;walk_nrm
  repeat w_go U.trans
  u_leave1 func78 U.trans hF
  repeat w_go U.trans
  u_call func79 apT f79 U.trans hF
  repeat w_go U.trans
  refine dj rfl hF fun r l q k m a j d hF=>?_;have C:=Y3 d.sees rfl;refine alH d (a1:=.aR .lb p) (b1:={a.am with eg:=false}) (f1:=f+1) (stepG_store_atomic rfl rfl Bc rfl func107 apD apE apG apF rfl rfl (xC d.mt.2.1) (Bj d.mt.2.1 0 none)) rfl AU Aa rfl ⟨rfl,rfl,rfl⟩ (fun xs i hi L=>L.alu hi) KI (.inr Jr) (fun e=>e) Aa rfl ?_;replace hF:=U.trans hF (GH (c:=c) (mine:=mine) N m 0 none (.int .u64 0));clear C;clear d j k l;refine a5 (aN (bR c)) Js 300 _ _ _ Jt ?_;walk_nrm
  repeat w_go U.trans
  u_leave0 func79 U.trans hF
  repeat w_go U.trans
  refine dj rfl hF fun r l q k m a j d hF=>?_;have T:=alE d.sees rfl;have o:=MH d.mt.2.1;rw[T]at o;have X:=GH (c:=c) (mine:=mine) N m 1 none (.int .u32 (IntKind.wrap .u32 (((0:Nat):Int)+1)));refine ard d (f1:=f) (stepG_semrelease (ad:=⟨c.wg,1,none⟩) rfl rfl Bc rfl func81 apH abi apI apJ CX o (Bj d.mt.2.1 1 none)) rfl (by rw[T];rfl) rfl KI rfl rfl (mayWake_entry rfl rfl func81 abi) (hS f _ _ (U.trans hF X) ?_);clear d j k l hS X o T hF;refine⟨nq+140,?_⟩;walk_nrm
  repeat q_go
  refine QuitsD.unwind_mark .enable rfl Aa rfl func71 oq ot ou ov ?_;simp only[deafBehind_enable1];q_leave0 func49
  repeat q_go
  exact QuitsD.leaveD rfl rfl func51 rfl H (JR F _)
 ·have E:a.am.eg=false\/2<=a.am.a0:=by grind
  refine arc d (f1:=f+2) (stepG_add_atomic rfl rfl Bc rfl func105 S7 S8 S9 .u64 S_ rfl rfl (xC d.mt.2.1) (Bj d.mt.2.1 0 none)) rfl t Aa rfl E KI rfl rfl (I _ ?_);rw[t];clear d j k l I O t hS;have CG:IntKind.u32.wrap 0=0:=AW;have po:IntKind.u32.wrap 1=1:=AW;by_cases s:a.am.eg=false
  ·have Q:bits .and .u64 (((a.am.a0-1)*4294967296+a.am.eg.toNat:Nat):Int) 2147483647=0:=by grind
   clear J s E R;generalize(((a.am.a0-1)*4294967296+a.am.eg.toNat:Nat):Int)=x at M u Q⊢;generalize D:((a.am.a0-1:Nat):Int)=y at u V S⊢;by_cases h0:y=0
   ·clear D;subst h0;refine⟨nq+140,?_⟩;walk_nrm
    repeat q_go
    q_leave1 func76
    repeat q_go
    refine QuitsD.unwind_mark .enable rfl Aa rfl func71 oq ot ou ov ?_;simp only[deafBehind_enable1];q_leave0 func49
    repeat q_go
    exact QuitsD.leaveD rfl rfl func51 rfl H (JR F _)
   ·have P:decide (0<y)=true:=by grind
    clear D;refine⟨nq+140,?_⟩;walk_nrm
    repeat q_go
    q_leave1 func76
    repeat q_go
    refine QuitsD.unwind_mark .enable rfl Aa rfl func71 oq ot ou ov ?_;simp only[deafBehind_enable1];q_leave0 func49
    repeat q_go
    exact QuitsD.leaveD rfl rfl func51 rfl H (JR F _)
  ·have s:a.am.eg=true:=by grind
   have Q:bits .and .u64 (((a.am.a0-1)*4294967296+a.am.eg.toNat:Nat):Int) 2147483647=1:=AU;have h2:2<=a.am.a0:=E.resolve_left AU;clear J s E R;generalize(((a.am.a0-1)*4294967296+a.am.eg.toNat:Nat):Int)=x at M u Q⊢;generalize D:((a.am.a0-1:Nat):Int)=y at u V S⊢;have P:decide (0<y)=true:=AU;clear D;refine⟨nq+140,?_⟩;walk_nrm
   repeat q_go
   q_leave1 func76
   repeat q_go
   refine QuitsD.unwind_mark .enable rfl Aa rfl func71 oq ot ou ov ?_;simp only[deafBehind_enable1];q_leave0 func49
   repeat q_go
   exact QuitsD.leaveD rfl rfl func51 rfl H (JR F _)
end
end
end vp
end Go.Proofs.YtoehnnefaeoeoaaGreat
