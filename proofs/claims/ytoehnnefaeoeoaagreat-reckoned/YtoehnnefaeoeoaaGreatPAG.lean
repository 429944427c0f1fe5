import Derived.Test.YtoehnnefaeoeoaaGreatPAD
set_option linter.all false
set_option maxRecDepth 100000
set_option maxHeartbeats 16000000
namespace Go.Proofs.YtoehnnefaeoeoaaGreat
open Go.Proofs.Tryz
namespace ba
open Conc RowKit Conc.Lib ConcR.Gen ConcM az bu ab
variable {w':World}{v:Int}
theorem yQ{A:e_}{Q:Program}{Stop:Bool->ab.av A.ar->a6->Prop}{m:Bool}{l:ab.av A.ar}{γ:ab.aT A.aQ}{X:a6}(G:A.Good)(d:dX (ah A) l γ X w'){g1:Goroutine}{y:bP}{m1:bk}{f1:Nat}
 (c:stepG Q m X.g w'=.go g1 (w'.setCell (ab.fI A) (.int .i32 v)) #[⟨.cell (ab.fI A),false,true⟩,⟨.cell (ab.fI A),true,true⟩]) (b:v=(m1.word:Int)) (hrun:g1.status=.running) (hd:0<l.deaf) (e:m1.sema=γ.aC.sema) (hl:¬A.left l.am)
 (ht:l2 l.bB y γ.aC m1 l.fuel f1) (a:l.cD=true->y=.own) (h:bh (ah A) Q Stop m ({l with bB:=y,fuel:=f1}:ab.av A.ar) ({γ with aC:=m1,be:=γ.be-1}:ab.aT A.aQ) ⟨g1,w'.setCell (ab.fI A) (.int .i32 (m1.word:Int)),X.mine⟩):
 iq (Z:=ah A) Q Stop m l γ X w':=by
 grind[ak7]
theorem NJ{A:e_}{Q:Program}{Stop:Bool->ab.av A.ar->a6->Prop}{m:Bool}{l:ab.av A.ar}{γ:ab.aT A.aQ}{X:a6}(G:A.Good)(e:dX (ah A) l γ X w'){g1:Goroutine}{y:bP}{m1:bk}{f1:Nat}
 (d:stepG Q m X.g w'=.go g1 (w'.setCell (ab.k7 A) (.int .u32 v)) (semEvents (ab.k7 A))) (c:v=(m1.sema:Int)) (hrun:g1.status=.running) (f:m1.word=γ.aC.word) (hl:¬A.left l.am)
 (ht:l2 l.bB y γ.aC m1 l.fuel f1) (b:l.cD=true->y=.own) (a:mayWake Q X.g=true\/0<γ.aC.sema)
 (h:bh (ah A) Q Stop m ({l with bB:=y,fuel:=f1}:ab.av A.ar) ({γ with aC:=m1,be:=γ.be-1}:ab.aT A.aQ) ⟨g1,w'.setCell (ab.k7 A) (.int .u32 (m1.sema:Int)),X.mine⟩):iq (Z:=ah A) Q Stop m l γ X w':=by
 grind[ak8]
theorem vo{A:e_}{mine:Nat->Prop}(h:∀b,A.K b\/mine b->b≠A.st)(w:World)(off:Nat)(sp)(v:Value):U (ah A) mine w (w.setCell ⟨A.st,off,sp⟩ v):=
 ⟨fun b a=>mw w _ v (h b a),Bp,.refl _,rfl,rfl⟩
variable {w:World}{bX it kk old:Int}
section
variable {A:e_} {Stop:Bool->ab.av A.ar->a6->Prop} {m:Bool} {mine:Nat->Prop}
variable {b₁:Frame} {a₁:Act} {aG:Array Oper} {i₁:Nat} {aP:List Nat} {k₁:List Item} {cs₁:List Frame}
theorem apd(G:A.Good){f:Nat}{a:A.ar}{γ:ab.aT A.aQ}{aw:Bool}(hl:¬A.left a)(fo:A.d4<256)(E:bits .and .i32 old 4=4)(F:bits .and .i32 old 3=0)(C:old / 8=kk)(z:(kk==0)=false)(v:∀b,A.K b\/mine b->b≠A.st)
 (u:Behind A Stop m mine b₁ a₁ aG i₁ aP k₁ cs₁ f a w):
 xT A Stop m mine b₁ a₁ aG i₁ aP k₁ cs₁ ⟨.hand,false,1,f+3,a⟩ γ bX false aw it old w:=by
 unfold xT;intros
 have hF:=U.refl (ah A) mine w;simp only[f126,Option.getD_some,cS,iQ,cH,fK,Nat.reduceBEq,Bool.false_eq_true,↓reduceIte];refine a5 (aN G) Js 300 _ _ γ Jt ?_;repeat w_go U.trans
 refine dj rfl hF fun l e j i p d g c hF=>?_;obtain⟨aU,B,hi,n⟩:=c.sees;obtain⟨hS,x,D,s,_⟩:=n.lC.Db (Ba hi);have r:d.aC.k<256:=by have:=n.lC.F1;have:=n.len;grind
 have t:γ.aC.k<=d.aC.k:=by
  have o:=(aN G).trans _ _ _ _ i g;rcases o with o|⟨_,_,o⟩
  ·grind
  ·exact o.1 rfl
 have q:=S0 d.aC r s x hS true;simp only[↓reduceIte]at q;refine yQ G c (y:=.own) (m1:={d.aC with L:=true,k:=d.aC.k-1,S:= !true}) (f1:=f+2) (stepG_add_atomic rfl rfl Bc rfl func127 D5 D6 D7 .i32 D8 rfl rfl (ks c.mt.1) (pA c.mt.1 0 none)) q rfl Aa rfl hl (Ro true Aa KI) Aa ?_;replace hF:=U.trans hF (vo (A:=A) (mine:=mine) v p 0 none (.int .i32 ((({d.aC with L:=true,k:=d.aC.k-1,S:= !true}:bk).word:Nat):Int)));clear hi n q r t;clear c g i e;refine a5 (aN G) Js 200 _ _ _ Jt ?_;walk_nrm
 repeat w_go U.trans
 refine dj rfl hF fun l e j i p d g c hF=>?_;refine sq G c K0 (stepG_mark0 .enable Aa rfl rfl Bc rfl func71 oq ot ou ov) rfl hl (sn (f1:=f+1) KI _) Aa rfl ?_;clear c g i e;refine a5 (aN G) Js 200 _ _ _ Jt ?_;walk_nrm
 repeat w_go U.trans
 refine dj rfl hF fun l e j i p d g c hF=>?_;refine k8 (BJ rfl rfl Bc rfl rfl (ks c.mt.1)) rfl rfl (.refl _) rfl rfl ?_;clear c g i e;refine a5 (aN G) Js 200 _ _ _ Jt ?_;walk_nrm
 repeat w_go U.trans
 refine dj rfl hF fun l e j i p d g c hF=>?_;refine IP G c (f1:=f) (stepG_markAt .acquire Aa rfl rfl Bc rfl func84 BF BG BH BI CX) rfl hl rfl rfl rfl KI ?_;clear c g i e;refine a5 (aN G) Js 200 _ _ _ Jt ?_;walk_nrm
 repeat w_go U.trans
 u_leave0 func126 U.trans hF
 repeat w_go U.trans
 exact Goes.stop (fun l e=>⟨rfl,fun j _=>u l j (U.trans hF e)⟩)
theorem ape(G:A.Good){f:Nat}{a:A.ar}{γ:ab.aT A.aQ}{aw:Bool}(hl:¬A.left a)(fo:A.d4<256)(E:bits .and .i32 old 4=4)(F:bits .and .i32 old 3=0)(C:old / 8=kk)(z:(kk==0)=false)(r:(kk==1)=true)(v:∀b,A.K b\/mine b->b≠A.st)
 (u:Behind A Stop m mine b₁ a₁ aG i₁ aP k₁ cs₁ f a w):
 xT A Stop m mine b₁ a₁ aG i₁ aP k₁ cs₁ ⟨.hand,false,1,f+3,a⟩ γ bX true aw it old w:=by
 unfold xT;intros
 have hF:=U.refl (ah A) mine w;simp only[f126,Option.getD_some,cS,iQ,cH,fK,Nat.reduceBEq,Bool.false_eq_true,↓reduceIte];refine a5 (aN G) Js 300 _ _ γ Jt ?_;repeat w_go U.trans
 refine dj rfl hF fun l e j i p d g c hF=>?_;obtain⟨aU,B,hi,n⟩:=c.sees;obtain⟨hS,x,D,r,_⟩:=n.lC.Db (Ba hi);have s:d.aC.k<256:=by have:=n.lC.F1;have:=n.len;grind
 have t:γ.aC.k<=d.aC.k:=by
  have o:=(aN G).trans _ _ _ _ i g;rcases o with o|⟨_,_,o⟩
  ·grind
  ·exact o.1 rfl
 have q:=S0 d.aC s r x hS true;simp only[↓reduceIte]at q;refine yQ G c (y:=.own) (m1:={d.aC with L:=true,k:=d.aC.k-1,S:= !true}) (f1:=f+2) (stepG_add_atomic rfl rfl Bc rfl func127 D5 D6 D7 .i32 D8 rfl rfl (ks c.mt.1) (pA c.mt.1 0 none)) q rfl Aa rfl hl (Ro true Aa KI) Aa ?_;replace hF:=U.trans hF (vo (A:=A) (mine:=mine) v p 0 none (.int .i32 ((({d.aC with L:=true,k:=d.aC.k-1,S:= !true}:bk).word:Nat):Int)));clear hi n q s t;clear c g i e;refine a5 (aN G) Js 200 _ _ _ Jt ?_;walk_nrm
 repeat w_go U.trans
 refine dj rfl hF fun l e j i p d g c hF=>?_;refine sq G c K0 (stepG_mark0 .enable Aa rfl rfl Bc rfl func71 oq ot ou ov) rfl hl (sn (f1:=f+1) KI _) Aa rfl ?_;clear c g i e;refine a5 (aN G) Js 200 _ _ _ Jt ?_;walk_nrm
 repeat w_go U.trans
 refine dj rfl hF fun l e j i p d g c hF=>?_;refine k8 (BJ rfl rfl Bc rfl rfl (ks c.mt.1)) rfl rfl (.refl _) rfl rfl ?_;clear c g i e;refine a5 (aN G) Js 200 _ _ _ Jt ?_;walk_nrm
 repeat w_go U.trans
 refine dj rfl hF fun l e j i p d g c hF=>?_;refine IP G c (f1:=f) (stepG_markAt .acquire Aa rfl rfl Bc rfl func84 BF BG BH BI CX) rfl hl rfl rfl rfl KI ?_;clear c g i e;refine a5 (aN G) Js 200 _ _ _ Jt ?_;walk_nrm
 repeat w_go U.trans
 u_leave0 func126 U.trans hF
 repeat w_go U.trans
 exact Goes.stop (fun l e=>⟨rfl,fun j _=>u l j (U.trans hF e)⟩)
theorem apf(G:A.Good){f:Nat}{a:A.ar}{γ:ab.aT A.aQ}{aw:Bool}(hl:¬A.left a)(fo:A.d4<256)(E:bits .and .i32 old 4=4)(F:bits .and .i32 old 3=0)(C:old / 8=kk)(z:(kk==0)=false)(r:(kk==1)=false)(H:2<=γ.aC.k)(v:∀b,A.K b\/mine b->b≠A.st)
 (u:Behind A Stop m mine b₁ a₁ aG i₁ aP k₁ cs₁ f a w):
 xT A Stop m mine b₁ a₁ aG i₁ aP k₁ cs₁ ⟨.hand,false,1,f+3,a⟩ γ bX true aw it old w:=by
 unfold xT;intros
 have hF:=U.refl (ah A) mine w;simp only[f126,Option.getD_some,cS,iQ,cH,fK,Nat.reduceBEq,Bool.false_eq_true,↓reduceIte];refine a5 (aN G) Js 300 _ _ γ Jt ?_;repeat w_go U.trans
 refine dj rfl hF fun l e j i p d g c hF=>?_;obtain⟨aU,B,hi,n⟩:=c.sees;obtain⟨hS,x,D,r,_⟩:=n.lC.Db (Ba hi);have s:d.aC.k<256:=by have:=n.lC.F1;have:=n.len;grind
 have t:γ.aC.k<=d.aC.k:=by
  have o:=(aN G).trans _ _ _ _ i g;rcases o with o|⟨_,_,o⟩
  ·grind
  ·exact o.1 rfl
 have q:=S0 d.aC s r x hS false;simp only[Bool.false_eq_true,↓reduceIte]at q;refine yQ G c (y:=.own) (m1:={d.aC with L:=true,k:=d.aC.k-1,S:= !false}) (f1:=f+2) (stepG_add_atomic rfl rfl Bc rfl func127 D5 D6 D7 .i32 D8 rfl rfl (ks c.mt.1) (pA c.mt.1 0 none)) q rfl Aa rfl hl (Ro false Ay KI) Aa ?_;replace hF:=U.trans hF (vo (A:=A) (mine:=mine) v p 0 none (.int .i32 ((({d.aC with L:=true,k:=d.aC.k-1,S:= !false}:bk).word:Nat):Int)));clear hi n q s t;clear c g i e;refine a5 (aN G) Js 200 _ _ _ Jt ?_;walk_nrm
 repeat w_go U.trans
 refine dj rfl hF fun l e j i p d g c hF=>?_;refine sq G c K0 (stepG_mark0 .enable Aa rfl rfl Bc rfl func71 oq ot ou ov) rfl hl (sn (f1:=f+1) KI _) Aa rfl ?_;clear c g i e;refine a5 (aN G) Js 200 _ _ _ Jt ?_;walk_nrm
 repeat w_go U.trans
 refine dj rfl hF fun l e j i p d g c hF=>?_;refine k8 (BJ rfl rfl Bc rfl rfl (ks c.mt.1)) rfl rfl (.refl _) rfl rfl ?_;clear c g i e;refine a5 (aN G) Js 200 _ _ _ Jt ?_;walk_nrm
 repeat w_go U.trans
 refine dj rfl hF fun l e j i p d g c hF=>?_;refine IP G c (f1:=f) (stepG_markAt .acquire Aa rfl rfl Bc rfl func84 BF BG BH BI CX) rfl hl rfl rfl rfl KI ?_;clear c g i e;refine a5 (aN G) Js 200 _ _ _ Jt ?_;walk_nrm
 repeat w_go U.trans
 u_leave0 func126 U.trans hF
 repeat w_go U.trans
 exact Goes.stop (fun l e=>⟨rfl,fun j _=>u l j (U.trans hF e)⟩)
end
theorem S1{A:e_}{l:ab.av A.ar}{γ:ab.aT A.aQ}(h:hX (ah A) l γ):l.fuel<=γ.be:=by obtain⟨aU,i,hi,a⟩:∃(aU:List (ab.av A.ar))(i:Nat),aU[i]?=some l/\u_ A γ aU:=h;have:=Mt (aU.map (·.fuel)) i l.fuel AU;have:=a.dO;omega
theorem aaZ{A:e_}(fo:A.d4<256){l:ab.av A.ar}{γ:ab.aT A.aQ}(h:hX (ah A) l γ):γ.aC.k<256:=by obtain⟨aU,i,hi,a⟩:=h;have c:=a.lC.F1;have b:=a.len;grind
theorem NK{A:e_}{l:ab.av A.ar}{γ:ab.aT A.aQ}(h:hX (ah A) l γ)(b:l.bB=.jl):γ.aC.S=false/\γ.aC.W=true:=by obtain⟨aU,i,hi,a⟩:=h;have:=a.lC.YH (i:=i) AU;grind
theorem apg{A:e_}{l:ab.av A.ar}{γ:ab.aT A.aQ}(h:hX (ah A) l γ)(b:l.bB=.hand):γ.aC.S=true/\γ.aC.L=false/\γ.aC.W=false/\1<=γ.aC.k:=by obtain⟨aU,i,hi,a⟩:=h;have:=a.lC.Db (i:=i) AU;grind
theorem Ab{m n:bk}(h:m.word=n.word):m.L=n.L/\m.W=n.W/\m.S=n.S/\m.k=n.k:=by have a1:m.L.toNat<=1:=Bool.toNat_le _;have i:m.W.toNat<=1:=Bool.toNat_le _;have g:m.S.toNat<=1:=Bool.toNat_le _;have b1:n.L.toNat<=1:=Bool.toNat_le _;have j:n.W.toNat<=1:=Bool.toNat_le _;have c:n.S.toNat<=1:=Bool.toNat_le _;unfold bk.word at h;have f:m.L.toNat=n.L.toNat:=Ay;have e:m.W.toNat=n.W.toNat:=Ay;have d:m.S.toNat=n.S.toNat:=Ay;have key:∀a b:Bool,a.toNat=b.toNat->a=b:=AW;grind
section
variable {A:e_} {Stop:Bool->ab.av A.ar->a6->Prop} {m:Bool} {mine:Nat->Prop}
variable {b₁:Frame} {a₁:Act} {aG:Array Oper} {i₁:Nat} {aP:List Nat} {k₁:List Item} {cs₁:List Frame}
theorem aph(G:A.Good){f:Nat}{a:A.ar}{γ:ab.aT A.aQ}{sv aw:Bool}(hl:¬A.left a)(fo:A.d4<256)(j:∀b,A.K b\/mine b->b≠A.st)(c:hX (ah A) ⟨.hand,false,1,f+3,a⟩ γ)
 (g:Behind A Stop m mine b₁ a₁ aG i₁ aP k₁ cs₁ f a w):xT A Stop m mine b₁ a₁ aG i₁ aP k₁ cs₁ ⟨.hand,false,1,f+3,a⟩ γ bX sv aw it (γ.aC.word:Int) w:=by
 have k:=aaZ fo c;obtain⟨hS,p,n,o⟩:=apg c rfl;have h:bits .and .i32 (γ.aC.word:Int) 4=4:=by grind[JA]
 have i:bits .and .i32 (γ.aC.word:Int) 3=0:=by grind[ao4]
 have e:=JC γ.aC;have d:(((γ.aC.k:Nat):Int)==0)=false:=AU;cases sv with
 |false=>simp_all[apd]
 |true=>
  by_cases l:γ.aC.k=1
  ·simp_all[ape]
  ·exact apf G hl fo h i e d AU Ay j g
theorem api(G:A.Good){f:Nat}{a:A.ar}{γ:ab.aT A.aQ}{sv aw:Bool}(hl:¬A.left a)(fo:A.d4<256)(s:∀b,A.K b\/mine b->b≠A.st)
 (x:∀w' g i,g.be<γ.be->U (ah A) mine w w'->hX (ah A) ⟨.jl,false,1,f+3,a⟩ g->sK A Stop m mine b₁ a₁ aG i₁ aP k₁ cs₁ ⟨.jl,false,1,f+3,a⟩ g bX i true 0 (g.aC.word:Int) w')
 (z:Behind A Stop m mine b₁ a₁ aG i₁ aP k₁ cs₁ f a w):NI A Stop m mine b₁ a₁ aG i₁ aP k₁ cs₁ ⟨.j7,false,1,f+2,a⟩ γ bX sv aw it old w:=by
 unfold NI;intros
 have hF:=U.refl (ah A) mine w;refine bh.mk rfl (fun D d H c=>?_);replace hF:=U.trans hF (dX.rw c);have E:d.be<=γ.be:=by grind
 have F:f+2<=d.be:=S1 c.sees;by_cases h0:d.aC.sema=0
 ·refine .wait (stepG_semacquire_wait (ad:=ab.k7 A) rfl rfl rfl func147 SR SS SU SV CX ?_) rfl (.inl ⟨rfl,h0⟩) K4;have:=IN c.mt.1;grind
 have t:((d.aC.sema:Nat):Int)-1=((d.aC.sema-1:Nat):Int):=Ay;have q:=vo (A:=A) (mine:=mine) s D 1 none (.int .u32 ((d.aC.sema-1:Nat):Int));cases hS:d.aC.S with
 |false=>
  refine NJ G c (y:=.jl) (m1:={d.aC with sema:=d.aC.sema-1}) (f1:=f+3) (stepG_semacquire rfl rfl Bc rfl func147 SR SS SU SV CX (IN c.mt.1) Ay (pA c.mt.1 1 none)) t rfl rfl hl (akU hS Ay Aa) Aa (.inr Ay) ?_;clear c;refine a5 (aN G) Js 200 _ _ _ Jt ?_;replace hF:=U.trans hF q;u_c stepG_region_end U.trans hF
  refine Goes.stop (fun B k=>⟨rfl,fun r u=>?_⟩);replace hF:=U.trans hF k;have C:r.be<γ.be:=by grind
  exact aaY G (fun w' g i p n l=>apc G (by grind[JA,aaZ,NK]) (fun j o=>x j g i (p.elim (fun e=>AU) (fun e=>Nat.lt_trans e C)) (U.trans hF (U.trans n o)) l)) ..
 |true=>
  refine NJ G c (y:=.hand) (m1:={d.aC with sema:=d.aC.sema-1}) (f1:=f+3) (stepG_semacquire rfl rfl Bc rfl func147 SR SS SU SV CX (IN c.mt.1) Ay (pA c.mt.1 1 none)) t rfl rfl hl (akV hS Ay Aa) Aa (.inr Ay) ?_;clear c;refine a5 (aN G) Js 200 _ _ _ Jt ?_;replace hF:=U.trans hF q;u_c stepG_region_end U.trans hF
  refine Goes.stop (fun B k=>⟨rfl,fun r u=>?_⟩);replace hF:=U.trans hF k;exact aaY G (fun w' g i p n l=>aph G hl fo s l (fun j v o=>z j v (U.trans hF (U.trans n o)))) ..
theorem Gw(G:A.Good){f dO:Nat}{x y:bP}{a:A.ar}{γ:ab.aT A.aQ}{new:Int}{sv aw:Bool}{o:bk}(hl:¬A.left a)(u:∀b,A.K b\/mine b->b≠A.st)(v:1<=dO)(g:bk->bk)
 (ht:∀aC:bk,aC.word=o.word->l2 x y aC (g aC) dO (f+2)/\((g aC).word:Int)=new/\(g aC).sema=aC.sema)
 (D:∀w' d,d.be<γ.be->U (ah A) mine w w'->xR A Stop m mine b₁ a₁ aG i₁ aP k₁ cs₁ ⟨y,false,1,f+2,a⟩ d bX sv aw it (o.word:Int) true w')
 (C:∀w' d,(d=γ\/d.be<γ.be)->d.aC.word≠o.word->U (ah A) mine w w'->xR A Stop m mine b₁ a₁ aG i₁ aP k₁ cs₁ ⟨x,false,1,dO,a⟩ d bX sv aw it (o.word:Int) false w'):
 rQ A Stop m mine b₁ a₁ aG i₁ aP k₁ cs₁ ⟨x,false,1,dO,a⟩ γ bX sv aw it (o.word:Int) new w:=by
 unfold rQ;intros
 have hF:=U.refl (ah A) mine w;refine bh.mk rfl (fun z e B c=>?_);replace hF:=U.trans hF (dX.rw c);have q:=(aN G).mq _ _ _ B;have E:dO<=e.be:=S1 c.sees;by_cases j:e.aC.word=o.word
 ·obtain⟨t,s,r⟩:=ht e.aC j;have n:=ks c.mt.1;rw[j]at n;refine yQ G c (y:=y) (m1:=g e.aC) (f1:=f+2) (stepG_cas_hit rfl rfl Bc rfl func125 z7 z8 z9 .i32 z_ rfl rfl rfl n (pA c.mt.1 0 none)) s.symm rfl Aa r hl t Aa ?_;replace hF:=U.trans hF (vo (A:=A) (mine:=mine) u z 0 none (.int .i32 ((g e.aC).word:Int)));clear c;refine a5 (aN G) Js 200 _ _ _ Jt ?_;u_c stepG_region_end U.trans hF
  refine Goes.stop (fun k i=>⟨rfl,fun p l=>?_⟩);exact D k p (by
   grind) (U.trans hF i) ..
 ·refine Mw (stepG_cas_miss rfl rfl Bc rfl func125 z7 z8 z9 .i32 z_ rfl rfl rfl (ks c.mt.1) (pA c.mt.1 0 none) Ay) rfl Aa ?_;clear c;refine a5 (aN G) Js 200 _ _ _ Jt ?_;u_c stepG_region_end U.trans hF
  exact Goes.stop (fun k i=>⟨rfl,fun p l=>(C k e q j (U.trans hF i) ..).k5 (aN G) l⟩)
end
end ba
end Go.Proofs.YtoehnnefaeoeoaaGreat
