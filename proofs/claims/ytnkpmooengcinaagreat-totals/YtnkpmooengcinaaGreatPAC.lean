import Derived.Conc.HoldsTime
import Derived.WalkSpells
import Derived.WalkLawsBesides
import Derived.RangeFuncNested
import Derived.Deep.AppendLies
import Derived.Test.YtnkpmooengcinaaGreatPAB
set_option linter.all false
set_option maxRecDepth 100000
set_option maxHeartbeats 16000000
namespace Go.Proofs.YtnkpmooengcinaaGreat
abbrev cC(w v:Go.World):Prop:=Go.RowKit.Below w.heap.size w v
def vaa:=@Go.RowKit.Below.refl
def vam:=@Go.World.cell?_of_block
def vao:=@Go.World.putObj_heap_other
def vav:=@Go.RowKit.Below.heap_setCell
def vbe:=@Go.bodyPost_ret
def vbm:=@Go.World.alloc_heap_new
def vbo:=@Go.World.ownsRow_nil
def vbp:=@Go.Conc.mem_listed
def vbs:=@Go.Conc.stepG_mark0
def vbt:=@Go.info_parts
def vbv:=@Go.Conc.stepG_unwind_enter
def vcb:=@Go.Oper.semAt_some
def vce:=@Go.World.size_alloc
def vcf:=@Go.Conc.enter_at
def vck:=@Go.Conc.stepG_markAt
def vcm:=@Go.callsIn_of_wp_marks
def vcn:=@Go.Conc.seen_none
def vcw:=@Go.run_takeDeferred
def vcx:=@Go.KeepsOthers.setCell
def vda:=@Go.Addr.add_lit
def vdf:=@Go.World.putObj_heap_same
def vdj:=@Go.ownsRow_succ
def vdt:=@Go.callsIn_of_wp
def vdv:=@Go.Conc.goes_leave0
def vea:=@Go.callsIn_wide
namespace av
def rW:Option Code->Bool
 |none=>true
 |some .ret=>true
 | _=>false
variable{aO fr:Frame}{b0 bb cs:fA}{w w' w1:aH}{g1:uai}{lM:uav}
section
variable{C:cy}{S:Sync}{ρ:Ren}
theorem ahv{main main':Bool}{base:fA}{l a:Nat}(jump:Option Code)(t:∀c,jump=some c->C.fF c)(o:ep C ρ fr aO)(k:iV C ρ cs bb)(n:iW fr cs)(s:eo C S ρ w w')(q:fr.roundOf=some l)(m:aO.roundOf=some a)(h:GStep.after (seen C.P fr.fn ((Instr.endRound l jump).events C.P w #[])) (match(Instr.endRound l jump).run C.P w with
  | .ok v w=>doReturn C.P main fr (cs++b0) none v w
  | .halt _ w=>.ended (.stuck "range over a function: no such loop" (fr.pos C.P)) w)=.go g1 w1 lM)(f:(iF (match(Instr.endRound a jump).run C.Q w' with
  | .ok v w=>doReturn C.Q main' aO (bb++base) none v w
  | .halt _ w=>.ended (.stuck "range over a function: no such loop" (aO.pos C.Q)) w)).drawn<=S.bound):
 iG C S ρ b0 base w' g1 w1 (GStep.after (seen C.Q aO.fn ((Instr.endRound a jump).events C.Q w' #[])) (match(Instr.endRound a jump).run C.Q w' with
  | .ok v w=>doReturn C.Q main' aO (bb++base) none v w
  | .halt _ w=>.ended (.stuck "range over a function: no such loop" (aO.pos C.Q)) w)):=by
 have B:ρ.rel l a:=by have:=o.roundOf;rw[q,m]at this;cases this;grind
 obtain⟨E,i⟩:=zH h;have jQ:Good ((Instr.endRound l jump).run C.P w):=by cases b:(Instr.endRound l jump).run C.P w with|ok v w2=>trivial|halt x w2=>grind
 have z:(kU ((Instr.endRound a jump).run C.Q w')).drawn<=S.bound:=by cases b:(Instr.endRound a jump).run C.Q w' with|ok v w2=>rw[b]at f;simp only[V0]at f;exact f|halt x w2=>rw[b]at f;exact f
 obtain⟨σ,D,j,g,A⟩:=agZ B jump t S w w' s jQ z;obtain⟨d,hd,p⟩:=A #[];rw[vcq]at hd;rw[hd];refine iG.after g (λe u=>p e (xr u)) ?_;generalize(Instr.endRound l jump).run C.P w=r at j i;generalize(Instr.endRound a jump).run C.Q w'=r' at j;cases j with
 |ok hv fS=>cases k with|nil=>have:=n.2;grind|cons y b=>exact V6 (o.mono g.le) (y.mono g.le) (iV.mono g.le b) n.Pa fS hv i
 |panic hv fS=>cases i
 |goexit fS=>cases i
def K1{main main':Bool}{base:fA}(jump:Option Code)(p:∀c,jump=some c->C.fF c)(g:ep C ρ fr aO)(e:iV C ρ cs bb)(k:iW fr cs)(j:eo C S ρ w w')(L d:GStep)(n:fr.roundOf=none->L=(if rW jump=true then .go {frame:={fr with mode:=.returning},callers:=cs++b0,status:=.running,dying:=none} w else .ended (.stuck "exit, goto: no such block or label" (fr.pos C.P)) w))(r:∀l,fr.roundOf=some l->L=GStep.after (seen C.P fr.fn ((Instr.endRound l jump).events C.P w #[])) (match(Instr.endRound l jump).run C.P w with
  | .ok v w=>doReturn C.P main fr (cs++b0) none v w
  | .halt _ w=>.ended (.stuck "range over a function: no such loop" (fr.pos C.P)) w))(f:aO.roundOf=none->d=(if rW jump=true then .go {frame:={aO with mode:=.returning},callers:=bb++base,status:=.running,dying:=none} w' else .ended (.stuck "exit, goto: no such block or label" (aO.pos C.Q)) w'))(m:∀l,aO.roundOf=some l->d=GStep.after (seen C.Q aO.fn ((Instr.endRound l jump).events C.Q w' #[])) (match(Instr.endRound l jump).run C.Q w' with
  | .ok v w=>doReturn C.Q main' aO (bb++base) none v w
  | .halt _ w=>.ended (.stuck "range over a function: no such loop" (aO.pos C.Q)) w))(h:L=.go g1 w1 lM)(q:(iF d).drawn<=S.bound):iG C S ρ b0 base w' g1 w1 d:=by
 have b:=g.roundOf;cases h0:fr.roundOf with
 |none=>
  cases a:aO.roundOf with
  |some l=>rw[h0,a]at b;cases b
  |none=>
   rw[n h0]at h;rw[f a];split at h
   .rename_i i;rw[vdi i];cases h;exact rV (fr:=fr) e k j U U (g.uk .returning)
   grind
 |some l=>cases a:aO.roundOf with|none=>rw[h0,a]at b;cases b|some o=>grind[zF,ahv]
theorem ahy(j:C.Good){main':Bool}{base:fA}(z:ep C ρ fr aO)(p:iV C ρ cs bb)(F:iW fr cs)(E:eo C S ρ w w')(h:stepG.exec C.P true true fr (cs++b0) none w=.go g1 w1 lM)(hrun:g1.status=.running)(T:g1.dying=none)(g:(iF (stepG.exec C.Q main' true aO (bb++base) none w')).drawn<=S.bound):
 iG C S ρ b0 base w' g1 w1 (stepG.exec C.Q main' true aO (bb++base) none w'):=by
 have ht:=z.todo;have nL:=z.eval E.nc;have a7:∀{t cF:uab},mL C ρ t cF->iG C S ρ b0 base w' (bf {fr with todo:=t} (cs++b0)) w (.go (bf {aO with todo:=cF} (bb++base)) w'):=λu=>rV (fr:=fr) p F E rfl rfl (z.xt u);cases m:fr.todo with
 |nil=>
  cases q:aO.todo with
  |cons a l=>rw[m,q]at ht;cases ht
  |nil=>
   refine K1 (main:=true) (main':=main') none (λc e=>DG) z p F E (stepG.exec C.P true true fr (cs++b0) none w) _ ?_ ?_ ?_ ?_ h g
   .grind[stepG.exec,rW]
   .grind[stepG.exec,Sem.runT_eq]
   .grind[stepG.exec,rW]
   grind[stepG.exec,Sem.runT_eq]
 |cons i k=>
  cases q:aO.todo with
  |nil=>rw[m,q]at ht;cases ht
  |cons i' k'=>
   rw[m,q]at ht;cases ht with
   |cons hi hk=>
    cases hi with
    |@code c hok=>
     have A:=(j.ou c).1 hok;cases c with
     |skip=>unfold stepG.exec at h⊢;simp only[m]at h;simp only[q];cases h;exact a7 hk
     |label l=>unfold stepG.exec at h⊢;simp only[m]at h;simp only[q];cases h;exact a7 hk
     |seq a b=>simp only[jP,vae]at A;unfold stepG.exec at h⊢;simp only[m]at h;simp only[q];cases h;exact a7 (.cons (.code ((j.ou _).2 A.1)) (.cons (.code ((j.ou _).2 A.2)) hk))
     |cond c a b=>
      simp only[jP,vae]at A;unfold stepG.exec at h⊢;simp only[m]at h;simp only[q];have hv:=nL c A.1.1;generalize fr.eval c=v at h hv;generalize aO.eval c=v' at hv;cases hv with
      |bool b=>
       cases h;refine a7 (.cons (.code ?_) hk);cases b
       .exact(j.ou _).2 A.2
       .exact(j.ou _).2 A.1.2
      | _=>cases h
     |block id b=>unfold stepG.exec at h⊢;simp only[m]at h;simp only[q];cases h;exact a7 (.cons (.code ((j.ou _).2 A)) (.cons (.inBlock id) hk))
     |loop b=>unfold stepG.exec at h⊢;simp only[m]at h;simp only[q];cases h;exact a7 (.cons (.code ((j.ou _).2 A)) (.cons (.inLoop ((j.ou _).2 A)) hk))
     |scope b=>unfold stepG.exec at h⊢;simp only[m]at h;simp only[q];cases h;exact a7 (.cons (.code ((j.ou _).2 A)) (.cons (.inScope ((j.ou _).2 A)) hk))
     |refuse s=>grind[stepG.exec]
     |ret=>
      refine K1 (main:=true) (main':=main') (some .ret) Js z p F E (stepG.exec C.P true true fr (cs++b0) none w) _ ?_ ?_ ?_ ?_ h g
      .grind[stepG.exec,rW]
      .grind[stepG.exec,Sem.runT_eq]
      .grind[stepG.exec,rW]
      grind[stepG.exec,Sem.runT_eq]
     |exit id=>
      have u:=aho id hk;cases N:exitTo id k with
      |some t=>cases K:exitTo id k' with|none=>rw[N,K]at u;cases u|some cF=>rw[N,K]at u;cases u with|some u=>unfold stepG.exec at h⊢;simp only[m,N,vdo]at h;simp only[q,K,vdo];cases h;exact a7 u
      |none=>
       cases K:exitTo id k' with
       |some t=>rw[N,K]at u;cases u
       |none=>
        refine K1 (main:=true) (main':=main') (some (.exit id)) Js z p F E (stepG.exec C.P true true fr (cs++b0) none w) _ ?_ ?_ ?_ ?_ h g
        .grind[stepG.exec]
        .grind[stepG.exec,Sem.runT_eq]
        .grind[stepG.exec,rW]
        grind[stepG.exec,Sem.runT_eq]
     |goto id=>
      have u:=ahr j.ou id hk;cases N:gotoIn id k with
      |some t=>cases K:gotoIn id k' with|none=>rw[N,K]at u;cases u|some cF=>rw[N,K]at u;cases u with|some u=>unfold stepG.exec at h⊢;simp only[m,N,vdo]at h;simp only[q,K,vdo];cases h;exact a7 u
      |none=>
       cases K:gotoIn id k' with
       |some t=>rw[N,K]at u;cases u
       |none=>
        refine K1 (main:=true) (main':=main') (some (.goto id)) Js z p F E (stepG.exec C.P true true fr (cs++b0) none w) _ ?_ ?_ ?_ ?_ h g
        .grind[stepG.exec]
        .grind[stepG.exec,Sem.runT_eq]
        .grind[stepG.exec,rW]
        grind[stepG.exec,Sem.runT_eq]
     |region id ops draw=>
      simp only[jP,vap]at A;unfold stepG.exec at h g⊢;simp only[m]at h;simp only[q]at g⊢;cases draw with
      |false=>simp only[Bool.not_false,vbx]at h⊢;cases h;exact a7 (.cons (.inRegion A _) hk)
      |true=>
       simp only[Bool.not_true,vai,vcj]at h g⊢;have eq:(Question.order aO.fn id)=.order fr.fn id:=by rw[z.fn]
       rw[eq]at g⊢;rw[j.follows];have Q:(kU ((Go.choose (.order fr.fn id)).run C.Q w')).drawn<=S.bound:=by cases I:(Go.choose (.order fr.fn id)).run C.Q w' with|ok v w2=>rw[I]at g;exact g|halt x w2=>rw[I]at g;exact g
       have X:=al.choose (C:=C) (ρ:=ρ) (.order fr.fn id) S w w' E (by unfold Go.choose;simp only[Sem.run,Question.forced];trivial) Q;obtain⟨σ,sY,D,B,_⟩:=X;generalize(Go.choose (.order fr.fn id)).run C.P w=r at D h;generalize(Go.choose (.order fr.fn id)).run C.Q w'=r' at D;cases D with|ok ht fS=>subst ht;cases h;refine⟨σ,_,cs,_,bb,_,_,rfl,rfl,?_,iV.mono B.le p,F.same rfl rfl,fS,B,Ab⟩;exact(z.mono B.le).xt (.cons (.inRegion A _) (mL.mono B.le hk))|panic=>cases h|goexit=>cases h
     |rangeFunc f params assign body=>
      simp only[jP,vae]at A;unfold stepG.exec at h g⊢;simp only[m,vat]at h;simp only[q,vat]at g⊢;obtain⟨sW,J⟩:=zH h;rw[zF]at g;have Pf:=VQ (C:=C) (ρ:=ρ) fr.fn z.known z.tmps params ((j.ou _).2 A.1.2) ((j.ou _).2 A.2) z.roundOf;have Pg:Instr.enterLoop aO.fn aO.tmps params assign body aO.roundOf=Instr.enterLoop fr.fn aO.tmps params assign body aO.roundOf:=by rw[z.fn]
      rw[Pg]at g⊢;have Q:(kU ((Instr.enterLoop fr.fn aO.tmps params assign body aO.roundOf).run C.Q w')).drawn<=S.bound:=by cases I:(Instr.enterLoop fr.fn aO.tmps params assign body aO.roundOf).run C.Q w' with|ok v w2=>rw[I]at g;exact vac (vac (A3 C.Q _ w2).1 (Ez C.Q _ _ none _ w2)) g|halt x w2=>rw[I]at g;exact g
      have jQ:Good ((Instr.enterLoop fr.fn fr.tmps params assign body fr.roundOf).run C.P w):=by cases I:(Instr.enterLoop fr.fn fr.tmps params assign body fr.roundOf).run C.P w with|ok v w2=>trivial|halt x w2=>grind
      obtain⟨σ,sY,D,B,bx⟩:=Pf S w w' E jQ Q;obtain⟨d,hd,U⟩:=bx #[];rw[vcq]at hd;rw[hd];refine iG.after B (λe m=>U e (xr m)) ?_;generalize(Instr.enterLoop fr.fn fr.tmps params assign body fr.roundOf).run C.P w=r at D J;generalize(Instr.enterLoop fr.fn aO.tmps params assign body aO.roundOf).run C.Q w'=r' at D g;cases D with
      |@ok a b xh _ eg fS=>
       obtain⟨l,mark⟩:=a;obtain⟨M,Hz⟩:=b;obtain⟨O,rX⟩:=eg;have H:=z.mono B.le;have kn:ep C σ {fr with todo:=.inRangeFunc l::k,defers:=mark++fr.defers} {aO with todo:=.inRangeFunc M::k',defers:=Hz++aO.defers}:=
        ⟨H.fn,H.known,H.tmps,.cons (.inRangeFunc O) (mL.mono B.le hk),de.append rX H.defers,H.mode,H.kind,H.plain,H.roundOf⟩
       have Ph:=kn.eval fS.nc;refine Pd j.funcs kn (iV.mono B.le p) (F.same rfl rfl) fS ?_ (.inl j.Pe) (j.follows _) J hrun T g;refine .bind (R:=zy) ?_ λaU x y _ hd=>Hx j.same j.EC j.funcs hd.target hd.args;have W:=Ph f A.1.1;simp only[resolve];revert W;generalize Frame.eval _ f=v;generalize Frame.eval _ f=v';intro W;unfold Deferred.ofValue;have hy:aL σ #[Value.func (.yield l) #[] #[]] #[Value.func (.yield M) #[] #[]]:=.one (.Hh (.yield O) (.nil σ) (.nil σ));have lL:aL σ ((#[Operand.const (.func (.yield l) #[] #[])]:uba).map (Frame.eval {fr with todo:=.inRangeFunc l::k,defers:=mark++fr.defers})) ((#[Operand.const (.func (.yield M) #[] #[])]:uba).map (Frame.eval {aO with todo:=.inRangeFunc M::k',defers:=Hz++aO.defers})):=by grind[Frame.eval]
       cases W with|func hN Z h3 h4 a6=>exact .pure ⟨.fn hN ⟨h3,a6⟩,aL.append ⟨Z,h4⟩ lL⟩|nilFunc=>exact .pure ⟨.nil,lL⟩| _=>exact .stuck
      |panic=>cases J
      |goexit=>cases J
    |inBlock id=>unfold stepG.exec at h⊢;simp only[m]at h;simp only[q];cases h;exact a7 hk
    |inScope g=>unfold stepG.exec at h⊢;simp only[m]at h;simp only[q];cases h;exact a7 hk
    |inLoop g=>unfold stepG.exec at h⊢;simp only[m]at h;simp only[q];cases h;exact a7 (.cons (.code g) (.cons (.inLoop g) hk))
    |@inRegion ops Bi todo=>
     cases todo with
     |nil=>unfold stepG.exec at h⊢;simp only[m]at h;simp only[q];cases h;exact a7 hk
     |cons n rest=>
      unfold stepG.exec at h g⊢;simp only[m]at h;simp only[q]at g⊢;rw[<-V5 z.tmps ops]at g⊢;split at h
      .rename_i HA;rw[vdi HA]at g⊢;have V:∃o,ops[n]?=some o:=by grind
       obtain⟨o,D⟩:=V;have Bj:=Bi o (vbf D);have Z:fr.oper?=some o:=FJ;have mN:aO.oper?=some o:=FJ;have L:=z.roundOf;unfold stepG.oper at h g⊢;simp only[Z]at h;simp only[mN]at g⊢;have plain:stepG.apply C.P true fr (cs++b0) none (execOp fr.eval o) w=.go g1 w1 lM->(iF (stepG.apply C.Q true aO (bb++base) none (execOp aO.eval o) w')).drawn<=S.bound->iG C S ρ b0 base w' g1 w1 (stepG.apply C.Q true aO (bb++base) none (execOp aO.eval o) w'):=λu hy=>
        Pd j.funcs z p F E (VZ j.same j.EC j.funcs nL Bj) (.inl j.Pe) (j.follows _) u hrun T hy
       cases h0:fr.roundOf with
       |none=>cases P:aO.roundOf with|some l=>rw[h0,P]at L;cases L|none=>grind
       |some l=>cases P:aO.roundOf with|none=>rw[h0,P]at L;cases L|some M=>rw[h0,P]at L;cases L with|some O=>cases Y:o.op with|defer c=>rw[Y]at Bj;cases Bj| _=>simp only[h0,Y]at h;simp only[P,Y]at g;exact plain h g
      .rename_i HA;rw[vcy HA];cases h;exact rV (fr:=fr) p F E (zG _ _).1 (zG _ _).2 (z.finish (.undef ρ))
    |inRangeFunc O=>grind[stepG.exec]
    |@endRangeFunc l M O=>
     unfold stepG.exec at h g⊢;simp only[m,vat]at h;simp only[q,vat]at g⊢;obtain⟨sW,J⟩:=zH h;rw[zF]at g;have Q:(kU ((Instr.endLoop M).run C.Q w')).drawn<=S.bound:=by cases I:(Instr.endLoop M).run C.Q w' with|ok v w2=>rw[I]at g;exact g|halt x w2=>rw[I]at g;cases x<;>exact g
     have jQ:Good ((Instr.endLoop l).run C.P w):=by cases I:(Instr.endLoop l).run C.P w with|ok v w2=>trivial|halt x w2=>rw[I]at J;cases x with|panic v=>trivial| _=>cases J
     obtain⟨σ,sY,D,B,bx⟩:=ag0 O j.same S w w' E jQ Q;obtain⟨d,hd,U⟩:=bx #[];rw[vcq]at hd;rw[hd];refine iG.after B (λe m=>U e (xr m)) ?_;generalize(Instr.endLoop l).run C.P w=r at D J;generalize(Instr.endLoop M).run C.Q w'=r' at D;have H:=z.mono B.le;have p7:=iV.mono B.le p;cases D with
     |@ok a b xh _ eg fS=>obtain⟨e,hj⟩:=eg;subst e;cases J;refine rV (fr:=fr) p7 F fS rfl rfl (H.xt (de.append ?_ (mL.mono B.le hk)));cases a with|none=>exact .nil|some c=>exact .cons (.code (hj c rfl)) .nil
     |panic hv fS=>cases J;exact rV (fr:=fr) p7 F fS (sV _ _).1 (sV _ _).2 (H.raise (.cons ⟨hv,rfl,rfl⟩ .nil))
     |goexit=>cases J
    |beginRound=>unfold stepG.exec at h g⊢;simp only[m]at h;simp only[q]at g⊢;refine Pd j.funcs z p F E (.bind (R:=λ_(_ _:Unit)=>True) ?_ λ_ _ _ _ _=>.pure .skip) (.inl j.Pe) (j.follows _) h hrun T g;have L:=z.roundOf;generalize fr.roundOf=a at L;generalize aO.roundOf=b at L;cases L with|none=>exact .stuck|some O=>exact VR O j.same
end
variable{g:uai}{es:uav}{cF t:dC}{a b:GStep}
section
section
variable{C:cy}{S:Sync}{ρ:Ren}
def ahz(c:C.b_):∀(l:List ResultVar)(ρ:Ren),aL ρ t cF->al C ρ (λσ a b=>de (ap σ) a b)
 (l.mapM λ| .tmp x=>pure (t.getD x undef)| .cell a ty=>do Go.loadVar ty (<-Go.asAddr (t.getD a undef))) (l.mapM λ| .tmp x=>pure (cF.getD x undef)| .cell a ty=>do Go.loadVar ty (<-Go.asAddr (cF.getD a undef))):=by
 intro l;induction l with|nil=>intro ρ _;simp only[List.mapM_nil];exact .pure .nil|cons r l d=>intro ρ h;simp only[List.mapM_cons];refine .bind (R:=ap) ?_ λσ v v' l1 hv=>.bind (d σ (h.mono l1)) λaU a b l2 f=>.pure (.cons (hv.mono l2) f);cases r with|tmp x=>exact .pure (h.getD (.undef ρ) x)|cell a ty=>exact .bind (al.asAddr c (h.getD (.undef ρ) a)) λσ p g _ e=>al.loadVar c ty e
def ahA(g:C.b_)(fn:Func)(h:aL ρ t cF):al C ρ ap (results fn t) (results fn cF):=by
 unfold results;refine .bind (R:=aL) ?_ λσ a b _ c=>.pure ?_
 .rw[vci,vci];exact .bind (f:=λl=>Pure.pure l.toArray) (f':=λl=>Pure.pure l.toArray) (ahz g fn.results.toList ρ h) λσ a b _ c=>.pure (aL.OO c)
 .by_cases d:a.size=1
  .have e:b.size=1:=c.size▸d;rw[dif_pos d,dif_pos e];exact c.get 0 _ _ AN AN
  .have e:¬b.size=1:=c.size▸d;rw[dif_neg d,dif_neg e];exact .A2 c
def ahB{c:Prop}[Decidable c](h:(if c then a else b)=.go g w es)(d:∀g w es,a≠ .go g w es):¬c/\b=.go g w es:=by grind
def iG.ite{c:Prop}[Decidable c]{base:fA}(hn:¬c)(h:iG C S ρ b0 base w' g1 w1 b):iG C S ρ b0 base w' g1 w1 (if c then a else b):=by grind
def ahC(o:C.Good){base:fA}{d g:Deferred}(B:ep C ρ fr aO)(q:iV C ρ cs bb)(n:iW fr cs)(J:eo C S ρ w w')(hd:zy ρ d g)(h:callDeferred C.P fr (cs++b0) none d w=.go g1 w1 lM)(hrun:g1.status=.running)(F:g1.dying=none)(l:(iF (callDeferred C.Q aO (bb++base) none g w')).drawn<=S.bound):iG C S ρ b0 base w' g1 w1 (callDeferred C.Q aO (bb++base) none g w'):=by
 have Q:∀{t cF:Target}{m z:FrameMode},ug ρ t cF->uj ρ m z->((t matches .nil)&&(m matches .panicking _))=((cF matches .nil)&&(z matches .panicking _)):=λht M=>by cases ht<;>cases M<;>rfl
 have D:=Q hd.target B.mode;have y:=V2 C.Q aO (bb++base) none g w';unfold callDeferred at h⊢;simp only[vat]at h⊢;obtain⟨A,h⟩:=ahB h (λ_ _ _=>Ab);refine iG.ite (λb=>A (Eq.trans D b)) ?_;have y:=vac (y.resolve_left λb=>A (Eq.trans D b)) l;obtain⟨U,a⟩:=zH h;clear h;have jQ:Good ((invoke d.target d.args).run C.P w):=by cases K:(invoke d.target d.args).run C.P w with|ok T w2=>trivial|halt x w2=>rw[K]at a;cases x with|panic v=>trivial|goexit=>trivial|blocked=>grind|waiting=>grind|unsupported u=>cases a|exit c=>cases a|fatal m=>grind[V3]|throw m=>exact absurd F (Pb a)|stuck m=>cases a
 obtain⟨σ,H,p,f,P⟩:=Hx o.same o.EC o.funcs hd.target hd.args S w w' J jQ y;obtain⟨dd,k,I⟩:=P #[];rw[vcq]at k;rw[k];have j:=B.mono f.le;have i:=iV.mono f.le q;generalize(invoke d.target d.args).run C.P w=r at p a;generalize(invoke g.target g.args).run C.Q w'=r' at p;have evs:∀e∈seen C.Q aO.fn dd,wb σ e:=λe O=>I e (xr O);cases p with
 |@ok _ _ E _ hn fS=>have keep:iG C S ρ b0 base w' (bf fr (cs++b0)) E (GStep.after (seen C.Q aO.fn dd) (.go (bf aO (bb++base)) H)):=iG.after f evs (rV i n fS rfl rfl j);cases hn with|value hv=>cases a;exact keep|skip=>cases a;exact keep|enter s L l=>cases a;refine iG.after f evs ?_;exact⟨σ,_,fr::cs,_,aO::bb,_,_,rfl,rfl,.enter o.funcs s L l Io,.cons j i,n.push,fS,.refl _ _,Ab⟩|round N R ht s l=>cases a;refine iG.after f evs ?_;exact⟨σ,_,fr::cs,_,aO::bb,_,_,rfl,rfl,.round N R ht s l Io,.cons j i,n.push,fS,.refl _ _,Ab⟩
 |panic hv fS=>cases a;exact iG.after f evs (rV (fr:=fr) i n fS (sV _ _).1 (sV _ _).2 (j.raise (.cons ⟨hv,rfl,rfl⟩ .nil)))
 |goexit fS=>cases a;exact iG.after f evs (rV (fr:=fr) i n fS (sV _ _).1 (sV _ _).2 (j.raise (.cons ⟨.undef σ,rfl,rfl⟩ .nil)))
def EE(fr:Frame)(cs:fA):Prop:=cs=[]/\fr.defers=[]/\(fr.mode=.returning\/∃l,fr.mode=.panicking l)
theorem V8(H:C.Good){main':Bool}{base:fA}(k:ep C ρ fr aO)(s:iV C ρ cs bb)(B:iW fr cs)(A:eo C S ρ w w')(ahD:fr.mode≠ .run)(Y:¬EE fr cs)(h:unwind C.P true fr (cs++b0) none w=.go g1 w1 lM)(hrun:g1.status=.running)(Q:g1.dying=none)(b:(iF (unwind C.Q main' aO (bb++base) none w')).drawn<=S.bound):iG C S ρ b0 base w' g1 w1 (unwind C.Q main' aO (bb++base) none w'):=by
 have m:=k.defers;cases hd:fr.defers with
 |cons d ds=>
  cases y:aO.defers with
  |nil=>rw[hd,y]at m;cases m
  |cons I P=>
   rw[hd,y]at m;cases m with
   |cons o u=>
    have plain:(∀r,d.target≠ .collected r)->iG C S ρ b0 base w' g1 w1 (unwind C.Q main' aO (bb++base) none w'):=by
     intro hn;have ll:∀r,I.target≠ .collected r:=by intro r e;have:=o.target;rw[e]at this;generalize hq:d.target=q at this;cases this;grind
     have e1:unwind C.P true fr (cs++b0) none w=callDeferred C.P {fr with defers:=ds} (cs++b0) none d w:=by unfold unwind;grind
     have Z:unwind C.Q main' aO (bb++base) none w'=callDeferred C.Q {aO with defers:=P} (bb++base) none I w':=by unfold unwind;grind
     rw[e1]at h;rw[Z]at b⊢;exact ahC H (k.Bg u) s (B.same rfl rfl) A o h hrun Q b
    obtain⟨t,a⟩:=d;obtain⟨cF,a'⟩:=I;cases t with
    |collected r=>
     have L:=o.target;cases L with
     |collected K=>
      rename_i M;unfold unwind at h b⊢;simp only[hd,vat]at h;simp only[y,vat]at b⊢;obtain⟨U,j⟩:=zH h;rw[zF]at b;have F:(kU ((Instr.takeDeferred M).run C.Q w')).drawn<=S.bound:=by cases hq:(Instr.takeDeferred M).run C.Q w' with|ok v w2=>rw[hq]at b;exact b|halt x w2=>rw[hq]at b;exact b
      have jQ:Good ((Instr.takeDeferred r).run C.P w):=by cases hq:(Instr.takeDeferred r).run C.P w with|ok v w2=>trivial|halt x w2=>grind
      obtain⟨σ,T,p,i,J⟩:=ag1 K S w w' A jQ F;obtain⟨dd,g,D⟩:=J #[];rw[vcq]at g;rw[g];refine iG.after i (λe E=>D e (xr E)) ?_;generalize(Instr.takeDeferred r).run C.P w=q at p j;generalize(Instr.takeDeferred _).run C.Q w'=q' at p;cases p with|ok hv fS=>cases j;exact rV (fr:=fr) (iV.mono i.le s) B fS rfl rfl ((k.mono i.le).Bg (de.append hv (qV.mono i.le u)))|panic=>cases j|goexit=>cases j
    | _=>grind
 |nil=>
  have y:aO.defers=[]:=by rw[hd]at m;generalize aO.defers=q at m;cases m;rfl
  have f:=k.mode;obtain⟨fn,c,O,R⟩:=k.known;obtain⟨hq,_,_⟩:=H.funcs.body _ _ _ O R;rw[k.fn]at hq;cases s with
  |nil=>exfalso;apply Y;refine⟨rfl,hd,?_⟩;cases z:fr.mode with|run=>grind|returning=>grind|panicking l=>grind
  |@cons cw K3 cs bb N u=>
   unfold unwind at h b⊢;simp only[hd]at h;simp only[y]at b⊢;cases z:fr.mode with
   |run=>grind
   |returning=>
    rw[z]at f;cases n:aO.mode with
    |run=>rw[n]at f;cases f
    |panicking l=>rw[n]at f;cases f
    |returning=>
     simp only[z,O,vat]at h;simp only[n,hq,vat]at b⊢;obtain⟨U,j⟩:=zH h;rw[zF]at b;have F:(kU ((results fn aO.tmps).run C.Q w')).drawn<=S.bound:=by cases o:(results fn aO.tmps).run C.Q w' with|ok v w2=>rw[o]at b;simp only[V0]at b;exact b|halt x w2=>rw[o]at b;cases x<;>exact b
     have jQ:Good ((results fn fr.tmps).run C.P w):=by cases o:(results fn fr.tmps).run C.P w with|ok v w2=>trivial|halt x w2=>grind
     obtain⟨σ,T,p,i,J⟩:=ahA H.same fn k.tmps S w w' A jQ F;obtain⟨dd,g,D⟩:=J #[];rw[vcq]at g;rw[g];refine iG.after i (λe E=>D e (xr E)) ?_;generalize(results fn fr.tmps).run C.P w=q at p j;generalize(results fn aO.tmps).run C.Q w'=q' at p;cases p with|ok hv fS=>exact V6 (k.mono i.le) (N.mono i.le) (iV.mono i.le u) B.Pa fS hv j|panic=>cases j|goexit=>cases j
   |panicking l=>
    rw[z]at f;cases n:aO.mode with
    |run=>rw[n]at f;cases f
    |returning=>rw[n]at f;cases f
    |panicking l'=>
     rw[n]at f;cases f with
     |panicking X=>
      have W:fr.catches C.P=false:=AN;have V:aO.catches C.Q=false:=by grind[Frame.catches]
      simp only[z,W]at h;simp only[V];cases h;exact rV (fr:=cw) u B.Pa A (sV _ _).1 (sV _ _).2 (N.raise X)
theorem ahG(m:C.Good){main':Bool}{base:fA}(e:ep C ρ fr aO)(d:iV C ρ cs bb)(n:iW fr cs)(i:eo C S ρ w w')(k:¬EE fr cs)(h:stepG C.P true (bf fr (cs++b0)) w=.go g1 w1 lM)(hrun:g1.status=.running)(f:g1.dying=none)(j:(iF (stepG C.Q main' (bf aO (bb++base)) w')).drawn<=S.bound):iG C S ρ b0 base w' g1 w1 (stepG C.Q main' (bf aO (bb++base)) w'):=by
 have a:=e.mode;cases c:fr.mode with
 |run=>rw[c]at a;cases b:aO.mode with|run=>grind[stepG,bf,ahy]| _=>rw[b]at a;cases a
 |returning=>rw[c]at a;cases b:aO.mode with|returning=>grind[stepG,bf,V8]| _=>rw[b]at a;cases a
 |panicking l=>rw[c]at a;cases b:aO.mode with|panicking g=>grind[stepG,bf,V8]| _=>rw[b]at a;cases a
end
end
def HB(g:uai):Prop:=(g.dying=none/\(g.status=.blocked\/g.status=.waiting))\/∃d f,g.dying=some d/\d.fatal=some f/\d.calling=false/\(g.status=.running\/g.status=.blocked)
def Kind:GStep->Prop
 | .go g _ _=>(g.status=.running/\g.dying=none)\/HB g
 | .ended .. =>True
 | _=>False
variable{s:GStep}
theorem Kind.after(h:Kind s):Kind (GStep.after es s):=by cases s<;>exact h
def Kind.ite{c:Prop}[Decidable c](e:Kind a)(d:Kind b):Kind (if c then a else b):=by grind
def Kind.pos{c:Prop}[Decidable c](h:c)(d:Kind a):Kind (if c then a else b):=by grind
def Pj{ps:List ByteArray}{m:String}{b:Bool}:Kind (dieOf fr ps m b w):=.inr (.inr ⟨_,_,U,U,U,.inl U⟩)
def V9{P:ck}{d:Option Dying}{m:String}:Kind (endFatal P fr cs d m w):=by
 unfold endFatal;simp only[];split
 .exact Pj
 .trivial
 .trivial
def Pk:Result Next->Prop
 | .ok (.value _) _ | .ok .skip _ | .ok (.enter ..) _ | .ok (.round ..) _=>True
 | .ok _ _=>False
 | .halt (.unsupported (.initOrder _)) _=>False
 | .halt _ _=>True
section
variable{C:cy}{S:Sync}{ρ:Ren}
def K4{s s':Sem Next}(hs:al C ρ (pi C) s s')(c:eo C S ρ w w')(d:(kU (s'.run C.Q w')).drawn<=S.bound):Pk (s.run C.P w):=by
 by_cases hg:Good (s.run C.P w)
 .obtain⟨σ,w1,a,_,_⟩:=hs S w w' c hg d;generalize s.run C.P w=r at a;generalize s'.run C.Q w'=r' at a;cases a with|ok h _=>cases h<;>trivial|panic=>trivial|goexit=>trivial
 .cases b:s.run C.P w with
  |ok v w1=>rw[b]at hg;exact absurd trivial hg
  |halt x w1=>
   rw[b]at hg;cases x with
   |unsupported u=>cases u<;>first|trivial|exact absurd trivial hg
   | _=>trivial
def Pl{P:ck}{s:Sem Next}(h:Pk (s.run P w)):Kind (stepG.apply P true fr cs none s w):=by
 unfold stepG.apply;simp only[vat,vbx];refine Kind.after ?_;cases d:s.run P w with
 |ok e w1=>rw[d]at h;cases e with|value v=>exact .inl ⟨U,U⟩|skip=>exact .inl ⟨U,U⟩|enter f a=>exact .inl ⟨U,U⟩|round l f t a b=>exact .inl ⟨U,U⟩| _=>exact absurd h id
 |halt x w1=>
  rw[d]at h;cases x with
  |panic v=>exact .inl ⟨U,U⟩
  |goexit=>exact .inl ⟨U,U⟩
  |blocked=>exact .inr (.inl ⟨U,.inl U⟩)
  |waiting=>exact .inr (.inl ⟨U,.inr U⟩)
  |unsupported u=>cases u<;>first|trivial|exact absurd h id
  |exit c=>trivial
  |fatal m=>exact V9
  |throw m=>exact Pj
  |stuck m=>trivial
def ahH{P:ck}{d:Deferred}(h:Pk ((invoke d.target d.args).run P w)):Kind (callDeferred P fr cs none d w):=by
 unfold callDeferred;refine Kind.ite trivial ?_;simp only[vat];refine Kind.after ?_;cases e:(invoke d.target d.args).run P w with
 |ok g w1=>rw[e]at h;cases g with|value v=>exact .inl ⟨U,U⟩|skip=>exact .inl ⟨U,U⟩|enter f a=>exact .inl ⟨U,U⟩|round l f t a b=>exact .inl ⟨U,U⟩| _=>exact absurd h id
 |halt x w1=>rw[e]at h;cases x with|panic v=>exact .inl ⟨U,U⟩|goexit=>exact .inl ⟨U,U⟩|blocked=>exact .inr (.inl ⟨U,.inl U⟩)|waiting=>exact .inr (.inl ⟨U,.inr U⟩)|unsupported u=>trivial|exit c=>trivial|fatal m=>exact V9|throw m=>exact Pj|stuck m=>trivial
def V_{P:ck}{main:Bool}{c:Frame}{v:Value}:Kind (doReturn P main fr (c::cs) none v w):=by unfold doReturn;simp only[];split<;>exact .inl ⟨U,U⟩
theorem ahI{P:ck}{main:Bool}{r:Result Value}(a:iW fr cs){l:Nat}(b:fr.roundOf=some l):
 Kind (GStep.after es (match r with| .ok v w=>doReturn P main fr (cs++b0) none v w| .halt _ w=>.ended (.stuck "range over a function: no such loop" (fr.pos P)) w)):=by
 refine Kind.after ?_;cases r with|halt x w=>trivial|ok v w=>cases cs with|nil=>have:=a.2;grind|cons c cs=>exact V_
def K5{P:ck}{main:Bool}(jump:Option Code)(b:iW fr cs)(L:GStep)(a:fr.roundOf=none->L=(if rW jump=true then .go {frame:={fr with mode:=.returning},callers:=cs++b0,status:=.running,dying:=none} w else .ended (.stuck "exit, goto: no such block or label" (fr.pos P)) w))(c:∀l,fr.roundOf=some l->L=GStep.after (seen P fr.fn ((Instr.endRound l jump).events P w #[])) (match(Instr.endRound l jump).run P w with
  | .ok v w=>doReturn P main fr (cs++b0) none v w
  | .halt _ w=>.ended (.stuck "range over a function: no such loop" (fr.pos P)) w)):Kind L:=by
 cases h0:fr.roundOf with
 |none=>
  rw[a h0];split
  .exact .inl ⟨U,U⟩
  .trivial
 |some l=>grind[ahI]
theorem Wa(i:C.Good){main':Bool}{base:fA}(j:ep C ρ fr aO)(h:iV C ρ cs bb)(y:eo C S ρ w w')(J:fr.mode≠ .run)(B:¬EE fr cs)(p:(iF (unwind C.Q main' aO (bb++base) none w')).drawn<=S.bound):Kind (unwind C.P true fr (cs++b0) none w):=by
 have b:=j.defers;cases hd:fr.defers with
 |cons d ds=>
  cases s:aO.defers with
  |nil=>rw[hd,s]at b;cases b
  |cons g k=>
   rw[hd,s]at b;cases b with
   |cons f z=>
    have plain:(∀r,d.target≠ .collected r)->Kind (unwind C.P true fr (cs++b0) none w):=by
     intro hn;have M:∀r,g.target≠ .collected r:=by intro r e;have:=f.target;rw[e]at this;generalize hq:d.target=q at this;cases this;grind
     have I:unwind C.P true fr (cs++b0) none w=callDeferred C.P {fr with defers:=ds} (cs++b0) none d w:=by unfold unwind;grind
     have H:unwind C.Q main' aO (bb++base) none w'=callDeferred C.Q {aO with defers:=k} (bb++base) none g w':=by unfold unwind;grind
     rw[I];rw[H]at p;rcases V2 C.Q {aO with defers:=k} (bb++base) none g w' with o|D
     .have K:∀{t cF:Target}{m n:FrameMode},ug ρ t cF->uj ρ m n->((t matches .nil)&&(m matches .panicking _))=((cF matches .nil)&&(n matches .panicking _)):=λht A=>by cases ht<;>cases A<;>rfl
      have u:=Eq.trans (K f.target j.mode) o;unfold callDeferred;exact Kind.pos u trivial
     .exact ahH (K4 (Hx i.same i.EC i.funcs f.target f.args) y (vac D p))
    obtain⟨t,a⟩:=d;obtain⟨cF,a'⟩:=g;cases t with
    |collected r=>unfold unwind;simp only[hd,vat];refine Kind.after ?_;cases(Instr.takeDeferred r).run C.P w with|ok v w1=>exact .inl ⟨U,U⟩|halt x w1=>trivial
    | _=>grind
 |nil=>
  obtain⟨fn,c,E,L⟩:=j.known;cases h with
  |nil=>exfalso;apply B;refine⟨U,hd,?_⟩;cases F:fr.mode with|run=>grind|returning=>grind|panicking l=>grind
  |@cons cw N cs bb o z=>
   unfold unwind;simp only[hd];cases F:fr.mode with
   |run=>grind
   |returning=>simp only[E,vat];refine Kind.after ?_;cases(results fn fr.tmps).run C.P w with|ok v w1=>exact V_|halt x w1=>cases x<;>trivial
   |panicking l=>
    simp only[];split
    .trivial
    .exact .inl ⟨U,U⟩
theorem ahJ(h:C.Good){main':Bool}{base:fA}(j:ep C ρ fr aO)(F:iW fr cs)(D:eo C S ρ w w')(d:(iF (stepG.exec C.Q main' true aO (bb++base) none w')).drawn<=S.bound):Kind (stepG.exec C.P true true fr (cs++b0) none w):=by
 have ht:=j.todo;have V:=j.eval D.nc;cases e:fr.todo with
 |nil=>
  refine K5 (main:=true) (P:=C.P) (w:=w) (b0:=b0) none F (stepG.exec C.P true true fr (cs++b0) none w) ?_ ?_
  .grind[stepG.exec,rW]
  grind[stepG.exec,Sem.runT_eq]
 |cons i k=>
  cases A:aO.todo with
  |nil=>rw[e,A]at ht;cases ht
  |cons i' k'=>
   rw[e,A]at ht;cases ht with
   |cons hi hk=>
    cases hi with
    |@code c hok=>
     have B:=(h.ou c).1 hok;cases c with
     |skip=>unfold stepG.exec;simp only[e];exact .inl ⟨rfl,rfl⟩
     |label l=>unfold stepG.exec;simp only[e];exact .inl ⟨rfl,rfl⟩
     |seq a b=>unfold stepG.exec;simp only[e];exact .inl ⟨rfl,rfl⟩
     |cond c a b=>unfold stepG.exec;simp only[e];cases fr.eval c with|bool b=>exact .inl ⟨rfl,rfl⟩| _=>trivial
     |block id b=>unfold stepG.exec;simp only[e];exact .inl ⟨rfl,rfl⟩
     |loop b=>unfold stepG.exec;simp only[e];exact .inl ⟨rfl,rfl⟩
     |scope b=>unfold stepG.exec;simp only[e];exact .inl ⟨rfl,rfl⟩
     |refuse s=>unfold stepG.exec;simp only[e];trivial
     |ret=>
      refine K5 (main:=true) (P:=C.P) (w:=w) (b0:=b0) (some .ret) F (stepG.exec C.P true true fr (cs++b0) none w) ?_ ?_
      .grind[stepG.exec,rW]
      grind[stepG.exec,Sem.runT_eq]
     |exit id=>
      cases K:exitTo id k with
      |some t=>unfold stepG.exec;simp only[e,K,vdo];exact .inl ⟨rfl,rfl⟩
      |none=>
       refine K5 (main:=true) (P:=C.P) (w:=w) (b0:=b0) (some (.exit id)) F (stepG.exec C.P true true fr (cs++b0) none w) ?_ ?_
       .grind[stepG.exec,rW]
       grind[stepG.exec,Sem.runT_eq]
     |goto id=>
      cases K:gotoIn id k with
      |some t=>unfold stepG.exec;simp only[e,K,vdo];exact .inl ⟨rfl,rfl⟩
      |none=>
       refine K5 (main:=true) (P:=C.P) (w:=w) (b0:=b0) (some (.goto id)) F (stepG.exec C.P true true fr (cs++b0) none w) ?_ ?_
       .grind[stepG.exec,rW]
       grind[stepG.exec,Sem.runT_eq]
     |region id ops draw=>unfold stepG.exec;simp only[e];cases draw with|false=>exact .inl ⟨rfl,rfl⟩|true=>simp only[Bool.not_true,vai,vcj];cases(Go.choose (.order fr.fn id)).run C.P w with|ok v w1=>exact .inl ⟨rfl,rfl⟩|halt x w1=>trivial
     |rangeFunc f params assign body=>
      simp only[jP,vae]at B;unfold stepG.exec at d⊢;simp only[e,vat];simp only[A,vat]at d;refine Kind.after ?_;rw[zF]at d;have Pf:=VQ (C:=C) (ρ:=ρ) fr.fn j.known j.tmps params ((h.ou _).2 B.1.2) ((h.ou _).2 B.2) j.roundOf;have Pg:Instr.enterLoop aO.fn aO.tmps params assign body aO.roundOf=Instr.enterLoop fr.fn aO.tmps params assign body aO.roundOf:=by rw[j.fn]
      rw[Pg]at d;have Y:(kU ((Instr.enterLoop fr.fn aO.tmps params assign body aO.roundOf).run C.Q w')).drawn<=S.bound:=by cases E:(Instr.enterLoop fr.fn aO.tmps params assign body aO.roundOf).run C.Q w' with|ok v w2=>rw[E]at d;exact vac (vac (A3 C.Q _ w2).1 (Ez C.Q _ _ none _ w2)) d|halt x w2=>rw[E]at d;exact d
      by_cases jQ:Good ((Instr.enterLoop fr.fn fr.tmps params assign body fr.roundOf).run C.P w)
      .obtain⟨σ,sY,z,Q,bx⟩:=Pf S w w' D jQ Y;generalize(Instr.enterLoop fr.fn fr.tmps params assign body fr.roundOf).run C.P w=r at z;generalize(Instr.enterLoop fr.fn aO.tmps params assign body aO.roundOf).run C.Q w'=r' at z d;cases z with
       |@ok a b xh _ eg fS=>
        obtain⟨l,mark⟩:=a;obtain⟨q,T⟩:=b;obtain⟨p,U⟩:=eg;have m:=j.mono Q.le;have X:ep C σ {fr with todo:=.inRangeFunc l::k,defers:=mark++fr.defers} {aO with todo:=.inRangeFunc q::k',defers:=T++aO.defers}:=
         ⟨m.fn,m.known,m.tmps,.cons (.inRangeFunc p) (mL.mono Q.le hk),de.append U m.defers,m.mode,m.kind,m.plain,m.roundOf⟩
        have Ph:=X.eval fS.nc;refine Pl (K4 ?_ fS (vac (Ez C.Q _ _ none _ _) d));refine .bind (R:=zy) ?_ λaU x y _ hd=>Hx h.same h.EC h.funcs hd.target hd.args;have I:=Ph f B.1.1;simp only[resolve];revert I;generalize Frame.eval _ f=v;generalize Frame.eval _ f=v';intro I;unfold Deferred.ofValue;have N:aL σ #[Value.func (.yield l) #[] #[]] #[Value.func (.yield q) #[] #[]]:=.one (.Hh (.yield p) (.nil σ) (.nil σ));have M:aL σ ((#[Operand.const (.func (.yield l) #[] #[])]:uba).map (Frame.eval {fr with todo:=.inRangeFunc l::k,defers:=mark++fr.defers})) ((#[Operand.const (.func (.yield q) #[] #[])]:uba).map (Frame.eval {aO with todo:=.inRangeFunc q::k',defers:=T++aO.defers})):=by grind[Frame.eval]
        cases I with|func Z J h3 h4 a6=>exact .pure ⟨.fn Z ⟨h3,a6⟩,aL.append ⟨J,h4⟩ M⟩|nilFunc=>exact .pure ⟨.nil,M⟩| _=>exact .stuck
       |panic=>trivial
       |goexit=>trivial
      .cases E:(Instr.enterLoop fr.fn fr.tmps params assign body fr.roundOf).run C.P w with|ok v w2=>rw[E]at jQ;exact absurd trivial jQ|halt x w2=>trivial
    |inBlock id=>unfold stepG.exec;simp only[e];exact .inl ⟨rfl,rfl⟩
    |inScope d=>unfold stepG.exec;simp only[e];exact .inl ⟨rfl,rfl⟩
    |inLoop d=>unfold stepG.exec;simp only[e];exact .inl ⟨rfl,rfl⟩
    |@inRegion ops Bi todo=>
     cases todo with
     |nil=>unfold stepG.exec;simp only[e];exact .inl ⟨rfl,rfl⟩
     |cons n rest=>
      unfold stepG.exec at d⊢;simp only[e];simp only[A]at d;rw[<-V5 j.tmps ops]at d;split
      .rename_i HA;rw[vdi HA]at d;have H:∃o,ops[n]?=some o:=by grind
       obtain⟨o,z⟩:=H;have L:=Bi o (vbf z);have J:fr.oper?=some o:=FJ;have W:aO.oper?=some o:=FJ;have g:=j.roundOf;unfold stepG.oper at d⊢;simp only[J];simp only[W]at d;have plain:(iF (stepG.apply C.Q true aO (bb++base) none (execOp aO.eval o) w')).drawn<=S.bound->Kind (stepG.apply C.P true fr (cs++b0) none (execOp fr.eval o) w):=λN=>
        Pl (K4 (VZ h.same h.EC h.funcs V L) D (vac (Ez C.Q _ _ none _ _) N))
       cases h0:fr.roundOf with
       |none=>cases u:aO.roundOf with|some l=>rw[h0,u]at g;cases g|none=>grind
       |some l=>cases u:aO.roundOf with|none=>rw[h0,u]at g;cases g|some q=>rw[h0,u]at g;cases g with|some p=>cases O:o.op with|defer c=>rw[O]at L;cases L| _=>simp only[u,O]at d;exact plain d
      .exact .inl ⟨rfl,rfl⟩
    |inRangeFunc p=>unfold stepG.exec;simp only[e];trivial
    |@endRangeFunc l q p=>unfold stepG.exec;simp only[e,vat];refine Kind.after ?_;cases(Instr.endLoop l).run C.P w with|ok v w1=>exact .inl ⟨rfl,rfl⟩|halt x w1=>cases x with|panic v=>exact .inl ⟨rfl,rfl⟩| _=>trivial
    |beginRound=>unfold stepG.exec at d⊢;simp only[e];simp only[A]at d;refine Pl (K4 (.bind (R:=λ_(_ _:Unit)=>True) ?_ λ_ _ _ _ _=>.pure .skip) D (vac (Ez C.Q _ _ none _ _) d));have g:=j.roundOf;generalize fr.roundOf=a at g;generalize aO.roundOf=b at g;cases g with|none=>exact .stuck|some p=>exact VR p h.same
def ahK(j:C.Good){main':Bool}{base:fA}(e:ep C ρ fr aO)(d:iV C ρ cs bb)(k:iW fr cs)(g:eo C S ρ w w')(i:¬EE fr cs)(h:(iF (stepG C.Q main' (bf aO (bb++base)) w')).drawn<=S.bound):Kind (stepG C.P true (bf fr (cs++b0)) w):=by
 have a:=e.mode;cases c:fr.mode with
 |run=>rw[c]at a;cases b:aO.mode with|run=>grind[stepG,bf,ahJ]| _=>rw[b]at a;cases a
 |returning=>rw[c]at a;cases b:aO.mode with|returning=>grind[stepG,bf,Wa]| _=>rw[b]at a;cases a
 |panicking l=>rw[c]at a;cases b:aO.mode with|panicking f=>grind[stepG,bf,Wa]| _=>rw[b]at a;cases a
end
def ln(g:uai)(w:aH):Machine:={world:=w,gs:=#[g],rest:={timers:=#[],alone:=none,slice:=none}}
theorem ahL(fr:Frame)(cs:fA)(w:aH):lone fr cs w=ln (bf fr cs) w:=rfl
def ahM{P:ck}(hs:g.status=.running):move P (ln g w)=.goroutine (ln g w) 0:=by simp[move,ask,askOn,ln,runnable_eq,due,ahead,Goroutine.canRun,vdx,choose,pure,Sem.run,Question.forced,hs]
def Bk{P:ck}(a:g.status=.running)(h:stepG P true g w=s):
 (∀g1 w1 es,s=.go g1 w1 es->step P (ln g w)=.next (ln g1 w1))/\(∀o w1 es,s=.ended o w1 es->step P (ln g w)=.ended o w1):=by
 rw[step,stepT,ahM a];grind[runT,ln]
def Wb{P:ck}{m1:Machine}(hs:g.status=.blocked\/g.status=.waiting)(h:step P (ln g w)=.next m1):m1=ln g w:=by
 rcases hs with hs|hs
 .exfalso;have dU:∀x:GStep,∃o w1,(match(motive:=GStep->Move) x with| .ended o w _=>Move.machine (.ended o w)| _=>.machine (.ended (.stuck "" "") default))=.machine (.ended o w1):=λx=>by cases x<;>exact⟨_,_,U⟩
  have:∃o w1,move P (ln g w)=.machine (.ended o w1):=by simp only[move,ask,askOn,ln,runnable_eq,due,ahead];simp[Goroutine.canRun,vdx,hs,pure];exact dU _
  grind[step,stepT]
 .have:move P (ln g w)=.machine (.next (ln g w)):=by simp[move,ask,askOn,ln,runnable_eq,due,ahead,Goroutine.canRun,vdx,hs,pure]
  grind[step,stepT]
def ahN{P:ck}{d:Dying}{f:Fatal}(a:d.calling=false):(∃o w1 es,writeOn P fr d f w=.ended o w1 es)\/∃g1 w1 es,writeOn P fr d f w=.go g1 w1 es/\HB g1:=by
 unfold writeOn;simp only[];split
 .grind
 .split
  .exact .inr ⟨_,_,_,U,.inr ⟨_,_,U,U,a,.inl U⟩⟩
  .exact .inr ⟨_,_,_,U,.inr ⟨_,_,U,U,a,.inr U⟩⟩
  .grind
  grind
theorem ahO{P:ck}{m1:Machine}(hd:HB g)(h:step P (ln g w)=.next m1):∃g1 w1,m1=ln g1 w1/\HB g1:=by
 rcases hd with⟨c,b⟩|⟨d,f,c,b,i,a⟩
 .exact⟨g,w,Wb b h,.inl ⟨c,b⟩⟩
 .rcases a with a|a
  .have e:stepG P true g w=writeOn P g.frame d f w:=by obtain⟨fr,cs,st,k,off⟩:=g;simp only at c;subst c;obtain⟨todo,texts,calling,pending,ahP,hand,fatal⟩:=d;simp only at b i;subst b;subst i;rfl
   rcases ahN (P:=P) (fr:=g.frame) (f:=f) (w:=w) i with⟨o,w1,es,j⟩|⟨g1,w1,es,j,l⟩
   .rw[(Bk a (e.trans j)).2 _ _ _ U]at h;cases h
   .rw[(Bk a (e.trans j)).1 _ _ _ U]at h;grind
  .exact⟨g,w,Wb (.inl a) h,.inr ⟨d,f,c,b,i,.inr a⟩⟩
variable{dz:Frame}{cse:fA}{bF:aH}
theorem ahQ{P:ck}:∀(n:Nat)(g:uai)(w:aH),HB g->runN P n (ln g w)≠ .next (lone dz cse bF):=by
 intro n;induction n with
 |zero=>
  intro g w hd h;simp only[runN,Stepped.next.injEq,ahL]at h;have:g=bf dz cse:=by simp_all[ln]
  subst this;rcases hd with⟨_,a⟩|⟨d,f,b,_⟩
  .rcases a with a|a<;>cases a
  .cases b
 |succ n c=>intro g w hd h;rw[runN]at h;grind[ahO]
def eI(f:ual):Frame:={fn:=f,tmps:=#[],todo:=[.code (.refuse "")],defers:=[{target:=.nil,args:=#[]}],mode:=.run,kind:=.normal,roundOf:=none}
variable{f:ual}
def Wc{P:ck}:∀(n:Nat)(w:aH),(∀v,runN P n (lone ((eI f).finish v) [] w)≠ .next (lone dz (cs++[eI f]) bF))/\∀l,runN P n (lone ((eI f).raise l) [] w)≠ .next (lone dz (cs++[eI f]) bF):=by
 intro n w;have short:∀{fr:Frame}{w:aH},lone fr [] w≠lone dz (cs++[eI f]) bF:=by simp_all[lone]
 cases n with
 |zero=>grind[runN]
 |succ n=>
  refine⟨λv h=>?_,λl h=>?_⟩
  .rw[runN]at h;have e:∃o w1,(stepG P true (bf ((eI f).finish v) []) w).bare=.ended o w1:=⟨_,_,U⟩;obtain⟨o,w1,e⟩:=e;rw[step_lone_ended e]at h;cases h
  .rw[runN]at h;have e:∃o w1,(stepG P true (bf ((eI f).raise l) []) w).bare=.ended o w1:=⟨_,_,U⟩;obtain⟨o,w1,e⟩:=e;rw[step_lone_ended e]at h;cases h
section
variable{C:cy}{S:Sync}{ρ:Ren}
theorem Wd{rT:Frame}{cs1:fA}(h:lone fr cs w=lone rT cs1 w1):fr=rT/\cs=cs1/\w=w1:=by simp_all[lone]
def ahR{P:ck}{fn:Func}{n:Nat}(j:P.funcs[fr.fn]?=some fn)(hk:fr.kind=.normal)(d:EE fr []):
 runN P (n+1) (lone fr [eI f] w)≠ .next (lone dz (cse++[eI f]) bF):=by
 intro h;rw[runN]at h;obtain⟨_,hd,b|⟨l,b⟩⟩:=d
 .have e:stepG P true (bf fr [eI f]) w=GStep.after (seen P fr.fn ((results fn fr.tmps).events P w #[])) (match(results fn fr.tmps).run P w with
   | .ok v w=>doReturn P true fr [eI f] none v w
   | .halt (.stuck s) w=>.ended (.stuck s (fr.pos P)) w
   | .halt _ w=>.ended (.stuck "return: the result variables cannot be read" (fr.pos P)) w):=by
   grind[stepG,bf,unwind,Sem.runT_eq]
  cases a:(results fn fr.tmps).run P w with
  |ok v w1=>rw[a]at e;simp only[doReturn,hk,GStep.after]at e;rw[show step P (lone fr [eI f] w)=.next (ln (bf ((eI f).finish v) []) w1)from(Bk (g:=bf fr [eI f]) U e).1 _ _ _ U]at h;exact(Wc (cs:=cse) n w1).1 v h
  |halt x w1=>
   have:∃o w2 es,stepG P true (bf fr [eI f]) w=.ended o w2 es:=by rw[e,a];cases x<;>exact⟨_,_,_,U⟩
   obtain⟨o,w2,es,c⟩:=this;rw[show step P (lone fr [eI f] w)=.ended o w2 from(Bk (g:=bf fr [eI f]) U c).2 _ _ _ U]at h;cases h
 .have i:fr.catches P=false:=by grind[Frame.catches]
  have e:stepG P true (bf fr [eI f]) w=.go (bf ((eI f).raise l) []) w:=by grind[stepG,bf,unwind]
  rw[show step P (lone fr [eI f] w)=.next (ln (bf ((eI f).raise l) []) w)from(Bk (g:=bf fr [eI f]) U e).1 _ _ _ U]at h;exact(Wc (cs:=cse) n w).2 l h
def ahS(l:C.Good){main':Bool}{base:fA}{n:Nat}(e:ep C ρ fr aO)(a:iV C ρ cs bb)(d:iW fr cs)(h:eo C S ρ w w')(i:(iF (stepG C.Q main' (bf aO (bb++base)) w')).drawn<=S.bound)(hrun:runN C.P n (lone fr (cs++[eI f]) w)=.next (lone dz (cse++[eI f]) bF)):
 (cs=cse/\fr=dz/\w=bF)\/∃k g1 w1,n=k+1/\iG C S ρ [eI f] base w' g1 w1 (stepG C.Q main' (bf aO (bb++base)) w')/\runN C.P k (ln g1 w1)=.next (lone dz (cse++[eI f]) bF):=by
 cases n with
 |zero=>grind[runN,Wd,List.append_cancel_right]
 |succ k=>
  obtain⟨fn,c,j,r⟩:=e.known;by_cases b:EE fr cs
  .obtain⟨p,m⟩:=b;subst p;exact absurd hrun (ahR j d.1 ⟨U,m⟩)
  .right;have hk:=ahK l (b0:=[eI f]) e a d h b i;rw[runN]at hrun;cases hs:stepG C.P true (bf fr (cs++[eI f])) w with
   |go g1 w1 es=>
    rw[hs]at hk;rw[show step C.P (lone fr (cs++[eI f]) w)=.next (ln g1 w1)from(Bk (g:=bf fr (cs++[eI f])) U hs).1 _ _ _ U]at hrun;rcases hk with⟨s,hd⟩|q
    .grind[ahG]
    grind[ahQ]
   |ended o w1 es=>rw[show step C.P (lone fr (cs++[eI f]) w)=.ended o w1 from(Bk (g:=bf fr (cs++[eI f])) U hs).2 _ _ _ U]at hrun;grind
   | _=>rw[hs]at hk;exact absurd hk id
end
structure aV where
 g:Goroutine
 w:aH
 mine:Nat->Prop
structure j4(K:c5)(X:aV)(w':aH):Prop where
 heap:∀b,K b\/X.mine b->w'.heap[b]?=X.w.heap[b]?
 size:X.w.heap.size<=w'.heap.size
 env:w'.os.env=X.w.os.env
def grown(mine:c5)(w' w1:aH):Nat->Prop:=λb=>mine b\/(w'.heap.size<=b/\b<w1.heap.size)
def xv(K mine:c5)(e:Event):Prop:=
 match e.loc with
 | .cell a=>(K a.block\/mine a.block)/\(e.write=true->mine a.block)/\e.sync=false
 | .obj r=>(K r\/mine r)/\(e.write=true->mine r)/\e.sync=false
 | .mark .noRoom| .mark (.extern _)| .output=>True
 | _=>False
structure Pm(K mine:c5)(w':aH)(g1:uai)(w1:aH)(es:uav):Prop where
 run:g1.status=.running
 nM:g1.dying=none
 kept:∀b,b<w'.heap.size->¬mine b->w1.heap[b]?=w'.heap[b]?
 size:w'.heap.size<=w1.heap.size
 os:w1.os=w'.os
 output:w1.output=w'.output
 tape:w1.tape=w'.tape
 drawn:w'.drawn<=w1.drawn
 evs:∀e∈es,xv K (grown mine w' w1) e
def K6(K mine:c5)(w':aH)(s:GStep):Prop:=∃g1 w1 es,s=.go g1 w1 es/\Pm K mine w' g1 w1 es
inductive iH(Q:ck)(main:Bool)(K:c5)(post:aV->Prop):aV->Prop
 |done {X:aV} (h:post X):iH Q main K post X
 |step {X:aV} (ok:∀w',j4 K X w'->K6 K X.mine w' (stepG Q main X.g w'))
  (h:∀w' g1 w1 es,j4 K X w'->stepG Q main X.g w'=.go g1 w1 es->iH Q main K post ⟨g1,w1,grown X.mine w' w1⟩):iH Q main K post X
inductive ow(Q:ck)(main:Bool)(K:c5)(Inv post:aV->Prop):aV->Prop
 |done {X:aV} (h:post X):ow Q main K Inv post X
 |step {X:aV} (inv:Inv X) (ok:∀w',j4 K X w'->K6 K X.mine w' (stepG Q main X.g w'))
  (h:∀w' g1 w1 es,j4 K X w'->stepG Q main X.g w'=.go g1 w1 es->ow Q main K Inv post ⟨g1,w1,grown X.mine w' w1⟩):ow Q main K Inv post X
section
variable{Q:ck}{main:Bool}{K:c5}{Inv post:aV->Prop}
def ow.dV{X:aV}(h:ow Q main K Inv post X):iH Q main K post X:=by induction h with|done h=>exact .done h|step _ ok _ a=>exact .step ok a
def Pn(Q:ck)(main:Bool)(K:c5)(Inv post:aV->Prop)(X:aV)(w':aH):Prop:=
 j4 K X w'/\¬(K6 K X.mine w' (stepG Q main X.g w')/\∀g1 w1 es,stepG Q main X.g w'=.go g1 w1 es->ow Q main K Inv post ⟨g1,w1,grown X.mine w' w1⟩)
theorem Po{X:aV}(h:¬ow Q main K Inv post X):¬post X/\∃w',Inv X->Pn Q main K Inv post X w':=by
 refine⟨λc=>h (.done c),vax λhn=>h ?_⟩;have key:Inv X/\∀w',j4 K X w'->K6 K X.mine w' (stepG Q main X.g w')/\∀g1 w1 es,stepG Q main X.g w'=.go g1 w1 es->ow Q main K Inv post ⟨g1,w1,grown X.mine w' w1⟩:=
  ⟨vax λb=>hn ⟨X.w,λh=>absurd h b⟩,λw' a=>vax λb=>hn ⟨w',λ_=>⟨a,b⟩⟩⟩
 exact .step key.1 (λw' a=>(key.2 w' a).1) (λw' g1 w1 es a hs=>(key.2 w' a).2 g1 w1 es hs)
def ahT(Q:ck)(main:Bool)(K:c5)(Inv post:aV->Prop)(a:aV):∃(X:Nat->aV)(v:Nat->aH),X 0=a/\(∀k,¬ow Q main K Inv post (X k)->Inv (X k)->Pn Q main K Inv post (X k) (v k))/\
 ∀k g1 w1 es,stepG Q main (X k).g (v k)=.go g1 w1 es->X (k+1)=⟨g1,w1,grown (X k).mine (v k) w1⟩:=by
 have pick:∀X:aV,∃w':aH,¬ow Q main K Inv post X->Inv X->Pn Q main K Inv post X w':=by
  intro X;by_cases h:ow Q main K Inv post X
  .simp_all
  simp_all[Po]
 obtain⟨p,b⟩:=vbj.1 pick;refine⟨λk=>Nat.rec a (λ_ X=>match stepG Q main X.g (p X)with| .go g1 w1 _=>⟨g1,w1,grown X.mine (p X) w1⟩| _=>X) k,λk=>p _,U,λk=>b _,λk g1 w1 es h=>?_⟩;grind
end
def HD(base:fA)(X:aV):Prop:=∃fr cs,X.g=bf fr (cs++base)
def pk(cw:Nat)(B E:uas):Nat->Nat
 |0=>cw
 |k+1=>pk cw B E k+(E k-B k)
def We(cw:Nat)(B E:uas){k l:Nat}(h:k<=l):pk cw B E k<=pk cw B E l:=by induction h with|refl=>grind|step _ a=>exact vac a (vdp _ _)
open Classical in
def ahU(cw:Nat)(B E:uas)(c:Nat->Nat->Question->Nat):∃T:Nat->Question->Nat,∀k j q,B k+j<E k->T (pk cw B E k+j) q=c k (B k+j) q:=by
 refine⟨λi q=>if h:∃k,pk cw B E k<=i/\i<pk cw B E (k+1)then c (Classical.choose h) (B (Classical.choose h)+(i-pk cw B E (Classical.choose h))) q else 0,λk j q f=>?_⟩;have b:∃k',pk cw B E k'<=pk cw B E k+j/\pk cw B E k+j<pk cw B E (k'+1):=⟨k,vdp _ _,by grind[pk]⟩;simp only[dif_pos b];have e:=Classical.choose_spec b;generalize Classical.choose b=k' at e;have hk:k'=k:=by
  rcases Nat.lt_trichotomy k' k with a|d|a
  .have:=We cw B E (Nat.succ_le_of_lt a);grind
  .exact d
  .have:=We cw B E (Nat.succ_le_of_lt a);grind[pk]
 grind
variable{EF nN:Frame}{cs0 xx:fA}{mf w0:aH}
section
variable{C:cy}{S:Sync}{ρ:Ren}
def eo.rely{K:c5}{X:aV}{bound:Nat}(h:eo C S ρ w X.w)(d:j4 K X w')(hd:∀a b,ρ.rel a b->K b\/X.mine b)(ht:∀j q,w'.drawn+j<bound->w.tape (w.drawn+j) q=w'.tape (w'.drawn+j) q):eo C ⟨w.drawn,w'.drawn,bound,S.T⟩ ρ w w':=
 ⟨λb c e=>by
  obtain⟨o,o',i,g,f⟩:=h.obj b c e;exact⟨o,o',i,(d.heap c (hd b c e)).trans g,f⟩,
  h.one,h.inj,h.nc,Nat.add_comm _ _,ht,h.env.trans d.env.symm,h.lone,h.still⟩
structure xw(C:cy)(K:c5)(T:Nat->Question->Nat)(jR:Ren)(n0:Nat)(base:fA)(ρ:Ren)(fr:Frame)(cs:fA)(w:aH)(X:aV):Prop where
 frames:∃aO bb,X.g=bf aO (bb++base)/\ep C ρ fr aO/\iV C ρ cs bb
 bottom:iW fr cs
 world:eo C ⟨w.drawn,X.w.drawn,0,T⟩ ρ w X.w
 le:Ren.le jR ρ
 mine:∀b,ρ.mine b->X.mine b
 dom:∀a b,ρ.rel a b->K b\/X.mine b
 old:∀a b,ρ.rel a b->jR.rel a b\/n0<=b
 size:n0<=X.w.heap.size
def Wf(hC:C.Good){base:fA}{d:Ren}(Pp:ep C d nN EF)(Pq:iV C d cs0 xx)(Q:iW nN cs0){K qY:c5}(W:∀T,eo C ⟨w0.drawn,mf.drawn,0,T⟩ d {w0 with tape:=T} mf)(t:∀b,d.mine b->qY b)(hK:∀a b,d.rel a b->K b\/qY b){R:Frame->List Frame->aH->Prop}(hrun:∀T,∃n dz cse bF,runN C.P n (lone nN (cs0++[eI f]) {w0 with tape:=T})=.next (lone dz (cse++[eI f]) bF)/\R dz cse bF)(main:Bool):
 ow C.Q main K (HD base) (λX=>∃ρ fr cs w T,R fr cs w/\xw C K T d mf.heap.size base ρ fr cs w X) ⟨bf EF (xx++base),mf,qY⟩:=by
 generalize HE:(λX=>∃ρ fr cs w T,R fr cs w/\xw C K T d mf.heap.size base ρ fr cs w X)=post
 have azr:∀X,(∃ρ fr cs w T,R fr cs w/\xw C K T d mf.heap.size base ρ fr cs w X)->post X:=AN
 clear HE
 apply vax
 intro hn
 generalize F:(⟨bf EF (xx++base),mf,qY⟩:aV)=K7 at hn
 obtain⟨X,v,D,ji,c0⟩:=ahT C.Q main K (HD base) post K7
 let B:Nat->Nat:=λk=>(v k).drawn
 let E:Nat->Nat:=λk=>(iF (stepG C.Q main (X k).g (v k))).drawn
 obtain⟨T,hT⟩:=ahU w0.drawn B E λk=>(v k).tape
 obtain⟨n,dz,cse,bF,hrun,K8⟩:=hrun T
 have main:∀(n k:Nat)(ρ:Ren)(fr:Frame)(cs:fA)(w:aH),xw C K T d mf.heap.size base ρ fr cs w (X k)->w.drawn=pk w0.drawn B E k->¬ow C.Q main K (HD base) post (X k)->
  runN C.P n (lone fr (cs++[eI f]) w)=.next (lone dz (cse++[eI f]) bF)->False:=by
  intro n;induction n with
  |zero=>grind[runN,Wd,List.append_cancel_right,Po]
  |succ n V=>
   intro k ρ fr cs w ht hd L Z;obtain⟨g,l⟩:=ji k L (by obtain⟨aO,bb,hg,_⟩:=ht.frames;exact⟨aO,bb,hg⟩);have o:=c0 k;have O:=hT k;have N:B k=(v k).drawn:=rfl;have m:E k=(iF (stepG C.Q main (X k).g (v k))).drawn:=rfl;generalize hv:v k=v' at g l o O N m;generalize azs:X k=Y at ht L g l o m;obtain⟨aO,bb,hg,bL,u⟩:=ht.frames;have fS:eo C ⟨w.drawn,v'.drawn,E k,T⟩ ρ w v':=ht.world.rely g ht.dom λj q M=>by have:=O j q AN;rw[N,<-hd]at this;rw[ht.world.lone];grind
   rw[hg]at m l o;rcases ahS hC bL u ht.bottom fS (Nat.le_of_eq m.symm) Z with⟨h1,h2,h3⟩|⟨n',g1,w1,Bl,hst,P⟩
   .grind[Po]
   .cases Bl;obtain⟨σ,rT,cs1,s,J,i,es',Pr,hs,A,z,U,e,c,nL⟩:=hst;subst Pr;rw[hs]at m l o;have y:=o _ _ _ rfl;have hsz:∀b,σ.mine b->grown Y.mine v' i b:=λb p=>by
     rcases c.back b p with h|h
     .exact .inl (ht.mine b h)
     .rcases c.low b p with x|x
      .exact .inl (ht.mine b x)
      .exact .inr ⟨h,x⟩
    have I:∀a b,σ.rel a b->K b\/grown Y.mine v' i b:=λa b r=>by
     rcases c.old a b r with h|h
     .exact(ht.dom a b h).imp id .inl
     .obtain⟨_,o',_,h2,_⟩:=e.obj a b r;exact .inr (.inr ⟨h,by
       grind⟩)
    have H:Pm K Y.mine v' (bf s (J++base)) i es':=by refine⟨rfl,rfl,λb p t=>c.kept b p λh=>t (ht.mine b h),c.size,c.os,c.output,c.tape,c.drawn,λev azt=>?_⟩;grind[wb,xv]
    have azu:¬ow C.Q main K (HD base) post ⟨bf s (J++base),i,grown Y.mine v' i⟩:=λhc=>l ⟨⟨_,_,_,rfl,H⟩,λg2 w2 sW e2=>AN⟩;have S:w1.drawn=pk w0.drawn B E (k+1):=by have Wi:=e.sync;have azv:=c.drawn;grind[pk,iF]
    refine V (k+1) σ rT cs1 w1 ?_ S AN P;rw[y];refine⟨⟨s,J,rfl,A,z⟩,U,?_,Ren.le_trans ht.le c.le,hsz,I,λa b r=>?_,vac ht.size (vac g.size c.size)⟩
    .exact⟨e.obj,e.one,e.inj,e.nc,Nat.add_comm _ _,λj q M=>absurd M (Nat.not_lt_zero _),e.env,e.lone,e.still⟩
    .rcases c.old a b r with h|h
     .exact ht.old a b h
     .exact .inr (vac ht.size (vac g.size h))
 refine main n 0 d nN cs0 {w0 with tape:=T} ?_ rfl ?_ hrun
 .rw[D];subst F;exact⟨⟨_,xx,rfl,Pp,Pq⟩,Q,W T,Ren.le_refl _,t,hK,λa b h=>.inl h,vad _⟩
 grind
def Wj(h:C.Good){base:fA}{c:Ren}(j:ep C c nN EF)(i:iV C c cs0 xx)(d:iW nN cs0){K qY:c5}(e:∀T,eo C ⟨w0.drawn,mf.drawn,0,T⟩ c {w0 with tape:=T} mf)(g:∀b,c.mine b->qY b)(hK:∀a b,c.rel a b->K b\/qY b){R:Frame->List Frame->aH->Prop}(hrun:∀T,∃n dz cse bF,runN C.P n (lone nN (cs0++[eI f]) {w0 with tape:=T})=.next (lone dz (cse++[eI f]) bF)/\R dz cse bF)(main:Bool):
 iH C.Q main K (λX=>∃ρ fr cs w T,R fr cs w/\xw C K T c mf.heap.size base ρ fr cs w X) ⟨bf EF (xx++base),mf,qY⟩:=(Wf (f:=f) h j i d e g hK hrun main).dV
theorem iH.mono{Q:ck}{main:Bool}{K:c5}{post a:aV->Prop}{X:aV}(h:iH Q main K post X)(c:∀Y,post Y->a Y):iH Q main K a X:=by induction h with|done h=>exact .done (c _ h)|step ok _ b=>exact .step ok b
def ah2(h:C.Good){fn:Func}{c:Code}(m:C.P.funcs[f]?=some fn)(p:fn.body=some c){args g:dC}{d:Ren}(r:aL d args g){K qY:c5}(k:∀T,eo C ⟨w0.drawn,mf.drawn,0,T⟩ d {w0 with tape:=T} mf)(o:∀b,d.mine b->qY b)(hK:∀a b,d.rel a b->K b\/qY b){R:Ending->aH->Prop}(x:∀e w,R e w->e≠ .outgrown)(j:∀T,Calls C.P f args {w0 with tape:=T} R)(main:Bool)(base:fA):
 iH C.Q main K (λX=>∃ρ fr w T e,R e w/\fr.fn=f/\fr.leaving C.P w e/\xw C K T d mf.heap.size base ρ fr [] w X) ⟨bf (Frame.enter C.Q f g .normal) base,mf,qY⟩:=by
 have q:iW (Frame.enter C.P f args .normal) []:=by unfold Frame.enter;exact⟨U,U⟩
 refine(Wj (f:=f) (base:=base) (R:=λfr cs w=>cs=[]/\∃e,R e w/\fr.fn=f/\fr.leaving C.P w e) h (.enter h.funcs r m p Ij) .nil q k o hK (λT=>?_) main).mono ?_
 .obtain⟨e,bF,dz,y,i,u,s⟩:=j T [eI f];have t:Steps C.P (lone (Frame.enter C.P f args .normal) [eI f] {w0 with tape:=T}) (lone dz [eI f] bF):=by cases e with|outgrown=>grind|returned v=>exact i|panicked l=>exact i
  obtain⟨n,hn⟩:=t;grind
 grind
end
variable{ao:Type}
def K_:∀(l:List (String×ao)),l.all (λp=> !("" ==p.1))=true->l.lookup "" =none:=by grind
theorem Wl:Extern.allNextRows.lookup "" =none:=K_ _ AT
theorem ah5:Extern.allRows.lookup "" =none:=K_ _ AT
theorem ah6:Extern.allTypedRows.lookup "" =none:=K_ _ AT
theorem ah7:Extern.allGenericRows.lookup "" =none:=K_ _ AT
abbrev HI(args:dC):Sem Value:=do
 let(x,y,c) <-Extern.MathBitsCarry.three "Add64" args
 pure (Extern.MathBitsCarry.pair ((x+y+c) % Extern.MathBitsCarry.m64) ((x+y+c) / Extern.MathBitsCarry.m64))
theorem ah8:Extern.allNextRows.lookup "math/bits.Add64" =none:=by kernel_rfl
theorem ah9:Extern.allRows.lookup "math/bits.Add64" =some HI:=by kernel_rfl
theorem ah_:Extern.allTypedRows.lookup "math/bits.Add64" =none:=by kernel_rfl
theorem aia:Extern.allGenericRows.lookup "math/bits.Add64" =none:=by kernel_rfl
def HJ(fn:Func):Bool:=fn.name== "math/bits.Add64" &&fn.origin== "" &&fn.body.isNone
def Ps{fn:Func}(h:HJ fn=true):Extern.findNext fn=none/\Extern.find fn=some HI/\fn.body=none/\(fn.name== "runtime.NumGoroutine")=false:=by
 simp only[HJ,vae,beq_iff_eq,Option.isNone_iff_eq_none]at h;obtain⟨⟨a,b⟩,c⟩:=h;refine⟨?_,?_,c,by rw[a];decide⟩
 .simp only[Extern.findNext,a,b,ah8,Wl,Option.map_none];rfl
 .simp only[Extern.find,a,b,ah9,ah_,aia,Option.map_none];rfl
theorem Wm(x y c:Value):Extern.MathBitsCarry.three "Add64" #[x,y,c]=(do
 let c:=(<-asInt c).toNat
 if c>1 then unsupported (.noEntry ("extern/math/bits." ++ "Add64" ++ ": a carry that is neither 0 nor 1"))
 pure ((<-asInt x).toNat,(<-asInt y).toNat,c)):=rfl
variable{a':dC}
def aib{C:cy}{ρ:Ren}{a:dC}(h:aL ρ a a'):al C ρ ap (HI a) (HI a'):=by
 unfold HI;have three:al C ρ (λ_ x y=>x=y) (Extern.MathBitsCarry.three "Add64" a) (Extern.MathBitsCarry.three "Add64" a'):=by obtain⟨l⟩:=a;obtain⟨f⟩:=a';have hs:=h.size;match l,f with| [x,y,c],[x',b,d]=>have i:=h.get 0 x x' U U;have g:=h.get 1 y b U U;have j:=h.get 2 c d U U;show al C ρ (λ_ x y=>x=y) (Extern.MathBitsCarry.three "Add64" #[x,y,c]) (Extern.MathBitsCarry.three "Add64" #[x',b,d]);rw[Wm,Wm];refine .bind (al.asInt j) λσ n o l1 e=>?_;subst e;refine .ite (λ_=>by first|exact .unsupported|exact .cut .unsupported) (λ_=>?_);refine .bind (al.asInt (i.mono l1)) λaU m r l2 e=>?_;subst e;refine .bind (al.asInt ((g.mono l1).mono l2)) λs k k' t e=>?_;subst e;exact .pure U| [],_=>exact .stuck| [_],_=>exact .stuck| [_,_],_=>exact .stuck| _::_::_::_::_,_=>exact .stuck| [_,_,_],[]=>simp at hs| [_,_,_],[_]=>simp at hs| [_,_,_],[_,_]=>simp at hs| [_,_,_],_::_::_::_::_=>simp at hs
 refine .bind three λσ p q _ e=>?_;subst e;exact .pure (.A2 (agH (.int _ _) (.int _ _)))
def fG(P:ck)(upd:Bool)(fn:Func):Bool:=fn.body.any (jP P upd)&&fn.name != "runtime.NumGoroutine"
def Bm(P:ck)(upd:Bool)(fn:Func):Func:=if fG P upd fn||HJ fn then fn else{fn with name:= "",origin:= "",body:=none}
def aa(P:ck)(upd:Bool):ck:={P with funcs:=P.funcs.map (Bm P upd)}
def cm(P:ck)(upd:Bool):cy:={P:=aa P upd,Q:=P,fF:=λc=>jP (aa P upd) upd c=true,upd:=upd}
theorem Pt(P:ck)(u:Bool)(t:uaa):(aa P u).underlying t=P.underlying t:=rfl
def Wn(P:ck)(u:Bool):∀(n:Nat)(t:uaa),p6 (aa P u) n t=p6 P n t:=by intro n;induction n with|zero=>intro t;rfl|succ n a=>grind[p6,Pt]
theorem Pu(P:ck)(u:Bool)(x:uaq):gu (aa P u) x=gu P x:=by cases x<;>rfl
theorem Pv(P:ck)(u:Bool):gu (aa P u)=gu P:=vee (Pu P u)
def aic(P:ck)(u:Bool)(op:BinOp)(t:uaa):zE (aa P u) op t=zE P op t:=by simp_all[zE,Wn,Pt]
theorem aid(P:ck)(u:Bool)(t:uaa):Hn (aa P u) t=Hn P t:=rfl
theorem aie(P:ck)(u:Bool)(t:uaa):Ho (aa P u) t=Ho P t:=rfl
theorem aif(P:ck)(u:Bool)(t:uaa):Hp (aa P u) t=Hp P t:=rfl
def aig(P:ck)(u:Bool)(t:uaa):xl (aa P u) t=xl P t:=by simp only[xl,Wn,Pt]
def aih(P:ck)(u:Bool)(c:Call):Ey (aa P u) c=Ey P c:=by grind[Ey,Pv]
def aii(P:ck)(u:Bool)(c:Call):Hv (aa P u) c=Hv P c:=by grind[Hv,Pv]
theorem aij(P:ck)(u:Bool)(s d:uaa):Hw (aa P u) s d=Hw P s d:=rfl
def Wo(P:ck)(upd u:Bool)(o:Op):mK (aa P u) upd o=mK P upd o:=by simp_all[mK,Pv,aic,aid,aie,aif,aig,aih,aii,aij]
def Wp(P:ck)(upd u:Bool)(c:Code):jP (aa P u) upd c=jP P upd c:=by induction c with|region id ops d=>simp only[jP,Wo]|seq a b h g=>grind[jP]|cond c a b h g=>grind[jP,Pu]|block id b e=>grind[jP]|loop b e=>grind[jP]|scope b e=>grind[jP]|rangeFunc f p a b h g=>grind[jP,Pu]| _=>rfl
def Wq{P:ck}{upd:Bool}{fn:Func}(h:(aa P upd).funcs[f]?=some fn):∃a,P.funcs[f]?=some a/\fn=Bm P upd a:=by simp only[aa,vbw]at h;grind
def bo{P:ck}{upd:Bool}{fn:Func}(h:P.funcs[f]?=some fn)(hk:fG P upd fn=true):(aa P upd).funcs[f]?=some fn:=by simp_all[aa,Bm]
def aik(P:ck)(upd:Bool):(cm P upd).Bf:=by
 refine⟨λf fn c h b=>?_,λf fn h b ρ a a' s=>?_⟩
 .obtain⟨d,h0,rfl⟩:=Wq h;unfold Bm at b⊢;by_cases hk:fG P upd d=true
  .rw[vdi (by rw[hk];rfl)]at b⊢;simp only[fG,vae,bne_iff_ne,b,Option.any_some]at hk;exact⟨h0,(Wp P upd upd c).trans hk.1,hk.2⟩
  .by_cases g:HJ d=true
   .rw[vdi (by rw[g,Bool.or_true]),(Ps g).2.2.1]at b;cases b
   .rw[vcy BB]at b;cases b
 .obtain⟨d,h0,e⟩:=Wq h;by_cases g:HJ d=true
  .have i:fn=d:=by rw[e];unfold Bm;rw[vdi (by rw[g,Bool.or_true])]
   subst i;obtain⟨r,o,n,m⟩:=Ps g;unfold callFunc;refine .bind .program λσ p q l1⟨i,k⟩=>?_;have j:(cm P upd).P.funcs[f]?=some fn:=h;have l:(cm P upd).Q.funcs[f]?=some fn:=h0;rw[i,k,j,l];simp only[m,n,Option.isNone_none,vbx,vai,vcj,r,o];refine .bind (al.extern f) λaU _ _ l2 _=>?_;exact .bind (aib ((s.mono l1).mono l2)) λy v v' _ hv=>.pure (.value hv)
  have t:fn.name= "" /\fn.origin= "" :=by
   unfold Bm at e;by_cases hk:fG P upd d=true
   .simp_all[fG]
   simp_all
  intro S w w' x hg _;exfalso;have i:Extern.findNext fn=none:=by grind[Extern.findNext,Wl]
  have k:Extern.find fn=none:=by grind[Extern.find,ah5,ah6,ah7]
  have:∃u w1,(callFunc f a).run (aa P upd) w=.halt (.unsupported (.extern u)) w1:=by unfold callFunc;refine⟨ "",w,?_⟩;have j:(aa P upd).funcs[f]?=some fn:=h;simp only[mc,Go.program,Sem.run,j,t.1,b,i,k];rfl
  obtain⟨u,w1,z⟩:=this;simp_all[Good,callFunc,aa]
def zL(i:TypeInfo):Prop:=∀v,i.zero=some v->iU v
def EG{d:TypeDesc}{s:String}{z:Value}{c:Bool}{n:Nat}(h:iU z):zL (Made.word d s z c n):=by intro v hv;grind[Made.word]
theorem kl.append{a b:dC}(d:kl a)(c:kl b):kl (a++b):=by
 intro i v h;rw[Array.getElem?_append]at h;split at h
 .exact d _ _ h
 .exact c _ _ h
def kl.ail{z:dC}(b:kl z)(n:Nat):kl (Array.replicate n z).flatten:=by induction n with|zero=>intro i v h;grind|succ n a=>rw[vbb];simp only[Array.flatten_push];exact a.append b
variable{aN:Type}
def aim(I:aN->Prop)(f:ao->aN->Option (ForInStep aN))(hstep:∀a b r,I b->f a b=some r->∃c,r=.yield c/\I c):
 ∀(l:List ao)(b r:aN),I b->forIn l b f=some r->I r:=by
 intro l;induction l with|nil=>grind|cons a l d=>intro b r g h;simp only[List.forIn_cons]at h;cases e:f a b with|none=>grind|some s=>grind
variable{info:TypeId->Option TypeInfo}
def ain(hi:∀t i,info t=some i->zL i){fs:Array Field}{i:TypeInfo}(h:Made.reckonStruct info fs=some i):zL i:=by
 unfold Made.reckonStruct at h;simp only[bind,vbd]at h;obtain⟨s,hs,h⟩:=h;have hI:∀z,s.2.2.2.2.2.2.2.1=some z->kl z:=by
  rw[<-Array.forIn_toList]at hs;refine aim (λs:Array Field×Nat×Nat×Nat×Nat×Bool×Bool×Option (Array Value)×String=>∀z,s.2.2.2.2.2.2.2.1=some z->kl z) _ ?_ _ _ _ ?_ hs
  .intro f b r l d;simp only[vbd]at d;obtain⟨j,k,d⟩:=d;have key:∀(c:Prop)[Decidable c](z:dC),(if c then none else b.2.2.2.2.2.2.2.1.bind λa=>j.zero.bind λv=>pure (a++v.cells))=some z->kl z:=by
    intro c _ z e;split at e
    .cases e
    .simp only[vbd,pure,vbk]at e;obtain⟨a,m,v,hv,rfl⟩:=e;exact(l a m).append (hi _ _ k v hv).cells
   have leaf:∀{x:Array Field×Nat×Nat×Nat×Nat×Bool×Bool×Option (Array Value)×String},(pure (ForInStep.yield x):Option (ForInStep _))=some r->(∀z,x.2.2.2.2.2.2.2.1=some z->kl z)->∃g,r=.yield g/\∀z,g.2.2.2.2.2.2.2.1=some z->kl z:=
    λo n=>⟨_,(vbq o).symm,n⟩
   split at d
   .cases d
   split at d
   .cases d
   split at d
   all_goals
    simp only[vbd]at d;obtain⟨_,_,d⟩:=d;split at d
    .exact leaf d λz e=>key _ z e
    .exact leaf d λz e=>key _ z e
  .intro z e;cases e;intro i v h;grind
 have dU:∀v,Option.map Value.agg s.2.2.2.2.2.2.2.1=some v->iU v:=by intro v hv;rw[vaj]at hv;obtain⟨z,e,rfl⟩:=hv;exact .agg (hI z e)
 split at h
 .cases h;exact dU
 .cases h;exact dU
def aio(hi:∀t i,info t=some i->zL i){d:TypeDesc}{i:TypeInfo}(h:Made.reckon info d=some i):zL i:=by
 cases d with
 |pointer e=>
  simp only[Made.reckon,bind,vbd]at h;obtain⟨j,_,h⟩:=h;split at h
  .cases h
  .split at h
   .cases h
   .simp only[vbd,pure,vbk]at h;obtain⟨_,_,rfl⟩:=h;exact EG .lg
  .simp only[vbd,pure,vbk]at h;obtain⟨_,_,rfl⟩:=h;exact EG .lg
 |slice e=>simp only[Made.reckon,bind,vbd,pure,vbk]at h;obtain⟨_,_,_,_,rfl⟩:=h;exact EG (.h7 _ _)
 |map k e=>simp only[Made.reckon,bind,vbd,pure,vbk]at h;obtain⟨_,_,_,_,_,_,_,_,rfl⟩:=h;exact EG .pe
 |chan dir e=>simp only[Made.reckon,bind,vbd,pure,vbk]at h;obtain⟨_,_,_,_,rfl⟩:=h;exact EG .pf
 |func ps rs v=>simp only[Made.reckon,bind,vbd,pure,vbk]at h;obtain⟨_,_,rfl⟩:=h;exact EG .nilFunc
 |array n e=>
  simp only[Made.reckon,bind,vbd,pure,vbk]at h;obtain⟨j,b,_,_,rfl⟩:=h;intro v hv;simp only at hv;split at hv
  .cases hv
  .split at hv
   .cases hv;exact .agg λi v h=>AN
   .simp only[vaj]at hv;obtain⟨z,a,rfl⟩:=hv;exact .agg ((hi e j b z a).cells.ail n)
 |struct fs=>exact ain hi h
 | _=>cases h
def aip{T:Tables}(h:∀i∈T.types,zL i):∀(n:Nat)(t:uaa)(i:TypeInfo),Made.infoAt T n t=some i->zL i:=by
 intro n;induction n with
 |zero=>intro t i hi;cases hi
 |succ n a=>
  intro t i hi;simp only[Made.infoAt]at hi;split at hi
  .exact h i (vbf hi)
  .simp only[vbd]at hi;obtain⟨d,_,hd⟩:=hi;exact aio a hd
def aiq{P:ck}{upd:Bool}(h:(P.types.all λi=>i.zero.all (ik 8))=true):(cm P upd).sR:=by
 have ht:∀i∈P.types,zL i:=by intro i hi v hv;grind[Array.all_eq_true_iff_forall_mem,VS]
 intro t i v hi hv;have hi:P.info? t=some i:=hi;unfold Tables.info? at hi;split at hi
 .exact ht i (vbf hi) v hv
 .exact aip ht _ t i hi v hv
def Wr{P:ck}(upd:Bool)(h:(P.types.all λi=>i.zero.all (ik 8))=true)(a:P.follows .rangeFuncRecover=true):(cm P upd).Good:=
 ⟨U,aiq h,aik P upd,λ_=>Iff.rfl,a⟩
def c8(D M:c5):Ren:=⟨λa b=>a=b/\D b,M⟩
def air{a:Array ao}{b:Array aN}(h:a.size=b.size){i:Nat}{y:aN}(c:b[i]?=some y):∃x,a[i]?=some x:=by
 have hi:i<b.size:=by grind
 simp_all
section
variable{ρ σ:Ren}
def dq.right(h:∀a b,ρ.rel a b->σ.rel b b){a a':Addr}(k:dq ρ a a'):dq σ a' a':=⟨h _ _ k.1,U,U⟩
def sQ.right(h:∀a b,ρ.rel a b->σ.rel b b){f f':Fn}(k:sQ ρ f f'):sQ σ f' f':=by cases k with|func f=>exact .func f|yield c=>exact .yield (h _ _ c)
theorem ap.right(h:∀a b,ρ.rel a b->σ.rel b b){v v':Value}(k:ap ρ v v'):ap σ v' v':=by
 have all:∀{a a':dC},a.size=a'.size->(∀(i:Nat)(v v':Value),a[i]?=some v->a'[i]?=some v'->ap σ v' v')->∀(i:Nat)(x y:Value),a'[i]?=some x->a'[i]?=some y->ap σ x y:=by grind
 induction k with|bool b=>exact .bool b|int k n=>exact .int k n|string s=>exact .string s|lg=>exact .lg|ptr r=>exact .ptr (r.right h)|h7 l c=>exact .h7 l c|slice l c r=>exact .slice l c (r.right h)|pe=>exact .pe|map r=>exact .map (h _ _ r)|pf=>exact .pf|func g m j _ _ f e=>exact .func (g.right h) U U (all m f) (all j e)|nilFunc=>exact .nilFunc|iface t _ d=>exact .iface t d|nilIface=>exact .nilIface|agg hs _ d=>exact .agg U (all hs d)|tuple hs _ d=>exact .tuple U (all hs d)
theorem aL.right(h:∀a b,ρ.rel a b->σ.rel b b){a:dC}(k:aL ρ a a'):aL σ a' a':=by refine⟨U,λi x y c d=>?_⟩;rw[c]at d;cases d;obtain⟨z,e⟩:=air k.size c;exact(k.get i z x e c).right h
def de.right{R:ao->aN->Prop}{c:aN->aN->Prop}(h:∀a b,R a b->c b b){l:List ao}{m:List aN}(k:de R l m):de c m m:=by induction k with|nil=>exact .nil|cons x _ d=>exact .cons (h _ _ x) d
theorem g3.right{C:cy}(h:∀a b,ρ.rel a b->σ.rel b b){o o':Obj}(k:g3 C ρ o o'):g3 C σ o' o'\/KN o':=by cases k with|cells e f g=>exact .inl (.cells e (f.right h) ⟨λ_ x=>x,λ_=>U⟩)|map c d=>exact .inl (.map c (d.right λa b x=>⟨x.key.right h,x.val.right h,U⟩))|stringIter s p=>exact .inr trivial|A5 a b c=>exact .inr trivial|mapIter h a b c=>exact .inr trivial|loop h=>exact .inr trivial|deferred h=>exact .inr trivial|taken=>exact .inr trivial|number hn l=>exact .inl (.number (hn.right h) l)|shut h=>grind
end
def eA(C:cy)(D M:c5)(w:aH):Prop:=∀b,D b->∃o,w.heap[b]?=some o/\(g3 C (c8 D M) o o\/KN o)
def eo.closed{C:cy}{S:Sync}{ρ:Ren}(h:eo C S ρ w w')(M:c5):eA C (λb=>∃a,ρ.rel a b) M w':=by rintro b ⟨a,e⟩;obtain⟨o,o',_,d,c⟩:=h.obj a b e;exact⟨o',d,c.right (σ:=c8 (λb=>∃a,ρ.rel a b) M) λx y f=>⟨U,x,f⟩⟩
def EH(C:cy)(D M:c5)(b:Nat)(o lp:Obj):Prop:=
 (g3 C (c8 D M) o o/\M b/\lp=o)\/
 (g3 C (c8 D M) o o/\¬M b/\((∃c e fr,o=.cells c e fr/\lp=.cells c e (0,c.size+fr.2))\/(∃a l,o=.number a l/\lp=o)\/
  ((∀c e fr,o≠ .cells c e fr)/\(∀a l,o≠ .number a l)/\lp=.coro none)))\/
 (¬g3 C (c8 D M) o o/\lp=.coro none)
def ais(C:cy)(D M:c5)(b:Nat)(o:Obj):∃g,EH C D M b o g:=by
 by_cases d:g3 C (c8 D M) o o
 .by_cases f:M b
  .exact⟨o,.inl ⟨d,f,U⟩⟩
  .cases o with|cells c e fr=>exact⟨_,.inr (.inl ⟨d,f,.inl ⟨c,e,fr,U,U⟩⟩)⟩|number a l=>exact⟨_,.inr (.inl ⟨d,f,.inr (.inl ⟨a,l,U,U⟩)⟩)⟩| _=>exact⟨.coro none,.inr (.inl ⟨d,f,.inr (.inr ⟨Ab,Ab,U⟩)⟩)⟩
 .exact⟨_,.inr (.inr ⟨d,U⟩)⟩
def EH.rel{C:cy}{D M:c5}{b:Nat}{o f:Obj}(k:EH C D M b o f)(j:C.upd=true->M b\/¬g3 C (c8 D M) o o)(h:g3 C (c8 D M) o o\/KN o):g3 C (c8 D M) f o:=by
 rcases k with⟨d,_,rfl⟩|⟨d,n,⟨c,e,fr,rfl,rfl⟩|⟨a,l,rfl,rfl⟩|⟨n1,q,rfl⟩⟩|⟨d,rfl⟩
 .exact d
 .have g:=d;cases d with|cells _ m p=>exact .cells e m ⟨λi x=>⟨vaz _,van x.2 (Nat.le_add_left _ _)⟩,λx=>(j x).elim (λy=>absurd y n) (λy=>absurd g y)⟩
 .exact d
 .refine .shut ?_;have g:=d;cases d with|cells e _ _=>grind|number _ _=>grind|shut h=>exact h| _=>trivial
 .exact .shut (h.resolve_left d)
def EH.still{C:cy}{D M:c5}{b:Nat}{o d:Obj}(k:EH C D M b o d)(f:C.upd=true->M b\/¬g3 C (c8 D M) o o)(j:¬M b):(C.upd=false/\∃c e fr,d=.cells c e fr/\∀i,i<c.size->wa fr i)\/Et d:=by
 rcases k with⟨_,h,_⟩|⟨g,_,⟨c,e,fr,rfl,rfl⟩|⟨a,l,rfl,rfl⟩|⟨_,_,rfl⟩⟩|⟨_,rfl⟩
 .grind
 .exact .inl ⟨by
   grind,c,e,_,U,λi hi=>⟨vaz _,van hi (vdp _ _)⟩⟩
 .exact .inr (.number a l)
 .exact .inr .coro
 .exact .inr .coro
structure fX(C:cy)(D M:c5)(w w0:aH):Prop where
 size:w0.heap.size=w.heap.size
 drawn:w0.drawn=w.drawn
 os:w0.os=w.os
 obj:∀b o,w.heap[b]?=some o->∃lp,w0.heap[b]?=some lp/\EH C D M b o lp
def EI(C:cy)(D M:c5)(w:aH):∃w0,fX C D M w w0:=by obtain⟨f,a⟩:=vbj.1 λb=>vbj.1 λo=>ais C D M b o;refine⟨{w with heap:=w.heap.mapIdx f},Ab,U,U,λb o h=>⟨f b o,?_,a b o⟩⟩;grind
theorem fX.rel{C:cy}{D M:c5}(h:fX C D M w w0)(n:eA C D M w)(hg:∀g,g<=C.P.globals.size->D g)(l:C.upd=true->∀b,D b->M b\/∀o,w.heap[b]?=some o->¬g3 C (c8 D M) o o)(T:Nat->Question->Nat):
 eo C ⟨w0.drawn,w.drawn,0,T⟩ (c8 D M) {w0 with tape:=T} w:=by
 refine⟨?_,?_,?_,λg h=>⟨U,hg g h⟩,Nat.add_comm _ _,λj q s=>absurd s (Nat.not_lt_zero _),by show w0.os.env=_;rw[h.os],U,?_⟩
 .rintro b p ⟨rfl,hd⟩;obtain⟨o,d,m⟩:=n b hd;obtain⟨i,f,k⟩:=h.obj b o d;exact⟨i,o,f,d,k.rel (λe=>(l e b hd).imp id λy=>y o d) m⟩
 .rintro a b p ⟨rfl,_⟩ ⟨rfl,_⟩;rfl
 .rintro a a' b ⟨rfl,_⟩ ⟨h,_⟩;grind
 .rintro b p ⟨rfl,hd⟩ r;obtain⟨o,d,m⟩:=n b hd;obtain⟨i,f,k⟩:=h.obj b o d;have f:({w0 with tape:=T}:aH).heap[b]?=some i:=f;rw[f];rcases k.still (λe=>(l e b hd).imp id λy=>y o d) r with⟨t,c,e,fr,rfl,u⟩|hd
  .grind
  grind
theorem fX.cells{C:cy}{D M:c5}{w w0:aH}(h:fX C D M w w0)(p:eA C D M w){b:Nat}(hd:D b){c:dC}{e:uaa}{fr:ubo}(f:w.heap[b]?=some (.cells c e fr)):
 ∃nN,w0.heap[b]?=some (.cells c e nN)/\(M b->nN=fr):=by
 obtain⟨o,i,n⟩:=p b hd;rw[f]at i;cases i;have j:g3 C (c8 D M) (.cells c e fr) (.cells c e fr):=n.resolve_right λx=>x;obtain⟨q,g,m⟩:=h.obj b _ f;rcases m with⟨_,_,rfl⟩|⟨_,k,⟨s,r,aO,d,rfl⟩|⟨a,l,d,_⟩|⟨n1,_,_⟩⟩|⟨hn,_⟩
 .exact⟨fr,g,λ_=>U⟩
 .cases d;exact⟨_,g,λx=>absurd x k⟩
 .cases d
 .exact absurd U (n1 _ _ _)
 .exact absurd j hn
def Wt{P:ck}{upd:Bool}(p:(cm P upd).Good){fn:Func}{c:Code}(m:P.funcs[f]?=some fn)(hk:fG P upd fn=true)(n:fn.body=some c){D M:c5}(r:eA (cm P upd) D M w)(hg:∀g,g<=P.globals.size->D g){args:dC}(l:upd=true->∀b,D b->M b)(o:aL (c8 D M) args args){R:Ending->aH->Prop}(q:∀e w,R e w->e≠ .outgrown)(i:fX (cm P upd) D M w w0)(j:∀T,Calls (aa P upd) f args {w0 with tape:=T} R)(main:Bool)(base:fA):
 iH P main (λb=>D b/\¬M b) (λX=>∃ρ fr w1 T e,R e w1/\fr.fn=f/\fr.leaving (aa P upd) w1 e/\xw (cm P upd) (λb=>D b/\¬M b) T (c8 D M) w.heap.size base ρ fr [] w1 X)
  ⟨bf (Frame.enter P f args .normal) base,w,M⟩:=by
 have k:(cm P upd).P.funcs[f]?=some fn:=bo m hk;exact ah2 (C:=cm P upd) (w0:=w0) (mf:=w) p k n o (i.rel r hg λe b hd=>.inl (l e b hd)) (λb h=>h)
  (λa b h=>by by_cases d:M b;exact .inr d;exact .inl ⟨h.2,d⟩) q j main base
theorem xw.closed{C:cy}{K:c5}{T:Nat->Question->Nat}{c ρ:Ren}{n0:Nat}{base:fA}{X:aV}(h:xw C K T c n0 base ρ fr cs w X)(M:c5):
 eA C (λb=>∃a,ρ.rel a b) M X.w:=h.world.closed M
def aiu(Q:ck)(main:Bool)(K:c5)(post:aV->Prop)(Y X:aV):Prop:=
 ¬post X/\∃w' g1 w1 es,j4 K X w'/\stepG Q main X.g w'=.go g1 w1 es/\Y=⟨g1,w1,grown X.mine w' w1⟩
def iH.acc{Q:ck}{main:Bool}{K:c5}{post:aV->Prop}{X:aV}(h:iH Q main K post X):Acc (aiu Q main K post) X:=by induction h with|done h=>exact⟨_,λY a=>absurd h a.1⟩|step _ _ b=>refine⟨_,λY a=>?_⟩;obtain⟨_,w',g1,w1,es,c,hs,rfl⟩:=a;grind
def iH.next{Q:ck}{main:Bool}{K:c5}{post:aV->Prop}{X:aV}(h:iH Q main K post X):
 post X\/∀w',j4 K X w'->∃g1 w1 es,stepG Q main X.g w'=.go g1 w1 es/\Pm K X.mine w' g1 w1 es/\iH Q main K post ⟨g1,w1,grown X.mine w' w1⟩:=by
 cases h with|done h=>grind|step ok h=>refine .inr λw' a=>?_;obtain⟨g1,w1,es,hs,hg⟩:=ok w' a;grind
def j4.others{K:c5}{X:aV}(h:j4 K X w)(hk:∀b,K b\/X.mine b->w1.heap[b]?=w.heap[b]?)(hs:w.heap.size<=w1.heap.size)(c:w1.os.env=w.os.env):j4 K X w1:=
 ⟨λb a=>(hk b a).trans (h.heap b a),vac h.size hs,c.trans h.env⟩
theorem j4.refl(K:c5)(X:aV):j4 K X X.w:=⟨λ_ _=>U,vad _,U⟩
def xz{ao:Type}(r:ao->ao->Prop)(l' l:List ao):Prop:=∃i x y,l[i]?=some x/\r y x/\l'=l.set i y
theorem aiv{r:ao->ao->Prop}{a:ao}(e:Acc r a):∀{l:List ao},Acc (xz r) l->Acc (xz r) (a::l):=by induction e with|intro a _ f=>intro l d;induction d with|intro l c ihl=>refine⟨_,?_⟩;rintro g ⟨i,x,y,hi,b,rfl⟩;cases i with|zero=>simp at hi;subst hi;exact f y b ⟨l,c⟩|succ i=>simp at hi;exact ihl _ ⟨i,x,y,hi,b,U⟩
def aiw{r:ao->ao->Prop}:∀(l:List ao),(∀x∈l,Acc r x)->Acc (xz r) l:=by intro l;induction l with|nil=>intro _;exact⟨_,λb⟨i,x,y,hi,_⟩=>AN⟩|cons a l c=>grind[aiv]
end av
namespace bn
open Conc ConcM av
structure eV where
 Lo:Type
 aM:Type
 a4:aM->Nat
 pl:aM->List Lo->Prop
 dH:Lo->aM->aM->Prop
 K:Nat->Prop
 g7:Nat->Prop
 s6:aM->aH->Prop
 tok:Lo->Bool
 deaf:Lo->Nat
 past:Lo->Bool
 Left:Lo->Prop
 zero:Lo->Prop
 nP:Lo->aM->Prop
 g6:Loc->Prop
 eU:Loc->Prop
 mu:Addr
 wg:Addr
 ox:Lo->Goroutine->Goroutine->Prop
structure eV.Good(Z:eV):Prop where
 refl:∀ ℓ γ,Z.dH ℓ γ γ
 trans:∀ ℓ a b c,Z.dH ℓ a b->Z.dH ℓ b c->Z.dH ℓ a c
 less:∀ ℓ γ ah,Z.dH ℓ γ ah->ah=γ\/Z.a4 ah<Z.a4 γ
 mt:∀γ w w',(∀b,Z.g7 b->w'.heap[b]?=w.heap[b]?)->Z.s6 γ w->Z.s6 γ w'
 mO:∀b,Z.K b->¬Z.g7 b
 one:∀γ(ls:List Z.Lo)(i j:Nat) a b,Z.pl γ ls->ls[i]?=some a->ls[j]?=some b->Z.tok a=true->Z.tok b=true->i=j
 nM:∀γ ls,Z.pl γ ls->∃(j:Nat)(l:Z.Lo),ls[j]?=some l/\¬Z.Left l/\¬Z.nP l γ
 zero:∀γ(ls:List Z.Lo)(j:Nat) l,Z.pl γ ls->ls[j]?=some l->Z.zero l->j=0
 EO:∀l,Z.g6 l->∃b,eT l=some b/\Z.g7 b
 Bq:∀l,Z.eU l->∃b,eT l=some b/\Z.g7 b
 s4:∀l,Z.g6 l->¬Z.eU l
section
variable(Z:eV)
def g8(l:Z.Lo)(γ:Z.aM):Prop:=∃(ls:List Z.Lo)(i:Nat),ls[i]?=some l/\Z.pl γ ls
structure dI(l:Z.Lo)(γ:Z.aM)(X:aV)(w:aH):Prop where
 rely:j4 Z.K X w
 mt:Z.s6 γ w
 sees:g8 Z l γ
 later:OsLater X.w.os w.os
 output:w.output=X.w.output
 tape:w.tape=X.w.tape
def uo(e:Event):Prop:=e.loc=.mark .disable\/e.loc=.mark .enable\/(∃a,e.loc=.mark (.acquire a))\/(∃a,e.loc=.mark (.releaseMerge a))\/(e.write=true/\∃b,eT e.loc=some b/\Z.g7 b)
def Br(l:Z.Lo)(g g1:uai)(es:uav):Prop:=(∃e∈es,uo Z e)\/Z.ox l g g1
def s7(l:Z.Lo)(mine:c5)(d:Nat)(e:Event):Prop:=
 match e.loc with
 | .cell a=>(e.sync=false/\((Z.K a.block/\e.write=false)\/mine a.block\/(Z.g6 (.cell a)/\Z.tok l=true))/\Z.past l=false)\/(e.sync=true/\Z.eU (.cell a)/\0<d)
 | .obj r=>e.sync=false/\((Z.K r/\e.write=false)\/mine r)/\Z.past l=false
 | .mark m=>zM m\/(Z.zero l/\∃a,Z.eU (.cell a)/\(m=.read a\/m=.write a))
 | .output=>True
 | .goroutines=>False
def nQ(l:Z.Lo)(mine:c5):Nat->List Event->Prop
 | _,[]=>True
 |d,e::r=>s7 Z l mine d e/\nQ l mine (zN d e) r
structure kZ(mine:c5)(w' w1:aH):Prop where
 kept:∀b,b<w'.heap.size->¬mine b->¬Z.g7 b->w1.heap[b]?=w'.heap[b]?
 size:w'.heap.size<=w1.heap.size
 os:OsLater w'.os w1.os
 output:w1.output=w'.output
 tape:w1.tape=w'.tape
structure Quiet(l:Z.Lo)(X:aV)(w':aH)(g1:uai)(w1:aH)(es:uav):Prop where
 run:g1.status=.running
 keep:kZ Z X.mine w' w1
 sh:∀b,b<w'.heap.size->Z.g7 b->w1.heap[b]?=w'.heap[b]?
 evs:nQ Z l (grown X.mine w' w1) (Z.deaf l) es.toList
 low:¬Br Z l X.g g1 es
def Bs(l:Z.Lo)(γ:Z.aM)(l1:Z.Lo)(bz:Z.aM):Prop:=
 Z.a4 bz<Z.a4 γ/\∀(ls:List Z.Lo)(i:Nat),ls[i]?=some l->Z.pl γ ls->Z.pl bz (ls.set i l1)/\∀(j:Nat)(kF:Z.Lo),j≠i->ls[j]?=some kF->Z.dH kF γ bz
def EP(m:Mark):Event:=⟨.mark m,false,true⟩
def Says(l l1:Z.Lo)(mine:c5)(es:uav):Prop:=
 (Z.tok l1=Z.tok l/\Z.past l1=Z.past l/\Z.deaf l1=deafBehind (Z.deaf l) es/\nQ Z l mine (Z.deaf l) es.toList)\/
 (es=#[EP (.acquire Z.mu)]/\Z.deaf l=0/\Z.deaf l1=0/\Z.tok l=false/\Z.tok l1=true/\Z.past l1=Z.past l)\/
 (es=#[EP (.releaseMerge Z.mu)]/\Z.deaf l=0/\Z.deaf l1=0/\Z.tok l=true/\Z.tok l1=false/\Z.past l1=Z.past l)\/
 (es=#[EP (.releaseMerge Z.wg)]/\Z.deaf l=0/\Z.deaf l1=0/\Z.tok l1=Z.tok l/\Z.past l1=true)
structure Wy(Q:ck)(l:Z.Lo)(γ:Z.aM)(X:aV)(w':aH)(g1:uai)(w1:aH)(es:uav)(l1:Z.Lo)(bz:Z.aM):Prop where
 run:g1.status=.running
 Ld:Br Z l X.g g1 es
 keep:kZ Z X.mine w' w1
 mt:Z.s6 bz w1
 zP:Bs Z l γ l1 bz
 says:Says Z l l1 (grown X.mine w' w1) es
 HM:mayWake Q X.g=true\/∀kF,Z.nP kF γ->Z.nP kF bz
structure PB(l:Z.Lo)(γ:Z.aM)(X:aV)(w':aH)(g1 child:uai)(w1:aH)(es:uav)(l1:Z.Lo)(bz:Z.aM)(lc:Z.Lo):Prop where
 run:g1.status=.running
 Wz:child.status=.running
 keep:kZ Z X.mine w' w1
 mt:Z.s6 bz w1
 a4:Z.a4 bz<Z.a4 γ
 zP:∀(ls:List Z.Lo),ls[0]?=some l->Z.pl γ ls->Z.pl bz (ls.set 0 l1++[lc])/\∀(j:Nat)(kF:Z.Lo),j≠0->ls[j]?=some kF->Z.dH kF γ bz
 evs:nQ Z l (grown X.mine w' w1) 0 es.toList
 deaf:Z.deaf l=0/\deafBehind 0 es=0/\Z.deaf l1=0/\Z.deaf lc=0
 tok:Z.tok l1=Z.tok l/\Z.tok lc=false
 past:Z.past l1=Z.past l/\Z.past lc=false
 HM:∀kF,Z.nP kF γ->Z.nP kF bz
 stays:¬Z.Left l1/\¬Z.Left lc
def Comes(Q:ck)(Stop:Bool->Z.Lo->aV->Prop)(m:Bool)(l:Z.Lo)(γ:Z.aM)(X:aV)(w':aH)(c:Z.Lo×Z.aM×Z.Lo):Prop:=
 (∃g1 w1 es,stepG Q m X.g w'=.go g1 w1 es/\Quiet Z l X w' g1 w1 es)\/
 (∃g1 w1 es,stepG Q m X.g w'=.go g1 w1 es/\Wy Z Q l γ X w' g1 w1 es c.1 c.2.1/\(Z.Left c.1->m=false/\Stop m c.1 ⟨g1,w1,grown X.mine w' w1⟩))\/
 (stepG Q m X.g w'=.go {X.g with status:=.blocked} w' #[]/\X.g.offers=none/\Z.nP l γ/\¬Z.ox l X.g {X.g with status:=.blocked})\/
 (m=true/\∃g1 child w1 es,stepG Q m X.g w'=.spawn g1 child w1 es/\PB Z l γ X w' g1 child w1 es c.1 c.2.1 c.2.2)
inductive bd(Q:ck)(Stop:Bool->Z.Lo->aV->Prop):Bool->Z.Lo->Z.aM->aV->Prop
 |stop {m:Bool} {l:Z.Lo} {γ:Z.aM} {X:aV} (h:Stop m l X):bd Q Stop m l γ X
 |step {m:Bool} {l:Z.Lo} {γ:Z.aM} {X:aV} (hs:X.g.status=.running) (ch:aH->Z.aM->Z.Lo×Z.aM×Z.Lo)
  (ok:∀w' ah,Z.dH l γ ah->dI Z l ah X w'->Comes Z Q Stop m l ah X w' (ch w' ah))
  (hq:∀w' ah g1 w1 es,Z.dH l γ ah->dI Z l ah X w'->stepG Q m X.g w'=.go g1 w1 es->g1.status=.running->¬Br Z l X.g g1 es->bd Q Stop m l ah ⟨g1,w1,grown X.mine w' w1⟩)
  (he:∀w' ah g1 w1 es,Z.dH l γ ah->dI Z l ah X w'->stepG Q m X.g w'=.go g1 w1 es->Br Z l X.g g1 es->bd Q Stop m (ch w' ah).1 (ch w' ah).2.1 ⟨g1,w1,grown X.mine w' w1⟩)
  (hm:∀w' ah g1 child w1 es,Z.dH l γ ah->dI Z l ah X w'->stepG Q m X.g w'=.spawn g1 child w1 es->bd Q Stop m (ch w' ah).1 (ch w' ah).2.1 ⟨g1,w1,grown X.mine w' w1⟩)
  (hc:∀w' ah g1 child w1 es,Z.dH l γ ah->dI Z l ah X w'->stepG Q m X.g w'=.spawn g1 child w1 es->bd Q Stop false (ch w' ah).2.2 (ch w' ah).2.1 ⟨child,w1,λ_=>False⟩):bd Q Stop m l γ X
end
section
variable{Z:eV}{Q:ck}{Stop:Bool->Z.Lo->aV->Prop}{m:Bool}{l:Z.Lo}{γ:Z.aM}{X:aV}
inductive Then(Q:ck)(Stop:Bool->Z.Lo->aV->Prop)(m:Bool)(l:Z.Lo)(γ:Z.aM)(X:aV)(w':aH):Prop
 |quiet {g1:uai} {w1:aH} {es:uav} (hs:stepG Q m X.g w'=.go g1 w1 es) (hq:Quiet Z l X w' g1 w1 es) (h:bd Z Q Stop m l γ ⟨g1,w1,grown X.mine w' w1⟩)
 |turn {g1:uai} {w1:aH} {es:uav} {l1:Z.Lo} {bz:Z.aM} (hs:stepG Q m X.g w'=.go g1 w1 es) (ht:Wy Z Q l γ X w' g1 w1 es l1 bz) (hl:Z.Left l1->m=false/\Stop m l1 ⟨g1,w1,grown X.mine w' w1⟩) (h:bd Z Q Stop m l1 bz ⟨g1,w1,grown X.mine w' w1⟩)
 |wait (hs:stepG Q m X.g w'=.go {X.g with status:=.blocked} w' #[]) (ho:X.g.offers=none) (hw:Z.nP l γ) (hp:¬Z.ox l X.g {X.g with status:=.blocked})
 |born {g1 child:uai} {w1:aH} {es:uav} {l1:Z.Lo} {bz:Z.aM} {lc:Z.Lo} (hm:m=true) (hs:stepG Q m X.g w'=.spawn g1 child w1 es) (hb:PB Z l γ X w' g1 child w1 es l1 bz lc)
  (h:bd Z Q Stop m l1 bz ⟨g1,w1,grown X.mine w' w1⟩) (hc:bd Z Q Stop false lc bz ⟨child,w1,λ_=>False⟩)
open Classical in
def bd.mk(hs:X.g.status=.running)(h:∀w' a,Z.dH l γ a->dI Z l a X w'->Then Q Stop m l a X w'):bd Z Q Stop m l γ X:=by
 have pick:∀w' a,∃c:Z.Lo×Z.aM×Z.Lo,Z.dH l γ a->dI Z l a X w'->Comes Z Q Stop m l a X w' c/\
  (∀g1 w1 es,stepG Q m X.g w'=.go g1 w1 es->g1.status=.running->¬Br Z l X.g g1 es->bd Z Q Stop m l a ⟨g1,w1,grown X.mine w' w1⟩)/\
  (∀g1 w1 es,stepG Q m X.g w'=.go g1 w1 es->Br Z l X.g g1 es->bd Z Q Stop m c.1 c.2.1 ⟨g1,w1,grown X.mine w' w1⟩)/\
  (∀g1 child w1 es,stepG Q m X.g w'=.spawn g1 child w1 es->bd Z Q Stop m c.1 c.2.1 ⟨g1,w1,grown X.mine w' w1⟩/\bd Z Q Stop false c.2.2 c.2.1 ⟨child,w1,λ_=>False⟩):=by
  intro w' a;by_cases i:Z.dH l γ a/\dI Z l a X w'
  .cases h w' a i.1 i.2 with|quiet hs hq h=>exact⟨(l,a,l),λ_ _=>⟨.inl AN,AN,AN,AN⟩⟩|turn hs ht g h=>exact⟨(_,_,l),λ_ _=>⟨.inr (.inl ⟨_,_,_,hs,ht,g⟩),λg1 w1 es e _ hn=>(by rw[hs]at e;cases e;exact absurd ht.Ld hn),AN,AN⟩⟩|wait hs p o n=>exact⟨(l,a,l),λ_ _=>⟨.inr AN,AN,λg1 w1 es e g=>(by rw[hs]at e;cases e;exact g.elim AN AN),AN⟩⟩|born j hs k h q=>exact⟨(_,_,_),λ_ _=>⟨.inr (.inr (.inr ⟨j,_,_,_,_,hs,k⟩)),AN,AN,AN⟩⟩
  .exact⟨(l,a,l),AN⟩
 obtain⟨ch,b⟩:=vbj.1 λx:aH×Z.aM=>pick x.1 x.2;exact .step hs (λw' a=>ch (w',a)) AN (λw' a g1 w1 es f d=>(b (w',a) f d).2.1 g1 w1 es) (λw' a g1 w1 es f d=>(b (w',a) f d).2.2.1 g1 w1 es)
  (λw' a g1 c w1 es f d e=>((b (w',a) f d).2.2.2 g1 c w1 es e).1) AN
def bd.next(h:bd Z Q Stop m l γ X):Stop m l X\/(X.g.status=.running/\∀w' a,Z.dH l γ a->dI Z l a X w'->Then Q Stop m l a X w'):=by
 cases h with
 |stop h=>grind
 |step hs ch ok hq g k n=>
  refine .inr ⟨hs,λw' a d b=>?_⟩;rcases ok w' a d b with⟨g1,w1,es,e,q⟩|⟨g1,w1,es,e,q,i⟩|⟨e,f,q,j⟩|⟨em,g1,c,w1,es,e,q⟩
  .exact .quiet e q (hq w' a g1 w1 es d b e q.run q.low)
  .exact .turn e q i (g w' a g1 w1 es d b e q.Ld)
  .exact .wait e f q j
  .exact .born em e q AN AN
def bd.kG(G:Z.Good)(h:bd Z Q Stop m l γ X){e:Z.aM}(d:Z.dH l γ e):bd Z Q Stop m l e X:=by
 cases h with
 |stop h=>exact .stop h
 |step hs ch ok hq g f i=>
  exact .step hs ch (λw' a b=>ok w' a (G.trans _ _ _ _ d b)) (λw' a g1 w1 es b=>hq w' a g1 w1 es (G.trans _ _ _ _ d b)) (λw' a g1 w1 es b=>g w' a g1 w1 es (G.trans _ _ _ _ d b))
   (λw' a g1 c w1 es b=>f w' a g1 c w1 es (G.trans _ _ _ _ d b)) (λw' a g1 c w1 es b=>i w' a g1 c w1 es (G.trans _ _ _ _ d b))
def Le(Z:eV)(Q:ck)(Stop:Bool->Z.Lo->aV->Prop)(y x:Bool×Z.Lo×Z.aM×aV):Prop:=
 ¬Stop x.1 x.2.1 x.2.2.2/\y.1=x.1/\y.2.1=x.2.1/\y.2.2.1=x.2.2.1/\∃w' g1 w1 es,dI Z x.2.1 x.2.2.1 x.2.2.2 w'/\stepG Q x.1 x.2.2.2.g w'=.go g1 w1 es/\g1.status=.running/\¬Br Z x.2.1 x.2.2.2.g g1 es/\y.2.2.2=⟨g1,w1,grown x.2.2.2.mine w' w1⟩
def bd.acc(G:Z.Good)(h:bd Z Q Stop m l γ X):Acc (Le Z Q Stop) (m,l,γ,X):=by induction h with|stop h=>exact⟨_,λy a=>absurd h a.1⟩|step hs ch ok hq q p r o _ _ _=>refine⟨_,λy a=>?_⟩;obtain⟨_,e,d,c,w',g1,w1,es,f,hst,hrun,g,b⟩:=a;obtain⟨n,k,j,i⟩:=y;simp only at e d c b;subst e d c b;exact o w' _ g1 w1 es (G.refl _ _) f hst hrun g
end
open ConcN
def uq(P:ck)(m:Machine)(t:Trace)(q:Machine->Trace->Prop):Prop:=∃n m' cF,runNT P n m t=(.next m',cF)/\q m' cF
theorem uq.refl{P:ck}{m:Machine}{t:Trace}{q:Machine->Trace->Prop}(h:q m t):uq P m t q:=⟨0,m,t,U,h⟩
theorem uq.step{P:ck}{m a:Machine}{t:Trace}{ops:Array MemOp}{q:Machine->Trace->Prop}(hs:stepT P m=(.next a,ops))(h:uq P a (t++ops) q):uq P m t q:=
 let⟨n,c,b,e,d⟩:=h
 ⟨n+1,c,b,by grind[runNT_succ_next],d⟩
theorem WA{P:ck}:∀(n:Nat){k:Nat}{m a:Machine}{t cF:Trace},runNT P n m t=(.next a,cF)->runNT P (n+k) m t=runNT P k a cF
 |0,k,m,a,t,cF,h=>by simp_all[runNT]
 |n+1,k,m,a,t,cF,h=>by rw[show n+1+k=(n+k)+1 from AY];cases hs:stepT P m with|mk s ops=>cases s with|next m1=>rw[runNT_succ_next hs]at h⊢;exact WA n h|ended o w=>simp[runNT,hs]at h
theorem uq.bind{P:ck}{m:Machine}{t:Trace}{q a:Machine->Trace->Prop}(h:uq P m t q)(hq:∀b cF,q b cF->uq P b cF a):uq P m t a:=by obtain⟨n,m1,d,j,g⟩:=h;obtain⟨k,e,c,i,f⟩:=hq m1 d g;exact⟨n+k,e,c,by grind[WA],f⟩
def aiJ{P:ck}{ao:Type}{r:ao->ao->Prop}(wf:WellFounded r)(Inv:ao->Machine->Trace->Prop)(q:Machine->Trace->Prop)(h:∀a m t,Inv a m t->q m t\/∃b ops c,stepT P m=(.next b,ops)/\r c a/\Inv c b (t++ops)):∀a m t,Inv a m t->uq P m t q:=by
 intro a;induction a using wf.induction with
 | _ a e=>
  intro m t hI;rcases h a m t hI with hq|⟨b,ops,c,hs,f,d⟩
  .exact .refl hq
  .exact .step hs AN
section
variable{ao:Type}(R:ao->ao->Prop)
def Bu(y x:Nat×List ao×Nat×Nat):Prop:=
 y.1<x.1\/(y.1=x.1/\((xz R y.2.1 x.2.1/\Acc (xz R) x.2.1)\/(y.2.1=x.2.1/\(y.2.2.1<x.2.2.1\/(y.2.2.1=x.2.2.1/\y.2.2.2<x.2.2.2)))))
def aiK:WellFounded (Bu R):=by
 have key:∀b,(∀a,a<b->∀v s k,Acc (Bu R) (a,v,s,k))->∀v s k,Acc (Bu R) (b,v,s,k):=by
  intro b f;have core:∀v,(∀v',xz R v' v->Acc (xz R) v->∀s k,Acc (Bu R) (b,v',s,k))->∀s k,Acc (Bu R) (b,v,s,k):=by intro v hv s;induction s using Nat.strongRecOn with| _ s e=>intro k;induction k using Nat.strongRecOn with| _ k d=>refine⟨_,?_⟩;rintro⟨a,v',s',k'⟩ h;simp[Bu]at h;grind
  intro v;by_cases hv:Acc (xz R) v
  .induction hv with|intro v _ c=>grind
  grind
 refine⟨λ⟨b,v,s,k⟩=>?_⟩;induction b using Nat.strongRecOn generalizing v s k with| _ b c=>grind
end
structure cB(Z:eV) where
 g:Goroutine
 l:Z.Lo
 X:aV
 n:Nat
section
variable(Z:eV)(Q:ck)(Stop:Bool->Z.Lo->aV->Prop)
inductive s8(m:Bool)(γ:Z.aM)(d:Nat)(r:cB Z):Prop
 |runs (hg:r.g=r.X.g) (hr:r.X.g.status=.running) (ht:bd Z Q Stop m r.l γ r.X) (hn:m=false->¬Stop m r.l r.X) (hd:d=Z.deaf r.l) (h0:r.n=0) (hl:¬Z.Left r.l)
 |waits (hg:r.g={r.X.g with status:=.blocked}) (hr:r.X.g.status=.running) (ho:r.X.g.offers=none) (ht:bd Z Q Stop m r.l γ r.X) (hn:¬Stop m r.l r.X) (hw:Z.nP r.l γ) (hd:d=Z.deaf r.l) (h0:r.n=0) (hl:¬Z.Left r.l)
 |leaves (hm:m=false) (hq:QuitsD Q r.n d r.g) (hl:Z.Left r.l) (hs:Stop m r.l r.X)
def iX(base:Nat)(rs:List (cB Z))(size:Nat)(aW:ubj):j6:=
 {n:=rs.length,base,size,K:=Z.K,mine:=λj b=>∃r,rs[j]?=some r/\r.X.mine b,g6:=Z.g6,eU:=Z.eU,tok:=aW,mu:=Z.mu,wg:=Z.wg,past:=λj=>∃r,rs[j]?=some r/\Z.past r.l=true}
structure Inv(base:Nat)(rs:List (cB Z))(γ:Z.aM)(w:aH)(t:Trace):Prop where
 sits:∀(j:Nat)(r:cB Z),rs[j]?=some r->s8 Z Q Stop (j==0) γ (Deaf t j) r
 s9:Z.pl γ (rs.map (·.l))
 mt:Z.s6 γ w
 rely:∀(j:Nat)(r:cB Z),rs[j]?=some r->j4 Z.K r.X w/\OsLater r.X.w.os w.os/\w.output=r.X.w.output/\w.tape=r.X.w.tape
 sh:∀(j:Nat)(r:cB Z),rs[j]?=some r->∀b,r.X.mine b->¬Z.g7 b/\¬Z.K b/\b<w.heap.size
 apart:∀(j k:Nat)(r s:cB Z),rs[j]?=some r->rs[k]?=some s->j≠k->∀b,r.X.mine b->¬s.X.mine b
 low:∀b,Z.K b\/Z.g7 b->b<w.heap.size
 old:∀(j:Nat)(r:cB Z),rs[j]?=some r->j≠0->j<base->Z.Left r.l/\∀b,¬r.X.mine b
 aW:∃aW,(∀(j:Nat)(r:cB Z),rs[j]?=some r->(Z.tok r.l=true↔aW=some j))/\eh (iX Z base rs w.heap.size aW) t
 aiL:0<rs.length
def kp(rs:List (cB Z)):Array Goroutine:=(rs.map (·.g)).toArray
end
def eh.conv{p c:j6}{t:Trace}(h:eh p t)(hn:c.n=p.n)(g:c.base=p.base)(hs:p.size<=c.size)(hK:c.K=p.K)(o:∀j b,c.mine j b->p.mine j b\/p.size<=b)(hg:c.g6=p.g6)(u:c.eU=p.eU)(ht:c.tok=p.tok)(n:c.mu=p.mu)(C:c.wg=p.wg)(w:∀j,c.past j->p.past j):eh c t:=by
 have q:∀j,c.bc j->p.bc j:=λj f=>by grind[j6.bc]
 have y:∀j,p.bc j->c.bc j:=λj f=>by grind[j6.bc]
 refine⟨λi a d s A=>?_,λi op hi=>by rw[hn];exact h.gs i op hi,λi a b d g=>van (h.low i a b d g) hs,λi a b d v g l j f=>h.still i a b d v g (hK▸l) j (q j f),λj i a b f d g D=>?_,λj f=>?_,λx i a d z=>?_,λi a d hs=>?_,h.p_,h.xA,λi j f B r=>?_⟩
 .refine(h.nO i a d s A).imp AN λk=>⟨by rw[hg];exact k.1,λb m=>⟨by rw[hK];exact(k.2 b m).1,λj f=>(o j b f).elim ((k.2 b m).2 j) (λe=>absurd (h.low i a b d m) AY)⟩⟩
 .exact(o j b D).elim (λe=>h.own j i a b (q j f) d g e) (λe=>absurd (h.low i a b d g) AY)
 .obtain⟨F,E⟩:=h.s3 j (ht▸f);grind
 .rw[n];exact(h.Bn (ht▸x) i a d (hg▸z)).imp AN id
 .exact(h.eU i a d (u▸hs)).imp id AN
 .rw[C];exact h.past i j f (w j B) r
variable{f:ubn}
section
variable{Z:eV}{Q:ck}{Stop:Bool->Z.Lo->aV->Prop}
structure Row(rs cM:List (cB Z))(i:Nat)(r1:cB Z)(f:ubn):Prop where
 len:cM.length=rs.length
 at_:cM[i]?=some r1
 kG:∀j,j≠i->cM[j]?=(rs[j]?).map λs=>{s with g:=f s.g}
def Lf(rs:List (cB Z)){i:Nat}{r:cB Z}(hi:rs[i]?=some r)(r1:cB Z)(f:ubn):Row rs ((rs.map λs=>{s with g:=f s.g}).set i r1) i r1 f:=by
 have a:i<rs.length:=by grind
 refine⟨Ab,AN,λj b=>?_⟩;grind
def PD(rs:List (cB Z))(i:Nat)(r1:cB Z)(f:ubn):kp Z ((rs.map λs=>{s with g:=f s.g}).set i r1)=((kp Z rs).map f).setIfInBounds i r1.g:=by grind[kp]
def Row.ls{rs cM:List (cB Z)}{i:Nat}{r1:cB Z}(h:Row rs cM i r1 f):cM.map (·.l)=(rs.map (·.l)).set i r1.l:=by
 apply vbu;intro j;by_cases b:j=i
 .subst b;have a:j<rs.length:=by obtain⟨x,_⟩:=vab.1 h.at_;rw[<-h.len];exact x
  simp[h.at_,a]
 .rw[vba (Ne.symm b)];simp[h.kG j b];rfl
def Row.other{rs cM:List (cB Z)}{i:Nat}{r1:cB Z}(h:Row rs cM i r1 f){j:Nat}{s:cB Z}(b:j≠i)(hs:cM[j]?=some s):∃a,rs[j]?=some a/\s={a with g:=f a.g}:=by rw[h.kG j b]at hs;grind
theorem kZ.at{mine:c5}{w w1:aH}(d:Nat)(h:kZ Z mine (w.at d) w1):kZ Z mine w w1:=⟨h.kept,h.size,h.os,h.output,h.tape⟩
theorem j4.at{K:c5}{X:aV}{w:aH}(h:j4 K X w)(d:Nat):j4 K X (w.at d):=⟨h.heap,h.size,h.env⟩
theorem Inv.kept{base:Nat}{rs:List (cB Z)}{γ:Z.aM}{w:aH}{t:Trace}(G:Z.Good)(h:Inv Z Q Stop base rs γ w t){i:Nat}{r:cB Z}(hi:rs[i]?=some r){w1:aH}(hk:kZ Z r.X.mine w w1):
 (∀b,Z.K b->w1.heap[b]?=w.heap[b]?)/\∀(j:Nat)(s:cB Z),rs[j]?=some s->j≠i->∀b,s.X.mine b->w1.heap[b]?=w.heap[b]?:=by
 refine⟨λb a=>hk.kept b (h.low b (.inl a)) (λe=>(h.sh i r hi b e).2.1 a) (G.mO b a),λj s d c b a=>?_⟩;have:=h.sh j s d b a;exact hk.kept b this.2.2 (h.apart j i s r d hi c b a) this.1
def Inv.parts{base:Nat}{rs cM:List (cB Z)}{γ:Z.aM}{w:aH}{t:Trace}(G:Z.Good)(h:Inv Z Q Stop base rs γ w t){i:Nat}{r r1:cB Z}(hi:rs[i]?=some r)(x:Row rs cM i r1 f){w1:aH}(hk:kZ Z r.X.mine w w1)(J:∀b,r1.X.mine b->r.X.mine b\/(w.heap.size<=b/\b<w1.heap.size)):
 (∀(j:Nat)(s:cB Z),cM[j]?=some s->∀b,s.X.mine b->¬Z.g7 b/\¬Z.K b/\b<w1.heap.size)/\
 (∀(j k:Nat)(s s':cB Z),cM[j]?=some s->cM[k]?=some s'->j≠k->∀b,s.X.mine b->¬s'.X.mine b)/\
 (∀b,Z.K b\/Z.g7 b->b<w1.heap.size)/\(∀aW,Pw (iX Z base cM w1.heap.size aW)):=by
 have A:∀(j:Nat)(s:cB Z),cM[j]?=some s->∀b,s.X.mine b->(∃m,rs[j]?=some m/\m.X.mine b)\/(j=i/\w.heap.size<=b/\b<w1.heap.size):=by
  intro j s n b d;by_cases v:j=i
  .subst v;rw[x.at_]at n;grind
  .obtain⟨m,a,rfl⟩:=x.other v n;grind
 have B:∀(j:Nat)(s:cB Z),cM[j]?=some s->∀b,s.X.mine b->¬Z.g7 b/\¬Z.K b/\b<w1.heap.size:=by
  intro j s n b d;rcases A j s n b d with⟨m,a,c⟩|⟨_,a,c⟩
  .have:=h.sh j m a b c;exact⟨this.1,this.2.1,van this.2.2 hk.size⟩
  .exact⟨λe=>absurd (h.low b (.inr e)) AY,λe=>absurd (h.low b (.inl e)) AY,c⟩
 have C:∀(j k:Nat)(s s':cB Z),cM[j]?=some s->cM[k]?=some s'->j≠k->∀b,s.X.mine b->¬s'.X.mine b:=by
  intro j k s s' n H q b d F;rcases A j s n b d with⟨m,a,c⟩|⟨K,a,c⟩<;>rcases A k s' H b F with⟨y,o,p⟩|⟨I,o,p⟩
  .exact h.apart j k m y a o q b c p
  .have:=(h.sh j m a b c).2.2;omega
  .have:=(h.sh k y o b p).2.2;omega
  grind
 have D:∀b,Z.K b\/Z.g7 b->b<w1.heap.size:=λb d=>van (h.low b d) hk.size;refine⟨B,C,D,λaW=>⟨?_,?_,?_,?_,G.s4,?_,λb d=>D b (.inl d),?_⟩⟩
 .rintro j k b ⟨s,a,c⟩ ⟨s',o,p⟩;grind
 .rintro j b ⟨s,a,c⟩;exact(B j s a b c).2.1
 .intro l b j hg g;obtain⟨u,a,c⟩:=G.EO l hg;rw[g]at a;cases a;exact⟨λ⟨s,E,z⟩=>AN,λe=>G.mO b e c⟩
 .intro l b j hg g;obtain⟨u,a,c⟩:=G.Bq l hg;rw[g]at a;cases a;exact⟨λ⟨s,E,z⟩=>AN,λe=>G.mO b e c⟩
 .rintro j b ⟨s,a,c⟩;exact(B j s a b c).2.2
 .intro l b g d;rcases g with g|g
  .obtain⟨u,a,c⟩:=G.EO l g;rw[d]at a;cases a;exact D b (.inr c)
  .obtain⟨u,a,c⟩:=G.Bq l g;rw[d]at a;cases a;exact D b (.inr c)
def WC(G:Z.Good)(base:Nat)(rs:List (cB Z))(size:Nat)(aW:ubj):Lb (iX Z base rs size aW):=
 ⟨λl h=>let⟨_,a,_⟩:=G.EO l h;EM a,λl h=>let⟨_,a,_⟩:=G.Bq l h;EM a⟩
theorem WE{p:j6}{j:Nat}{l:Z.Lo}{mine:c5}(hK:p.K=Z.K)(g:∀b,mine b->p.mine j b)(hg:p.g6=Z.g6)(hs:p.eU=Z.eU)(ht:Z.tok l=true->p.tok=some j)(f:Z.past l=false->¬p.past j)(h:Z.zero l->j=0):
 ∀(es:ubm)(d:Nat),nQ Z l mine d es->Py p j d es
 | [],_,_=>trivial
 |e::es,d,⟨c,i⟩=>by
  refine⟨?_,WE hK g hg hs ht f h es _ i⟩;obtain⟨loc,wr,k⟩:=e;cases loc with
  |cell a=>
   rcases c with⟨x,y,z⟩|⟨x,y,z⟩
   .exact .inl AN
   .exact .inr AN
  |obj r=>exact⟨c.1,c.2.1.imp AN (g _),f c.2.2⟩
  |mark m=>exact c.imp id AN
  |output=>trivial
  |goroutines=>exact c
end
variable{es:uav}{g g1:uai}
section
section
variable{Z:eV}{Q:ck}{Stop:Bool->Z.Lo->aV->Prop}{base:Nat}{rs cM:List (cB Z)}{γ bz:Z.aM}{w w1:aH}{t:Trace}
def Inv.lt(h:Inv Z Q Stop base rs γ w t){i:Nat}{r:cB Z}(hi:rs[i]?=some r)(b:¬Z.Left r.l)(size:Nat)(aW:ubj):(iX Z base rs size aW).bc i:=by
 obtain⟨a,_⟩:=vab.1 hi;refine⟨a,?_⟩;rcases vbh i with e|e
 .grind
 .refine .inr (Nat.le_of_not_lt λc=>b (h.old i r hi AY c).1)
def Lg(i:Nat)(fn:ual)(pos:String)(m:Mark):MemOp.ofEvents i fn pos #[EP m]=#[({g:=i,fn,pos,act:=.mark m}:MemOp)]:=by rw[ofEvents_eq];simp[EP,MemAct.ofEvent]
def Inv.says(G:Z.Good)(h:Inv Z Q Stop base rs γ w t){i:Nat}{r r1:cB Z}(hi:rs[i]?=some r)(P:¬Z.Left r.l)(a:Row rs cM i r1 f)(hk:kZ Z r.X.mine w w1)(N:r1.X.mine=grown r.X.mine w w1)(hd:Deaf t i=Z.deaf r.l)(X:Z.tok r.l=false->Z.tok r1.l=true->∀(k:Nat)(s:cB Z),k≠i->rs[k]?=some s->Z.tok s.l=true->False)(hs:Says Z r.l r1.l (grown r.X.mine w w1) es)(fn:ual)(pos:String):
 (∃aW,(∀(j:Nat)(s:cB Z),cM[j]?=some s->(Z.tok s.l=true↔aW=some j))/\eh (iX Z base cM w1.heap.size aW) (t++MemOp.ofEvents i fn pos es))/\Deaf (t++MemOp.ofEvents i fn pos es) i=Z.deaf r1.l:=by
 have I:∀b,r1.X.mine b->r.X.mine b\/(w.heap.size<=b/\b<w1.heap.size):=λb C=>by rw[N]at C;exact C
 obtain⟨hB,hC,hD,R⟩:=h.parts G hi a hk I;obtain⟨aW,V,D⟩:=h.aW;have A:∀aW,(iX Z base cM w1.heap.size aW).bc i:=λaW=>by have:=h.lt hi P w1.heap.size aW;unfold j6.bc iX at this⊢;simp only at this⊢;rw[a.len];grind
 have K:∀aW j b,(iX Z base cM w1.heap.size aW).mine j b->(iX Z base rs w.heap.size aW).mine j b\/w.heap.size<=b:=by
  rintro aW j b ⟨s,m,n⟩;by_cases c:j=i
  .subst c;rw[a.at_]at m;cases m;exact(I b n).imp (λe=>⟨r,hi,e⟩) (λe=>e.1)
  .obtain⟨q,u,rfl⟩:=a.other c m;exact .inl ⟨q,u,n⟩
 have L:(Z.past r1.l=Z.past r.l)->∀aW j,(iX Z base cM w1.heap.size aW).past j->(iX Z base rs w.heap.size aW).past j:=by
  rintro J aW j ⟨s,m,n⟩;by_cases c:j=i
  .subst c;rw[a.at_]at m;cases m;exact⟨r,hi,AN⟩
  .obtain⟨q,u,rfl⟩:=a.other c m;exact⟨q,u,n⟩
 have conv:(Z.past r1.l=Z.past r.l)->eh (iX Z base cM w1.heap.size aW) t:=λJ=>
  D.conv a.len rfl hk.size rfl (K aW) rfl rfl rfl rfl rfl (L J aW)
 have T:∀(j:Nat)(s:cB Z),j≠i->cM[j]?=some s->(Z.tok s.l=true↔aW=some j):=by intro j s d M;obtain⟨q,u,rfl⟩:=a.other d M;grind
 rcases hs with⟨v,o,x,E⟩|⟨rfl,v,o,x,E,B⟩|⟨rfl,v,o,x,E,B⟩|⟨rfl,v,o,x,E⟩
 .refine⟨⟨aW,λj s d=>?_,?_⟩,by rw[Deaf_own,hd,x]⟩
  .by_cases c:j=i
   .subst c;rw[a.at_]at d;grind
   grind
  .have:=eh.step (R aW) (WC G base cM w1.heap.size aW) (A aW) fn pos es.toList (conv o) (WE (Z:=Z) (p:=iX Z base cM w1.heap.size aW) (j:=i) (l:=r.l) (mine:=grown r.X.mine w w1) rfl (λb C=>⟨r1,a.at_,BB⟩) rfl rfl (λht=>(V i r hi).1 ht)
    (λY⟨s,m,n⟩=>by rw[a.at_]at m;grind) (λO=>G.zero γ _ i r.l h.s9 AN O) es.toList _ AN)
   omega
 .have F:aW=none:=by cases z:aW with|none=>rfl|some k=>exfalso;have H:=(D.s3 k z).1;obtain⟨s,U⟩:∃s,rs[k]?=some s:=⟨rs[k]'H.1,vas H.1⟩;grind
  refine⟨⟨some i,λj s d=>?_,?_⟩,HX⟩
  .by_cases c:j=i
   .subst c;rw[a.at_]at d;grind
   grind
  .have h0:=conv B;rw[F]at h0;have:=eh.aiD h0 rfl (y:={g:=i,fn,pos,act:=.mark (.acquire Z.mu)}) (A none) rfl AN;rw[Lg];exact this
 .have z:aW=some i:=AN;refine⟨⟨none,λj s d=>?_,?_⟩,HX⟩
  .by_cases c:j=i
   .subst c;rw[a.at_]at d;grind
   grind
  .have h0:=conv B;rw[z]at h0;have:=eh.aiE h0 (y:={g:=i,fn,pos,act:=.mark (.releaseMerge Z.mu)}) rfl rfl AN;rw[Lg];exact this
 .refine⟨⟨aW,λj s d=>?_,?_⟩,HX⟩
  .by_cases c:j=i
   .subst c;rw[a.at_]at d;grind
   grind
  .have h0:eh {iX Z base cM w1.heap.size aW with past:=(iX Z base rs w.heap.size aW).past} t:=
    D.conv a.len rfl hk.size rfl (K aW) rfl rfl rfl rfl rfl (λj d=>d)
   have:=eh.aiF h0 (y:={g:=i,fn,pos,act:=.mark (.releaseMerge Z.wg)}) (A aW) rfl AN (past:=(iX Z base cM w1.heap.size aW).past) (λk S=>by
    obtain⟨s,m,n⟩:=S;by_cases W:k=i
    .grind
    .obtain⟨q,u,rfl⟩:=a.other W m;exact .inl ⟨q,u,n⟩)
   simp_all[Lg]
def Inv.own(G:Z.Good)(h:Inv Z Q Stop base rs γ w t){i:Nat}{r r1:cB Z}(hi:rs[i]?=some r)(z:¬Z.Left r.l)(g:Row rs cM i r1 f)(n:r1.X.w=w1)(hk:kZ Z r.X.mine w w1)(x:r1.X.mine=grown r.X.mine w w1)(F:Z.pl bz ((rs.map (·.l)).set i r1.l))(v:Z.s6 bz w1){k:Trace}(H:∀(j:Nat)(s:cB Z),j≠i->cM[j]?=some s->s8 Z Q Stop (j==0) bz (Deaf k j) s)(I:s8 Z Q Stop (i==0) bz (Deaf k i) r1)(ht:∃aW,(∀(j:Nat)(s:cB Z),cM[j]?=some s->(Z.tok s.l=true↔aW=some j))/\eh (iX Z base cM w1.heap.size aW) k):Inv Z Q Stop base cM bz w1 k:=by
 have y:∀b,r1.X.mine b->r.X.mine b\/(w.heap.size<=b/\b<w1.heap.size):=λb c=>by rw[x]at c;exact c
 obtain⟨C,B,A,_⟩:=h.parts G hi g hk y;obtain⟨E,D⟩:=h.kept G hi hk;refine⟨λj s a=>?_,by rw[g.ls];grind,v,λj s a=>?_,C,B,A,λj s a h0 c=>?_,ht,by rw[g.len];grind⟩
 .by_cases e:j=i
  .subst e;rw[g.at_]at a;grind
  grind
 .by_cases e:j=i
  .subst e;rw[g.at_]at a;cases a;subst n;exact⟨⟨λ_ _=>U,vad _,U⟩,.refl _,U,U⟩
  .obtain⟨l,m,rfl⟩:=g.other e a;obtain⟨o,u,q,p⟩:=h.rely j l m;refine⟨⟨λb c=>?_,vac o.size hk.size,?_⟩,u.trans hk.os,hk.output.trans q,hk.tape.trans p⟩
   .rw[<-o.heap b c];grind
   .rw[<-o.env];obtain⟨d,hd⟩:=hk.os;rw[hd]
 .by_cases e:j=i
  .subst e;exact absurd (h.old j r hi h0 c).1 z
  .obtain⟨l,m,rfl⟩:=g.other e a;exact h.old j l m h0 c
theorem aiS(w1:aH):∀{x:uai},x.offers=none->x.status=.running->({x with status:=.blocked}:uai).again w1=x:=by rintro⟨a,b,c,d,e⟩ g f;grind[Goroutine.again]
theorem s8.woken{m:Bool}{d:Nat}{s:cB Z}(G:Z.Good)(h:s8 Z Q Stop m γ d s){w1:aH}(hrun:g1.status=.running)(c:Z.dH s.l γ bz)(l:mayWake Q g=true\/(Z.nP s.l γ->Z.nP s.l bz)):
 s8 Z Q Stop m bz d {s with g:=woken Q g g1 w1 s.g}:=by
 have n:(mayWake Q g&&g1.status != .blocked&&g1.status != .waiting)=mayWake Q g:=AN;cases h with
 |runs hg b ht hn hd h0 a=>
  have e:Go.Conc.woken Q g g1 w1 s.g=s.g:=by grind[Go.Conc.woken,again_running]
  rw[e];exact .runs hg b (ht.kG G c) hn hd h0 a
 |waits hg b j ht hn f hd h0 a=>
  cases k:mayWake Q g with
  |true=>
   have e:Go.Conc.woken Q g g1 w1 s.g=s.X.g:=by grind[Go.Conc.woken,aiS]
   rw[e];exact .runs U b (ht.kG G c) (λ_=>hn) hd h0 a
  |false=>
   have e:Go.Conc.woken Q g g1 w1 s.g=s.g:=by grind[Go.Conc.woken]
   rw[e];exact .waits hg b j (ht.kG G c) hn AN hd h0 a
 |leaves i hq a hs=>rw[woken_quitsD hq];exact .leaves i hq a hs
end
end
section
section
variable{Z:eV}{Q:ck}{Stop:Bool->Z.Lo->aV->Prop}{base:Nat}{rs cM:List (cB Z)}{γ bz:Z.aM}{w w1:aH}{t:Trace}
def aiT{e:Event}(h:e.mute=true):∃m,(MemAct.ofEvent e)=.mark m/\zM m:=by
 obtain⟨loc,wr,a⟩:=e;cases loc<;>simp_all[Event.mute]
 grind[MemAct.ofEvent,zM]
theorem eh.mute{p:j6}{i:Nat}(hi:i<p.n)(fn:ual)(pos:String):∀(l:ubm){t:Trace},eh p t->(∀e∈l,e.mute=true)->eh p (t++MemOp.ofEvents i fn pos l.toArray)
 | [],t,h,_=>by grind[ofEvents_eq]
 |e::l,t,h,d=>by
  obtain⟨m,c,b⟩:=aiT (d e Ab);have:=eh.mute hi fn pos l (h.word (y:={g:=i,fn,pos,act:=.ofEvent e}) hi (by rw[c];cases m<;>simp[zM]at b<;>rfl) (λa=>by rw[c];cases m<;>simp[zM]at b<;>simp)) AN
  rw[ofEvents_eq]at this⊢;have f:t++#[({g:=i,fn,pos,act:=.ofEvent e}:MemOp)]++Array.map (λe=>({g:=i,fn,pos,act:=.ofEvent e}:MemOp)) l.toArray=t++Array.map (λe=>({g:=i,fn,pos,act:=.ofEvent e}:MemOp)) (e::l).toArray:=by apply Array.ext';simp
  rw[f]at this;exact this
def tc(rs:List (cB Z))(γ:Z.aM):List (Bool×Z.Lo×Z.aM×aV):=rs.mapIdx λj r=>(j==0,r.l,γ,r.X)
def Li(rs:List (cB Z)):Nat:=(rs.map (·.n)).sum
def xE(g:uai):Nat:=match g.status with| .running=>1| _=>0
def iY(rs:List (cB Z)):Nat:=(rs.map λr=>xE r.g).sum
def meas(rs:List (cB Z))(γ:Z.aM):Nat×List (Bool×Z.Lo×Z.aM×aV)×Nat×Nat:=(Z.a4 γ,tc rs γ,Li rs,iY rs)
theorem ER:∀(l:uag)(i x:Nat)(h:i<l.length),(l.set i x).sum+l[i]=l.sum+x
 |a::l,0,x,_=>AN
 |a::l,i+1,x,h=>by have:=ER l i x Eh;simp;omega
theorem ES(rs:List (cB Z))(γ:Z.aM)(j:Nat):(tc rs γ)[j]?=(rs[j]?).map λr=>(j==0,r.l,γ,r.X):=by simp[tc]
def WF{i:Nat}{r1:cB Z}(h:Row rs cM i r1 f)(γ:Z.aM):tc cM γ=(tc rs γ).set i (i==0,r1.l,γ,r1.X):=by
 apply vbu;intro j;by_cases b:j=i
 .subst b;have a:j<(tc rs γ).length:=by obtain⟨x,_⟩:=vab.1 h.at_;simp[tc,<-h.len,x]
  rw[ES,h.at_,vcd a];rfl
 .rw[vba (Ne.symm b),ES,ES,h.kG j b,Option.map_map];rfl
def Inv.aiU(G:Z.Good)(h:Inv Z Q Stop base rs γ w t):Acc (xz (Le Z Q Stop)) (tc rs γ):=by refine aiw _ λx c=>?_;obtain⟨j,a⟩:=List.mem_iff_getElem?.1 c;rw[ES]at a;obtain⟨r,d,rfl⟩:=vaj.1 a;cases h.sits j r d with|runs _ _ ht _ _ _ _=>exact ht.acc G|waits _ _ _ ht _ _ _ _ _=>exact ht.acc G|leaves e hq f hs=>exact⟨_,λy b=>absurd hs b.1⟩
def PE(a:∀l X,Stop false l X->Z.Left l/\∃n,QuitsD Q n (Z.deaf l) X.g){m:Bool}{l1:Z.Lo}{wm:aV}(b:wm.g.status=.running)(ht:bd Z Q Stop m l1 bz wm)(e:Z.Left l1->m=false/\Stop m l1 wm):∃n,s8 Z Q Stop m bz (Z.deaf l1) ⟨wm.g,l1,wm,n⟩:=by
 by_cases hs:m=false/\Stop m l1 wm
 .obtain⟨rfl,hs⟩:=hs;obtain⟨d,n,c⟩:=a l1 wm hs;exact⟨n,.leaves U c d hs⟩
 .exact⟨0,.runs U b ht AN U U AN⟩
def aiV{i:Nat}{r:cB Z}(hi:rs[i]?=some r)(b:Z.pl γ (rs.map (·.l))){l1:Z.Lo}(a:Bs Z r.l γ l1 bz):Z.pl bz ((rs.map (·.l)).set i l1)/\∀(j:Nat)(s:cB Z),j≠i->rs[j]?=some s->Z.dH s.l γ bz:=by obtain⟨e,d⟩:=a.2 (rs.map (·.l)) i AN b;exact⟨e,λj s c hs=>d j s.l c AN⟩
theorem Bx(rs:List (cB Z))(j:Nat):(kp Z rs)[j]?=(rs[j]?).map (·.g):=by simp[kp]
def PF(Z:eV)(Stop:Bool->Z.Lo->aV->Prop)(rs:List (cB Z)):Prop:=∃r,rs[0]?=some r/\Stop true r.l r.X/\r.g=r.X.g
theorem Inv.at(h:Inv Z Q Stop base rs γ w t)(G:Z.Good)(d:Nat):Inv Z Q Stop base rs γ (w.at d) t:=
 ⟨h.sits,h.s9,G.mt γ w (w.at d) (λ_ _=>U) h.mt,λj r a=>⟨j4.at (h.rely j r a).1 d,(h.rely j r a).2⟩,h.sh,h.apart,h.low,h.old,h.aW,h.aiL⟩
def Inv.goes(G:Z.Good)(e:∀l X,Stop false l X->Z.Left l/\∃n,QuitsD Q n (Z.deaf l) X.g)(h:Inv Z Q Stop base rs γ w t){i:Nat}{r:cB Z}(hi:rs[i]?=some r)(c:¬Z.Left r.l)(hd:Deaf t i=Z.deaf r.l){l1:Z.Lo}(hk:kZ Z r.X.mine w w1)(g:Z.s6 bz w1)(b:Z.pl bz ((rs.map (·.l)).set i l1))(D:∀(j:Nat)(s:cB Z),j≠i->rs[j]?=some s->Z.dH s.l γ bz)(hrun:g1.status=.running)(A:Says Z r.l l1 (grown r.X.mine w w1) es)(C:mayWake Q r.g=true\/∀l,Z.nP l γ->Z.nP l bz)(ht:bd Z Q Stop (i==0) l1 bz ⟨g1,w1,grown r.X.mine w w1⟩)(q:Z.Left l1->(i==0)=false/\Stop (i==0) l1 ⟨g1,w1,grown r.X.mine w w1⟩)(fn:ual)(pos:String):
 ∃cM,kp Z cM=((kp Z rs).map (woken Q r.g g1 w1)).setIfInBounds i g1/\Inv Z Q Stop base cM bz w1 (t++MemOp.ofEvents i fn pos es)/\tc cM γ=(tc rs γ).set i (i==0,l1,γ,⟨g1,w1,grown r.X.mine w w1⟩):=by
 obtain⟨n,x⟩:=PE e (m:=i==0) (l1:=l1) (wm:=⟨g1,w1,grown r.X.mine w w1⟩) hrun ht q;let r1:cB Z:=⟨g1,l1,⟨g1,w1,grown r.X.mine w w1⟩,n⟩
 have a:=Lf rs hi r1 (woken Q r.g g1 w1);have E:i<rs.length:=(vab.1 hi).1;obtain⟨o,F⟩:=h.says (r1:=r1) (es:=es) G hi c a hk U hd (λ_ v k s B y z=>B (G.one bz _ k i s.l l1 b AN AN z v)) A fn pos;refine⟨_,PD rs i r1 _,h.own (r1:=r1) G hi c a U hk U b g (λj s d hs=>?_) AN o,WF a γ⟩;obtain⟨f,u,rfl⟩:=a.other d hs;rw[Deaf_other t (g':=i) (Ne.symm d) _ (λop p=>by grind[ofEvents_eq])];exact(h.sits j f u).woken G hrun AN AN
end
end
section
section
variable{Z:eV}{Q:ck}{Stop:Bool->Z.Lo->aV->Prop}{base:Nat}{rs cM:List (cB Z)}{γ bz:Z.aM}{w w1:aH}{t:Trace}
def aiX{i:Nat}{r r1:cB Z}(hi:rs[i]?=some r)(h:Row rs cM i r1 f)(m:r1.l=r.l)(l:r1.X=r.X){size:Nat}{aW:ubj}(k:eh (iX Z base rs size aW) t):eh (iX Z base cM size aW) t:=by
 refine k.conv h.len U IB U ?_ U U U U U ?_
 .rintro j b ⟨s,a,g⟩;by_cases c:j=i
  .subst c;rw[h.at_]at a;cases a;exact .inl ⟨r,hi,AN⟩
  .obtain⟨d,e,rfl⟩:=h.other c a;exact .inl ⟨d,e,g⟩
 .rintro j ⟨s,a,g⟩;by_cases c:j=i
  .subst c;rw[h.at_]at a;cases a;exact⟨r,hi,AN⟩
  .obtain⟨d,e,rfl⟩:=h.other c a;exact⟨d,e,g⟩
def Inv.record(h:Inv Z Q Stop base rs γ w t){i:Nat}{r r1:cB Z}(hi:rs[i]?=some r)(e:Row rs cM i r1 f)(v:r1.l=r.l)(q:r1.X=r.X){g:Trace}(y:∀(j:Nat)(s:cB Z),j≠i->cM[j]?=some s->s8 Z Q Stop (j==0) γ (Deaf g j) s)(z:s8 Z Q Stop (i==0) γ (Deaf g i) r1)(x:∀size aW,eh (iX Z base rs size aW) t->eh (iX Z base rs size aW) g):Inv Z Q Stop base cM γ w g:=by
 have A:i<rs.length:=(vab.1 hi).1;have back:∀(j:Nat)(s:cB Z),cM[j]?=some s->∃b,rs[j]?=some b/\s.l=b.l/\s.X=b.X:=by
  intro j s a;by_cases l:j=i
  .subst l;rw[e.at_]at a;grind
  .obtain⟨b,c,rfl⟩:=e.other l a;grind
 refine⟨λj s a=>?_,?_,h.mt,λj s a=>?_,λj s a=>?_,λj k s s' a hk m=>?_,h.low,λj s a=>?_,?_,by rw[e.len];grind⟩
 .by_cases l:j=i
  .subst l;rw[e.at_]at a;grind
  grind
 .have:(rs.map (·.l)).set i r1.l=rs.map (·.l):=by apply vbu;grind
  rw[e.ls,this];exact h.s9
 .obtain⟨b,d,_,c⟩:=back j s a;rw[c];exact h.rely j b d
 .obtain⟨b,d,_,c⟩:=back j s a;rw[c];exact h.sh j b d
 .obtain⟨b,d,_,c⟩:=back j s a;obtain⟨p,u,_,o⟩:=back k s' hk;rw[c,o];exact h.apart j k b p d u m
 .obtain⟨b,d,n,c⟩:=back j s a;rw[n,c];exact h.old j b d
 .obtain⟨aW,d,n⟩:=h.aW;refine⟨aW,λj s a=>?_,aiX hi e v q (x _ _ n)⟩;grind
def WG{i:Nat}{r r1:cB Z}(hi:rs[i]?=some r)(h:Row rs cM i r1 f):Li cM+r.n=Li rs+r1.n:=by
 obtain⟨c,b⟩:=vab.1 hi;have e:cM.map (·.n)=(rs.map (·.n)).set i r1.n:=by
  apply vbu;intro j;by_cases a:j=i
  .subst a;rw[vcd AN,vbg,h.at_];rfl
  .rw[vba (Ne.symm a),vbg,vbg,h.kG j a,Option.map_map];rfl
 grind[ER,Li]
def aiZ{i:Nat}{r r1:cB Z}(hi:rs[i]?=some r)(h:Row rs cM i r1 id):iY cM+xE r.g=iY rs+xE r1.g:=by
 obtain⟨c,b⟩:=vab.1 hi;have e:(cM.map λr=>xE r.g)=(rs.map λr=>xE r.g).set i (xE r1.g):=by
  apply vbu;intro j;by_cases a:j=i
  .subst a;rw[vcd AN,vbg,h.at_];rfl
  .rw[vba (Ne.symm a),vbg,vbg,h.kG j a,Option.map_map];rfl
 grind[ER,iY]
def WH{i:Nat}{r r1:cB Z}(hi:rs[i]?=some r)(h:Row rs cM i r1 f)(b:r1.l=r.l)(a:r1.X=r.X):tc cM γ=tc rs γ:=by
 rw[WF h γ];apply vbu;intro j;by_cases c:j=i
 .grind[ES]
 grind
def ai0(h:g1.status=.blocked)(w1:aH):woken Q g g1 w1=id:=by grind[woken]
def WI{i:Nat}{fn:ual}{pos:String}:∀op∈MemOp.ofEvents i fn pos es,op.g=i:=λop a=>by grind[ofEvents_eq]
theorem s8.kG{m:Bool}{d:Nat}{s:cB Z}(G:Z.Good)(h:s8 Z Q Stop m γ d s)(e:Z.dH s.l γ bz)(f:Z.nP s.l γ->Z.nP s.l bz):s8 Z Q Stop m bz d s:=by cases h with|runs hg c ht hn hd h0 a=>exact .runs hg c (ht.kG G e) hn hd h0 a|waits hg c i ht hn b hd h0 a=>exact .waits hg c i (ht.kG G e) hn (f b) hd h0 a|leaves g hq a hs=>exact .leaves g hq a hs
def Inv.ai1(G:Z.Good)(K:∀l X,Stop false l X->Z.Left l/\∃n,QuitsD Q n (Z.deaf l) X.g)(h:Inv Z Q Stop base rs γ w t)(zQ:base<=rs.length){r:cB Z}(hi:rs[0]?=some r)(V:¬Z.Left r.l)(hd:Deaf t 0=Z.deaf r.l){l1 lc:Z.Lo}{child:uai}(a:PB Z r.l γ r.X w g1 child w1 es l1 bz lc)(ht:bd Z Q Stop true l1 bz ⟨g1,w1,grown r.X.mine w w1⟩)(W:bd Z Q Stop false lc bz ⟨child,w1,λ_=>False⟩)(fn v:ual)(pos pos':String):
 ∃cM,kp Z cM=((kp Z rs).setIfInBounds 0 g1).push child/\Inv Z Q Stop base cM bz w1 (t++((MemOp.ofEvents 0 fn pos es).push {g:=0,fn,pos,act:=.go rs.length} |>.push {g:=rs.length,fn:=v,pos:=pos',act:=.start})):=by
 obtain⟨n,aiW⟩:=PE K (m:=true) (l1:=l1) (wm:=⟨g1,w1,grown r.X.mine w w1⟩) a.run ht (λh=>absurd h a.stays.1);obtain⟨g9,I⟩:=PE K (m:=false) (l1:=lc) (wm:=⟨child,w1,λ_=>False⟩) a.Wz W (λh=>absurd h a.stays.2);let r1:cB Z:=⟨g1,l1,⟨g1,w1,grown r.X.mine w w1⟩,n⟩
 let rc:cB Z:=⟨child,lc,⟨child,w1,λ_=>False⟩,g9⟩
 have o:=Lf rs hi r1 id;have EU:(rs.map λs=>{s with g:=id s.g})=rs:=by simp_all
 rw[EU]at o;have HO:Says Z r.l l1 (grown r.X.mine w w1) es:=.inl ⟨a.tok.1,a.past.1,by rw[a.deaf.1,a.deaf.2.1,a.deaf.2.2.1],by rw[a.deaf.1];exact a.evs⟩;obtain⟨⟨aW,Lh,C⟩,By⟩:=h.says (r1:=r1) (es:=es) G hi V o a.keep rfl hd (λh0 q _ _ _ _ _=>by rw[show r1.l=l1 from rfl,a.tok.1,h0]at q;cases q) HO fn pos;have U:∀b,r1.X.mine b->r.X.mine b\/(w.heap.size<=b/\b<w1.heap.size):=λb a=>a;obtain⟨hB,hC,Y,_⟩:=h.parts G hi o a.keep U;obtain⟨aiQ,aiR⟩:=h.kept G hi a.keep;obtain⟨mP,S⟩:=a.zP (rs.map (·.l)) AN h.s9;have hlen:(rs.set 0 r1).length=rs.length:=Ab;generalize H:rs.set 0 r1=D at o C Lh hB hC hlen;have j8:∀(j:Nat)(s:cB Z),(D++[rc])[j]?=some s->(j<rs.length/\D[j]?=some s)\/(j=rs.length/\s=rc):=by grind[List.getElem?_append_right]
 have e1:t++((MemOp.ofEvents 0 fn pos es).push {g:=0,fn,pos,act:=.go rs.length} |>.push {g:=rs.length,fn:=v,pos:=pos',act:=.start})=(t++MemOp.ofEvents 0 fn pos es)++#[({g:=0,fn,pos,act:=.go rs.length}:MemOp),{g:=rs.length,fn:=v,pos:=pos',act:=.start}]:=by apply Array.ext';simp
 rw[e1];generalize L:#[({g:=0,fn,pos,act:=.go rs.length}:MemOp),{g:=rs.length,fn:=v,pos:=pos',act:=.start}]=u;have F:∀j,Deaf ((t++MemOp.ofEvents 0 fn pos es)++u) j=Deaf (t++MemOp.ofEvents 0 fn pos es) j:=λj=>by have:=Deaf_append (t++MemOp.ofEvents 0 fn pos es) j u.toList;rw[Array.toArray_toList]at this;rw[this,<-L];rfl
 have HP:Deaf (t++MemOp.ofEvents 0 fn pos es) rs.length=0:=Deaf_absent λi op hi e=>by have:=C.gs i op hi;grind[iX]
 refine⟨D++[rc],?_,⟨λj s f=>?_,?_,a.mt,λj s f=>?_,λj s f=>?_,λj k s s' f hk T b Vo azS=>?_,Y,λj s f h0 Bz=>?_,?_,Ab⟩⟩
 .rw[<-H];unfold kp;rw[List.setIfInBounds_toArray,List.push_toArray,List.map_append,List.map_set];rfl
 .rw[F];rcases j8 j s f with⟨z,c⟩|⟨rfl,rfl⟩
  .by_cases h0:j=0
   .grind
   .obtain⟨p,A,rfl⟩:=o.other h0 c;rw[Deaf_other t (g':=0) (Ne.symm h0) _ WI];exact(h.sits j p A).kG G (S j p.l h0 AN) (a.HM p.l)
  .rw[HP];have:(rs.length==0)=false:=by grind
   rw[this];have N:=I;rw[a.deaf.2.2.2]at N;exact N
 .rw[List.map_append,o.ls];grind
 .rcases j8 j s f with⟨z,c⟩|⟨rfl,rfl⟩
  .by_cases h0:j=0
   .subst h0;rw[o.at_]at c;cases c;exact⟨⟨λ_ _=>rfl,vad _,rfl⟩,.refl _,rfl,rfl⟩
   .obtain⟨p,A,rfl⟩:=o.other h0 c;obtain⟨J,R,P,O⟩:=h.rely j p A;refine⟨⟨λb fH=>?_,vac J.size a.keep.size,?_⟩,R.trans a.keep.os,a.keep.output.trans P,a.keep.tape.trans O⟩
    .rw[<-J.heap b fH];grind
    .rw[<-J.env];obtain⟨d,hd⟩:=a.keep.os;rw[hd]
  .exact⟨⟨λ_ _=>rfl,vad _,rfl⟩,.refl _,rfl,rfl⟩
 .grind
 .grind
 .rcases j8 j s f with⟨z,c⟩|⟨rfl,rfl⟩
  .obtain⟨p,A,rfl⟩:=o.other h0 c;exact h.old j p A h0 Bz
  .omega
 .have E:Deaf (t++MemOp.ofEvents 0 fn pos es) 0=0:=by rw[By];exact a.deaf.2.2.1
  have PG:(iX Z base D w1.heap.size aW).n=rs.length:=hlen;have M:=C.aiH (x:={g:=0,fn,pos,act:=.go rs.length}) (y:={g:=rs.length,fn:=v,pos:=pos',act:=.start}) AN AN E AN
   (λb⟨s,q,_⟩=>AN)
  rw[L]at M;refine⟨aW,λj s f=>?_,M.conv (by simp[iX]) rfl IB rfl ?_ rfl rfl rfl rfl rfl ?_⟩
  .rcases j8 j s f with⟨_,c⟩|⟨rfl,rfl⟩
   .grind
   .rw[show rc.l=lc from rfl,a.tok.2];refine⟨AN,λe=>?_⟩;have:=(C.s3 _ e).1.1;grind
  .rintro j b ⟨s,q,B⟩;rcases j8 j s q with⟨_,c⟩|⟨rfl,rfl⟩
   .exact .inl ⟨s,c,B⟩
   grind
  .rintro j ⟨s,q,B⟩;rcases j8 j s q with⟨_,c⟩|⟨rfl,rfl⟩
   .exact⟨s,c,B⟩
   .rw[show rc.l=lc from rfl,a.past.2]at B;cases B
end
end
end bn
namespace av
section
section
variable(P:ck)(u:Bool)
@[simp] theorem ajg:(aa P u).toTables=P.toTables:=rfl
@[simp] theorem qc (t:uaa):(aa P u).underlying t=P.underlying t:=rfl
@[simp] theorem az0:(aa P u).depth=P.depth:=rfl
@[simp] theorem az1 (t:uaa):(aa P u).stoodInHeld t=P.stoodInHeld t:=(KX (C:=cm P u) U t).symm
@[simp] theorem az2 (n:Nat) (t:uaa):(aa P u).eqGuardType n t=P.eqGuardType n t:=(VM (C:=cm P u) U n t).symm
@[simp] theorem az3 (t:uaa):(aa P u).cellsOf t=P.cellsOf t:=rfl
@[simp] theorem az4 (t:uaa):(aa P u).bytesOf t=P.bytesOf t:=rfl
@[simp] theorem WQ (t:uaa) (w:aH):Sem.run (aa P u) (typeInfo t) w=Sem.run P (typeInfo t) w:=by unfold typeInfo;simp only[mc,Go.program,Sem.run,ajg];cases P.info? t<;>rfl
@[simp] theorem ajh (t:uaa) (w:aH):Sem.run (aa P u) (underlying t) w=Sem.run P (underlying t) w:=by unfold underlying;simp only[mc,Go.program,Sem.run,qc];cases P.underlying t<;>rfl
@[simp] theorem az5 (t:uaa) (w:aH):Sem.run (aa P u) (Go.sizeOf t) w=Sem.run P (Go.sizeOf t) w:=by unfold Go.sizeOf;simp only[mc,WQ];cases Sem.run P (typeInfo t) w<;>rfl
@[simp] theorem az6 (t:uaa) (w:aH):Sem.run (aa P u) (zeroValue t) w=Sem.run P (zeroValue t) w:=by unfold zeroValue;simp only[mc,WQ];cases Sem.run P (typeInfo t) w with|ok i w1=>simp only[];cases i.zero<;>rfl|halt h w1=>rfl
@[simp] theorem az7 (t:uaa) (w:aH):Sem.run (aa P u) (isAgg t) w=Sem.run P (isAgg t) w:=by unfold isAgg;simp only[mc,ajh];cases Sem.run P (underlying t) w with|ok i w1=>cases i<;>rfl|halt h w1=>rfl
end
def cN{P:ck}{u:Bool}{f:ual}{fn:Func}(h:(aa P u).funcs[f]?=some fn)(hk:fG P u fn=true)(args:dC)(w:aH):Sem.run (aa P u) (callFunc f args) w=.ok (.enter f args) w:=by
 unfold callFunc;simp only[fG,vae,bne_iff_ne]at hk;have hn:(fn.name== "runtime.NumGoroutine")=false:=AN;have a:fn.body.isNone=false:=by cases a:fn.body with|none=>grind|some c=>rfl
 simp only[mc,Go.program,Sem.run,h,hn,a];rfl
end
end av
open RowKit
def bm(w w':aH):Prop:=∀b o v,w.cell? (.a b o)=some v->w'.cell? (.a b o)=some v
theorem bm.refl(w:aH):bm w w:=λ_ _ _ h=>h
variable{a:aH}
theorem bm.trans{b c:aH}(h:bm a b)(k:bm b c):bm a c:=λx o v e=>k x o v (h x o v e)
variable{w:aH}{b:Nat}{v:Value}
def dx{o:Nat}(h:w.cell? (.a b o)=some v):b<w.heap.size:=by grind[World.cell?]
variable{w':aH}
def bm.b4(h:cC w w'):bm w w':=λb o v e=>by rw[h.cell (p:=⟨b,o,none⟩) (dx e)];exact e
def bw{ao:Type}(w:aH)(sz:Nat)(R:aH->(Nat->Option Value)->ao->Prop)(v:Value)(xs:List ao):Prop:=
 ∃bJ cap,v=.slice bJ xs.length cap/\xs.length<=9223372036854775807/\
  ∀i(h:i<xs.length),∃b off,bJ=some ⟨b,off,none⟩/\R w (λj=>w.cell? (.a b (off+i*sz+j))) xs[i]
def pg{ao:Type}(R:aH->(Nat->Option Value)->ao->Prop):Prop:=
 ∀w w' rd kN x,bm w w'->(∀j v,rd j=some v->kN j=some v)->R w rd x->R w' kN x
theorem bw.mono{ao:Type}{sz:Nat}{R:aH->(Nat->Option Value)->ao->Prop}(g:pg R)(hk:bm w w'){xs:List ao}(h:bw w sz R v xs):bw w' sz R v xs:=by obtain⟨k,cap,hv,c,f⟩:=h;refine⟨k,cap,hv,c,λi hi=>?_⟩;obtain⟨b,off,d,a⟩:=f i hi;exact⟨b,off,d,g _ _ _ _ _ hk (λj v e=>hk _ _ _ e) a⟩
theorem bw.nil{ao:Type}(w:aH)(sz:Nat)(R:aH->(Nat->Option Value)->ao->Prop):bw w sz R (.N) []:=
 ⟨none,0,U,Ab,AN⟩
def q9(_:aH)(rd:uar)(x:Int):Prop:=rd 0=some (.I x)
def Ie(_:aH)(rd:uar)(s:ByteArray):Prop:=rd 0=some (.string s)/\s.size<=9223372036854775807
def BR(_:aH)(rd:uar)(x:Bool):Prop:=rd 0=some (.bool x)
def E8(_:aH)(rd:uar)(t:ubu):Prop:=rd 0=some (.I t.1)/\rd 1=some (.I t.2)
theorem z6:pg q9:=λ_ _ _ _ _ _ a h=>a _ _ h
def Qn:pg BR:=λ_ _ _ _ _ _ a h=>a _ _ h
def XB:pg Ie:=λ_ _ _ _ _ _ a h=>⟨a _ _ h.1,h.2⟩
def oH:pg E8:=λ_ _ _ _ _ _ a h=>⟨a _ _ h.1,a _ _ h.2⟩
abbrev jB(w:aH):=bw w 1 q9
abbrev Qo(w:aH):=bw w 1 Ie
abbrev If(w:aH):=bw w 1 BR
abbrev gR(w:aH):=bw w 2 E8
structure bQ where
 kind:Int
 cY:Int
 k7:List Int
 jC:List ByteArray
 j_:List Bool
structure uE(w:aH)(b9 vs bt:Value)(c:bQ):Prop where
 k7:jB w b9 c.k7
 jC:Qo w vs c.jC
 j_:If w bt c.j_
def E9(w:aH)(rd:uar)(c:bQ):Prop:=
 ∃b9 vs bt,rd 0=some (.I c.kind)/\rd 1=some (.I c.cY)/\rd 2=some b9/\rd 3=some vs/\rd 4=some bt/\uE w b9 vs bt c
variable{bt vs:Value}
theorem uE.mono(hk:bm w w'){b9:Value}{c:bQ}(h:uE w b9 vs bt c):uE w' b9 vs bt c:=
 ⟨h.k7.mono z6 hk,h.jC.mono XB hk,h.j_.mono Qn hk⟩
theorem uE.shape{b9:Value}{c:bQ}(h:uE w b9 vs bt c):∃d ci a b an e,b9=.slice d c.k7.length ci/\vs=.slice a c.jC.length b/\bt=.slice an c.j_.length e:=by obtain⟨d,ci,i,-,-⟩:=h.k7;obtain⟨a,b,g,-,-⟩:=h.jC;obtain⟨an,e,f,-,-⟩:=h.j_;grind
def q_:pg E9:=λ_ _ _ _ _ hk a⟨b9,vs,bt,h0,f,e,d,c,b⟩=>
 ⟨b9,vs,bt,a _ _ h0,a _ _ f,a _ _ e,a _ _ d,a _ _ c,b.mono hk⟩
abbrev nV(w:aH):=bw w 5 E9
def Qp(w:aH)(rd:uar)(t:List bQ):Prop:=∃v,rd 0=some v/\nV w v t
def LQ:pg Qp:=λ_ _ _ _ _ hk a⟨v,h0,h⟩=>⟨v,a _ _ h0,h.mono q_ hk⟩
abbrev BS(w:aH):=bw w 1 Qp
structure Qq where
 op:Int
 a:Int
 v:Int
 s:ByteArray
def XC(_:aH)(rd:uar)(t:Qq):Prop:=
 rd 0=some (.I t.op)/\rd 1=some (.I t.a)/\rd 2=some (.I t.v)/\rd 3=some (.string t.s)/\t.s.size<=9223372036854775807
def akM:pg XC:=λ_ _ _ _ _ _ a h=>⟨a _ _ h.1,a _ _ h.2.1,a _ _ h.2.2.1,a _ _ h.2.2.2.1,h.2.2.2.2⟩
abbrev akN(w:aH):=bw w 4 XC
def XD(w:aH)(rd:uar)(e:List Qq):Prop:=∃v,rd 0=some v/\akN w v e
def akO:pg XD:=λ_ _ _ _ _ hk a⟨v,h0,h⟩=>⟨v,a _ _ h0,h.mono akM hk⟩
abbrev akP(w:aH):=bw w 1 XD
abbrev akQ(w:aH):=bw w 2 E8
structure oI where
 op:Int
 a:Int
 b:Int
 Ig:List (List Qq)
 Ih:List Int
 others:List Int
 Ii:List (Int×Int)
structure E_(w:aH)(tt dL mm cZ:Value)(n:oI):Prop where
 Ig:akP w tt n.Ig
 Ih:jB w dL n.Ih
 others:jB w mm n.others
 Ii:akQ w cZ n.Ii
variable{cZ dL mm tt:Value}
theorem E_.mono(hk:bm w w'){n:oI}(h:E_ w tt dL mm cZ n):E_ w' tt dL mm cZ n:=
 ⟨h.Ig.mono akO hk,h.Ih.mono z6 hk,h.others.mono z6 hk,h.Ii.mono oH hk⟩
theorem E_.shape{n:oI}(h:E_ w tt dL mm cZ n):∃f ce e a c dV d b,tt=.slice f n.Ig.length ce/\dL=.slice e n.Ih.length a/\mm=.slice c n.others.length dV/\cZ=.slice d n.Ii.length b:=by obtain⟨f,ce,k,-,-⟩:=h.Ig;obtain⟨e,a,j,-,-⟩:=h.Ih;obtain⟨c,dV,i,-,-⟩:=h.others;obtain⟨d,b,g,-,-⟩:=h.Ii;grind
def XE(w:aH)(rd:uar)(n:oI):Prop:=
 ∃tt dL mm cZ,rd 0=some (.I n.op)/\rd 1=some (.I n.a)/\rd 2=some (.I n.b)/\rd 3=some tt/\rd 4=some dL/\rd 5=some mm/\rd 6=some cZ/\E_ w tt dL mm cZ n
def Qr:pg XE:=λ_ _ _ _ _ hk a⟨tt,dL,mm,cZ,h0,e,d,c,b,g,f,h⟩=>
 ⟨tt,dL,mm,cZ,a _ _ h0,a _ _ e,a _ _ d,a _ _ c,a _ _ b,a _ _ g,a _ _ f,h.mono hk⟩
abbrev Qs(w:aH):=bw w 7 XE
abbrev xZ(t:ubu):Value:=.agg #[.I t.1,.I t.2]
variable{W w1:aH}
def XF(a:cC W w1):(∀b o,b<W.heap.size->w1.cell? (.a b o)=W.cell? (.a b o))/\(∀b o,b<W.heap.size->w1.frozen? ⟨b,o,none⟩=W.frozen? ⟨b,o,none⟩):=
 ⟨λb o h=>a.cell (p:=⟨b,o,none⟩) h,λb o h=>a.frozen (p:=⟨b,o,none⟩) h⟩
def after(B:Nat)(a:cC W w1)(c:B<=W.heap.size):(∀b o,b<B->w1.cell? (.a b o)=W.cell? (.a b o))/\(∀b o,b<B->w1.frozen? ⟨b,o,none⟩=W.frozen? ⟨b,o,none⟩)/\B<=w1.heap.size:=
 ⟨λb o h=>(XF a).1 b o AY,λb o h=>(XF a).2 b o AY,by have:=a.size;omega⟩
theorem Below.step{B:Nat}{w W w1:aH}(a:cC W w1)(h:Below B w W)(b:B<=W.heap.size):Below B w w1:=h.trans (a.mono b)
theorem bm.alloc(h:bm a w)(o:Obj):bm a (w.alloc o):=
 h.trans (bm.b4 ((vaa _ _).alloc IB o))
theorem bm.drew(h:bm a w):bm a w.drew:=λb o v e=>by simpa using h b o v e
theorem bm.step{a W w1:aH}(h:bm a W)(b:cC W w1):bm a w1:=h.trans (bm.b4 b)
def ag(w:aH)(b:Nat)(cs:dC)(T:uaa):Prop:=w.heap[b]?=some (.cells cs T (0,0))
variable{cs:dC}{T:uaa}
def ag.lt(h:ag w b cs T):b<w.heap.size:=by grind[ag]
theorem ag.rules(h:ag w b cs T):(∀o,w.cell? (.a b o)=cs[o]?)/\(∀o,w.frozen? ⟨b,o,none⟩=false):=by grind[ag,World.cell?,World.frozen?]
def ag.all(h:ag w b cs T):(∀o,w.cell? (.a b o)=cs[o]?)/\(∀o,w.frozen? ⟨b,o,none⟩=false)/\b<w.heap.size:=⟨h.rules.1,h.rules.2,h.lt⟩
def ag.below{B:Nat}(h:ag w b cs T)(a:Below B w w')(c:b<B):ag w' b cs T:=by unfold ag at *;rw[a.block b c];exact h
def ag.call(h:ag w b cs T)(a:cC w w'):ag w' b cs T:=h.below a h.lt
theorem ag.alloc(h:ag w b cs T)(o:Obj):ag (w.alloc o) b cs T:=
 h.call ((vaa _ _).alloc IB o)
theorem ag.drew(h:ag w b cs T):ag w.drew b cs T:=h
def ag.new(w:aH)(cs:dC)(T:uaa):ag (w.alloc (.cells cs T)) w.heap.size cs T:=by exact heap_alloc_new w _
def ag.set(h:ag w b cs T)(o:Nat)(v:Value):ag (w.setCell ⟨b,o,none⟩ v) b (cs.setIfInBounds o v) T:=by grind[ag,World.setCell]
def ag.fL(h:ag w b cs T){a:Addr}(c:b≠a.block)(v:Value):ag (w.setCell a v) b cs T:=by grind[ag,Below.heap_setCell]
namespace bB
open RowKit
structure fO(W W':aH):Prop where
 size:W.heap.size<=W'.heap.size
 cells:∀(b:Nat)(c:dC)(e:uaa)(z:ubo),W.heap[b]?=some (Obj.cells c e z)->W'.heap[b]?=some (Obj.cells c e z)
variable{w:aH}
def jk{b:Nat}{o:Obj}(h:w.heap[b]?=some o):b<w.heap.size:=(vag.1 h).1
variable{W W':aH}
def fO.below(h:cC W W'):fO W W':=⟨h.size,λb _ _ _ e=>(h.block b (jk e)).trans e⟩
variable{A B C:aH}
theorem fO.trans(h:fO A B)(k:fO B C):fO A C:=⟨vac h.size k.size,λb c e z x=>k.cells b c e z (h.cells b c e z x)⟩
variable{l:Nat}
theorem fO.put{r a:Loop}(h:W.heap[l]?=some (.loop r)):fO W (W.putObj l (.loop a)):=
 ⟨Ab,λb c e z x=>by
  grind[World.putObj_heap_other]⟩
variable{n₀:Nat}
def pC(o:Obj)(h:n₀<=l):Below n₀ W (W.putObj l o):=
 ⟨U,U,U,Ab,λk hk=>vao AY⟩
def BZ(n:Nat)(P:ck)(g:Nat)(lb:dC)(Row:uao)(N n₀:Nat)(w0:aH):Prop:=
 ∀(l:Nat)(S:c5)(J:ubi)(W:aH),Below n₀ w0 W->(∀t W,J t W->∀b,S b->b<W.heap.size)->(∀t W W',J t W->fO W W'->(∀b,S b->W'.heap[b]?=W.heap[b]?)->J t W')->
  (∀t x W1,J t W1->t<N->Row t W1 x->YieldAt Fence.wide (n-1) P l #[x] W1 λe W'=>e=.returned (.T)/\J (t+1) W'/\Below n₀ W1 W')->
  J 0 W->CallsIn Fence.wide n P g (#[.func (.yield l) #[] #[]]++lb) W λe W'=>(∃v,e=.returned v)/\J N W'/\Below n₀ W W'
def Fj{S:c5}{J:ubi}(a:∀t W,J t W->∀b,S b->b<W.heap.size)(d:∀t W W',J t W->fO W W'->(∀b,S b->W'.heap[b]?=W.heap[b]?)->J t W'):∀t W W',J t W->cC W W'->J t W':=
 λt W W' h c=>d t W W' h (.below c) λb hs=>c.block b (a t W h b hs)
def hU(X n₀:Nat)(W W':aH):Prop:=Below 0 W W'/\∀b,b<n₀->b≠X->W'.heap[b]?=W.heap[b]?
variable{X:Nat}
theorem hU.of(h:Below n₀ W W'):hU X n₀ W W':=⟨h.mono (vaz _),λb a _=>h.block b a⟩
def hU.a7(h:hU n₀ n₀ W W'):Below n₀ W W':=⟨h.1.1,h.1.2,h.1.3,h.1.4,λb a=>h.2 b a AY⟩
theorem hU.trans(h:hU X n₀ A B)(k:hU X n₀ B C):hU X n₀ A C:=⟨h.1.trans k.1,λb c a=>(k.2 b c a).trans (h.2 b c a)⟩
def qn(W W':aH):Prop:=∀(b:Nat)(o:Obj),W.heap[b]?=some o->((∃r,o=.loop r)\/∃d,o=.deferred d)->W'.heap[b]?=some o
theorem qn.of(h:KeepsOthers W W'):qn W W':=λb o c a=>h.same b o c (by rcases a with⟨r,rfl⟩|⟨d,rfl⟩<;>rfl)
theorem qn.trans(h:qn A B)(k:qn B C):qn A C:=λb o c a=>k b o (h b o c a) a
def oL(Y:ubh)(W W':aH):Prop:=∀(b:Nat)(c:dC)(e:uaa)(z:ubo),Y e->W.heap[b]?=some (.cells c e z)->W'.heap[b]?=some (.cells c e z)
variable{Y:ubh}
theorem oL.of(h:fO W W'):oL Y W W':=λb c e z _ x=>h.cells b c e z x
theorem oL.trans(h:oL Y A B)(k:oL Y B C):oL Y A C:=λb c e z y x=>k b c e z y (h b c e z y x)
def B0(Y:ubh)(X n:Nat)(P:ck)(g:Nat)(lb:dC)(Row:ubp)(N n₀:Nat)(w0:aH):Prop:=
 ∀(l:Nat)(S:c5)(J:ubi)(W:aH),Below n₀ w0 W->(∀t W,J t W->∀b,S b->b<W.heap.size)->(∀t W W',J t W->fO W W'->(∀b,S b->W'.heap[b]?=W.heap[b]?)->J t W')->
  (∀t x qo W1,J t qo->cC qo W1->J t W1->t<N->Row t qo.heap.size W1 x->YieldAt Fence.wide (n-1) P l #[x] W1 λe W'=>e=.returned (.T)/\J (t+1) W'/\hU X n₀ W1 W'/\oL Y W1 W')->
  J 0 W->CallsIn Fence.wide n P g (#[.func (.yield l) #[] #[]]++lb) W λe W'=>(∃v,e=.returned v)/\J N W'/\hU X n₀ W W'
variable{w0:aH}{N n:Nat}{P:ck}{lb:dC}
theorem BZ.x{g:Nat}{Row:uao}(h:BZ n P g lb Row N n₀ w0):B0 Y n₀ n P g lb (λt _=>Row t) N n₀ w0:=by intro l S J W o s r q p;refine(h l S J W o s r (λt x k a b c=>?_) p).mono λe W'⟨i,f,d⟩=>⟨i,f,.of d⟩;obtain⟨fn,tmps,ay,j,m,u⟩:=q t x k k a (.refl _ _) a b c;exact⟨fn,tmps,ay,j,m,u.mono λe W'⟨i,f,d,_⟩=>⟨i,f,d.a7⟩⟩
variable{gf:Nat}{assign body:Code}{Q:uap}
def L3{g:uaq}{p:Tmp}{a:Act}{Row:ubp}(hg:a.eval g=.func (.func gf) #[] lb)(ov:∀args w,(callFunc gf args).run P w=.ok (.enter gf args) w)(L:B0 Y X (n-1) P gf lb Row N n₀ w0)(R:Below n₀ w0 w)(hn:n₀<=w.heap.size)(S:c5)(Z:∀b,S b->b<w.heap.size)(I:ubi)(hI:∀t W W',I t W->fO W W'->(∀b,S b->W'.heap[b]?=W.heap[b]?)->I t W')(h0:I 0 w)(q:ubk)(hAx:∀t x a' W W',q t x a' W->fO W W'->(∀b,S b->W'.heap[b]?=W.heap[b]?)->q t x a' W')(B1:∀(l t:Nat)(x:Value)(f W:aH)(K:uak),I t f->cC f W->I t W->t<N->Row t f.heap.size W x->(∀a' W',cC W W'->q t x a' W'->K a' W')->
  assign.wpIn (Fence.wide.inRound l) (n-1-1) P (Exit.then K (λ_ _ _=>False)) {tmps:=a.tmps.setIfInBounds p x,defers:=[]} W)(H:∀(l t:Nat)(x:Value)(a':Act)(W:aH),I t W->t<N->q t x a' W->n₀<=W.heap.size->body.wpIn (Fence.wide.inRound l) (n-1-1) P (λe _ W'=>e=.normal/\qn W W'/\hU X n₀ W W'/\oL Y W W'/\I (t+1) W') a' W)(hdone:∀W,I N W->hU X n₀ w W->W.heap[w.heap.size]?=some (.deferred (some []))->Q .normal {a with defers:={target:=.collected w.heap.size,args:=#[]}::a.defers} W):
 (Code.rangeFunc g #[p] assign body).wpIn Fence.wide n P Q a w:=by
 refine wpIn_rangeFunc ?_;intro fn hN;obtain⟨rec,B⟩:∃rec:LoopState->Loop,rec=λst=>{state:=st,pending:=none,fn,tmps:=a.tmps,params:=#[p],assign,body,defers:=w.heap.size}:=⟨_,rfl⟩;obtain⟨c,Ip⟩:∃c,(w.alloc (.deferred (some []))).alloc (.loop (rec .ready))=c:=⟨_,rfl⟩;have Bh:c.heap[w.heap.size+1]?=some (.loop (rec .ready)):=by grind[World.alloc_heap_new,World.size_alloc]
 have Iq:c.heap[w.heap.size]?=some (.deferred (some [])):=by grind[Below.heap_alloc,World.alloc_heap_new]
 have m:cC w c:=by rw[<-Ip];exact((vaa _ w).alloc IB _).alloc Ab _
 refine⟨w.heap.size+1,[{target:=.collected w.heap.size,args:=#[]}],c,{target:=.fn (.func gf) lb,args:=#[.func (.yield (w.heap.size+1)) #[] #[]]},c,gf,#[.func (.yield (w.heap.size+1)) #[] #[]]++lb,c,?_,?_,λ_ _=>trivial,?_,λh=>BQ,?_⟩
 .simp_all[run_enterLoop_outer]
 .simp only[resolve,hg];simp[go_sem]
 .grind[invoke]
 .refine(L (w.heap.size+1) (λb=>S b\/b=w.heap.size\/b=w.heap.size+1) (λt W=>(I t W/\n₀<=W.heap.size/\w.heap.size<=W.heap.size)/\W.heap[w.heap.size+1]?=some (.loop (rec .ready))/\W.heap[w.heap.size]?=some (.deferred (some []))) c (R.trans (m.mono hn)) ?_ ?_ ?_ ⟨⟨hI _ _ _ h0 (.below m) (λb hs=>m.block b (Z b hs)),AN,m.size⟩,Bh,Iq⟩).mono ?_
  .grind
  .grind
  .rintro t x f W ⟨⟨Ir,-⟩,-⟩ D ⟨⟨hi,O,wj⟩,i,hk⟩ j bS;have z:∀(W:aH)(o:Obj) b,S b->(W.putObj (w.heap.size+1) o).heap[b]?=W.heap[b]?:=λW o b hs=>vao AN;have y:=run_yield (P:=P) (args:=#[x]) i AN;rw[B]at y;refine⟨fn,_,assign,body,y,roundIn_of_wpIn hN ?_⟩;clear y;have e1:(#[p].zip #[x]).foldl (λtmps(u:Tmp×Value)=>tmps.setIfInBounds u.1 u.2) a.tmps=a.tmps.setIfInBounds p x:=Ab;refine Eq.mp (vbn (λT=>Code.wpIn (Fence.wide.inRound (w.heap.size+1)) (n-1-1) P assign _ {tmps:=T,defers:=[]} W) e1.symm) ?_;refine B1 _ t x f W _ Ir D hi j bS ?_;intro a' C d Is;have k:=(d.block _ (jk i)).trans i;have dW:=(d.block _ (jk hk)).trans hk;refine⟨_,run_beginRound k AN,?_⟩;have h8:(C.putObj (w.heap.size+1) (.loop {rec .ready with state:=.busy})).heap[w.heap.size+1]?=some (.loop {rec .ready with state:=.busy}):=vdf (jk k);have M:(C.putObj (w.heap.size+1) (.loop {rec .ready with state:=.busy})).heap[w.heap.size]?=some (.deferred (some [])):=(vao AY).trans dW;refine wpIn_mono (H _ t x a' _ (hI _ _ _ (hI _ _ _ hi (.below d) (λb hs=>d.block b AN)) (.put k) (z _ _)) j (hAx _ _ _ _ _ Is (.put k) (z _ _)) AN) ?_;rintro e bR mw ⟨rfl,A,r,J,F⟩;have s:=A _ _ h8 (.inl ⟨_,rfl⟩);have E:=A _ _ M (.inr ⟨_,rfl⟩);have U:=run_endRound (P:=P) none s;refine⟨_,_,U,rfl,⟨⟨hI _ _ _ F (.put s) (z _ _),by have:=d.size;have:=r.1.size;simp at this⊢;omega,by have:=d.size;have:=r.1.size;simp at this⊢;omega⟩,?_,(vao AY).trans E⟩,?_,((oL.of (.below d)).trans (.of (.put k))).trans (J.trans (.of (.put s)))⟩
   .grind[World.putObj_heap_same]
   .exact(((hU.of (d.mono O)).trans ((hU.of (pC _ AY)).trans r)).trans (.of (pC _ AY)))
  .rintro e W2 ⟨⟨v,rfl⟩,⟨⟨hi,-⟩,i,hk⟩,V⟩;refine⟨none,_,by have:=run_endLoop (P:=P) i AN;rw[B]at this;exact this,hdone _ (hI _ _ _ hi (.put i) λb hs=>vao AN) ?_ ((vao AY).trans hk)⟩;exact((hU.of (m.mono hn)).trans V).trans (.of (pC _ AY))
def X3{g:uaq}{p:Tmp}{a:Act}{Row:uao}(hg:a.eval g=.func (.func gf) #[] lb)(m:∀args w,(callFunc gf args).run P w=.ok (.enter gf args) w)(o:BZ (n-1) P gf lb Row N n₀ w0)(v:Below n₀ w0 w)(hn:n₀<=w.heap.size)(S:c5)(y:∀b,S b->b<w.heap.size)(I:ubi)(hI:∀t W W',I t W->fO W W'->(∀b,S b->W'.heap[b]?=W.heap[b]?)->I t W')(h0:I 0 w)(c:ubk)(hAx:∀t x a' W W',c t x a' W->fO W W'->(∀b,S b->W'.heap[b]?=W.heap[b]?)->c t x a' W')(z:∀(l t:Nat)(x:Value)(W:aH)(K:uak),I t W->t<N->Row t W x->(∀a' W',cC W W'->c t x a' W'->K a' W')->
  assign.wpIn (Fence.wide.inRound l) (n-1-1) P (Exit.then K (λ_ _ _=>False)) {tmps:=a.tmps.setIfInBounds p x,defers:=[]} W)(k:∀(l t:Nat)(x:Value)(a':Act)(W:aH),I t W->t<N->c t x a' W->n₀<=W.heap.size->body.wpIn (Fence.wide.inRound l) (n-1-1) P (λe _ W'=>e=.normal/\KeepsOthers W W'/\Below n₀ W W'/\I (t+1) W') a' W)(hdone:∀W,I N W->Below n₀ w W->W.heap[w.heap.size]?=some (.deferred (some []))->Q .normal {a with defers:={target:=.collected w.heap.size,args:=#[]}::a.defers} W):
 (Code.rangeFunc g #[p] assign body).wpIn Fence.wide n P Q a w:=by
 refine L3 (Y:=λ_=>False) (X:=n₀) hg m o.x v hn S y I hI h0 c hAx (λl t x A W K _ _ f d i=>z l t x W K f d i) (λl t x a' W j f d i=>wpIn_mono (k l t x a' W j f d i) ?_) (λW j f d=>hdone W j f.a7 d);rintro e a W' ⟨u,s,r,q⟩;exact⟨u,.of s,.of r,λ_ _ _ _ h=>h.elim,q⟩
end bB
open RowKit
structure rh(P:ck)(t e:uaa)(z:Value)(size bytes:Nat):Prop where
 ht:P.underlying t=some (.slice e)
 hi:(P.info? e).map (λi=>(i.zero,i.size,i.bytes))=some (some z,size,bytes)
 Q7:z.cells.size=size
 hsz:0<size
variable{P:ck}{e t:uaa}{z:Value}{size:Nat}{ops:eQ}{Q:uap}
def Iz{bytes:Nat}(E:rh P t e z size bytes)(w:aH){rest:ubf}{o:Oper}{a:Act}(C:o.guard=none)(s x:uaq)(p:o.op=.call {callee:=.builtin .append,args:=#[s,x],argTypes:=#[t,t]})(base:Nat)(v:Value)(n:Nat)(xs:uam)(hs:a.eval s=v)(B:w.ownsRow base e size v n xs)(b m c:Nat)(news:uam)(l:a.eval x=.S b 0 m c)(r:news.length=m*size)(F:∀j u,news[j]?=some u->w.cell? (.a b j)=some u)(y:∀u∈news,u.oneCell'=true)(q:0<m)(D:(n+m)*bytes<=140737488355328)(J:n+m<=9223372036854775807)(d:base<=w.heap.size)(H:Nat)(A:w.heap.size=H)(h:∀g cap w',w'.ownsRow base e size (.S g 0 (n+m) cap) (n+m) (xs++news)->w.grownBy w' v.ownBlock->(v.ownBlock=some g\/g=H)->g<w'.heap.size->wpList P ops Q rest (a.put o.dst (.S g 0 (n+m) cap)) w'):
 wpList P ops Q (o::rest) a w:=by
 obtain⟨i,hi,k,hsz,f⟩:=vbt E.hi;exact wpList_append_lies w C s x t p base e i z size bytes E.ht hi k hsz f E.Q7 E.hsz v n xs hs B ⟨b,0,none⟩ m c news l r (λj u I=>by simp_all[vda]) y q HY D d H A h
def alA{bytes:Nat}(E:rh P t e z size bytes)(w:aH){o:Oper}{a:Act}{K:uak}{F:Prop}(C:o.guard=none)(s x:uaq)(p:o.op=.call {callee:=.builtin .append,args:=#[s,x],argTypes:=#[t,t]})(base:Nat)(v:Value)(n:Nat)(xs:uam)(hs:a.eval s=v)(B:w.ownsRow base e size v n xs)(b m c:Nat)(news:uam)(l:a.eval x=.S b 0 m c)(r:news.length=m*size)(I:∀j u,news[j]?=some u->w.cell? (.a b j)=some u)(y:∀u∈news,u.oneCell'=true)(q:0<m)(D:(n+m)*bytes<=140737488355328)(L:n+m<=9223372036854775807)(d:base<=w.heap.size)(H:Nat)(A:w.heap.size=H)(h:∀g cap w',w'.ownsRow base e size (.S g 0 (n+m) cap) (n+m) (xs++news)->w.grownBy w' v.ownBlock->(v.ownBlock=some g\/g=H)->g<w'.heap.size->K (a.put o.dst (.S g 0 (n+m) cap)) w'):
 if Region.wanted o (yielded ops a.tmps)=true then Oper.wp P o a w K Q else F:=by
 obtain⟨i,hi,k,hsz,f⟩:=vbt E.hi;exact step_append_lies w C s x t p base e i z size bytes E.ht hi k hsz f E.Q7 E.hsz v n xs hs B ⟨b,0,none⟩ m c news l r (λj u J=>by simp_all[vda]) y q HY D d H A h
def IA(l:uah):List Value:=l.flatMap λt=>[.I t.1,.I t.2]
theorem Yn(l:uah)(i:Nat)(hi:i<l.length):(IA l)[i*2]?=some (.I l[i].1)/\(IA l)[i*2+1]?=some (.I l[i].2):=by induction l generalizing i with|nil=>grind|cons t r a=>cases i with|zero=>simp[IA]|succ i=>grind[IA]
variable{n:Nat}{w:aH}{xs:uam}
theorem B8{base:Nat}{g cap:Nat}(h:w.ownsRow base e size (.S g 0 n cap) n xs)(j:Nat)(u:Value)(a:xs[j]?=some u):w.cell? (.a g j)=some u:=by have:=h.cells (g:=g) U j u a;rwa[vda,vby]at this
variable{v:Value}
def gR.Ft{base:Nat}{l:uah}(h:w.ownsRow base e 2 v l.length (IA l))(a:l.length<=9223372036854775807):gR w v l:=by
 have b:=h;rcases b.2 with⟨rfl,h0⟩|⟨g,cap,bc,rfl,c⟩
 .grind[bw.nil]
 .refine⟨_,cap,U,a,λi hi=>⟨g,0,U,?_,?_⟩⟩
  .simp;grind[B8,Yn]
  .simp;exact B8 h _ _ (Yn l i hi).2
def qq{base:Nat}(h:w.ownsRow base e size v n xs):∃a c,v=.slice a n c:=by
 rcases h.2 with⟨rfl,rfl⟩|⟨g,cap,bc,rfl,-⟩
 .grind
 grind
variable{w':aH}
def alB{base B:Nat}(h:w.ownsRow base e size v n xs)(b:Below B w w')(a:∀g,v.ownBlock=some g->g<B):w'.ownsRow base e size v n xs:=by
 refine⟨h.1,?_⟩;rcases h.2 with hn|⟨g,cap,bc,rfl,c,d,rest⟩
 .grind
 .refine .inr ⟨g,cap,bc,U,c,?_,rest⟩;rw[b.block g (a g U)];grind
def Yo{base:Nat}(h:w.ownsRow base e size v n xs)(a:cC w w'):w'.ownsRow base e size v n xs:=
 alB h a (λg hg=>(h.lt g hg).2)
variable{T:uaa}{b:Nat}{cs:dC}
theorem ag.grown{row:ubj}(h:ag w b cs T)(hg:w.grownBy w' row)(a:∀g,row=some g->b≠g):ag w' b cs T:=by unfold ag at *;rw[hg.block b (ag.lt h) AN];exact h
def alC{x y:Value}(h:ag w b #[x,y] T):∀j u,([x,y]:uam)[j]?=some u->w.cell? (.a b j)=some u:=by intro j u a;rw[h.rules.1 j];grind
def alD(a b:Int):∀u∈([.I a,.I b]:uam),u.oneCell'=true:=by intro u c;simp at c;rcases c with rfl|rfl<;>rfl
def Q_{bytes:Nat}(E:rh P t e z size bytes)(w:aH){rest:ubf}{o:Oper}{a:Act}(hg:o.guard=none)(l c:uaq)(d:o.op=Op.makeSlice t l c)(f kc:IntKind)(n:Nat)(j:a.eval l=.int f n)(m:a.eval c=.int kc n)(s:bytes*n<=281474976710656)(hn:n<=9223372036854775807)(hK:∀w' bc,ag w' w.heap.size bc e->bc.size=n*size->cC w w'->wpList P ops Q rest (a.put o.dst (.S w.heap.size 0 n n)) w'):
 wpList P ops Q (o::rest) a w:=by
 obtain⟨i,hi,h,hsz,r⟩:=vbt E.hi;refine wpList_make_full w hg l c t d w.heap.size e i z size E.ht hi h hsz f kc _ _ n j m U U AN HY IB ?_;intro w' p b;rcases p.2 with⟨h0,_⟩|⟨g,cap,bc,hv,_,q,_,_,hs,_⟩
 .grind
 .simp at hv;obtain⟨rfl,rfl⟩:=hv;exact hK w' bc q hs ⟨b.os,b.tape,b.output,b.size,λk hk=>b.block k hk Ab⟩
theorem bw.shape{ao:Type}{sz:Nat}{R:aH->(Nat->Option Value)->ao->Prop}{xs:List ao}(h:bw w sz R v xs):∃a cap,v=.slice a xs.length cap/\xs.length<=9223372036854775807:=by obtain⟨a,cap,hv,b,-⟩:=h;grind
def fB(T:uaa)(w:aH)(v:Value):Prop:=∀b off n c,v=.S b off n c->∃k,w.shape? b=some (T,k)
theorem fB.box(h:ag w b cs T)(off n c:Nat):fB T w (.S b off n c):=by intro f g a d e;simp at e;simp_all[ag,World.shape?]
def fB.Ft{base:Nat}(h:w.ownsRow base T size v n xs):fB T w v:=by
 rcases h.2 with⟨rfl,_⟩|⟨g,cap,bc,rfl,_,hg,_⟩
 .intro b off n c e;grind
 simp_all[fB.box,ag]
def fB.call(h:fB T w v)(d:cC w w'):fB T w' v:=by
 intro b off n c e;obtain⟨k,hk⟩:=h b off n c e;refine⟨k,?_⟩;have a:b<w.heap.size:=by grind[World.shape?]
 simp[World.shape?]at hk⊢;rw[d.block b a];exact hk
def fB.set(h:fB T w v)(a:Addr)(u:Value):fB T (w.setCell a u) v:=by intro b off n c e;obtain⟨k,hk⟩:=h b off n c e;refine⟨k,?_⟩;simp[World.shape?,World.setCell,vay]at hk⊢;grind
theorem fB.grown(h:fB T w v){row:ubj}(hg:w.grownBy w' row)(d:∀b off n c,v=.S b off n c->row≠some b):fB T w' v:=by
 intro b off n c e;obtain⟨k,hk⟩:=h b off n c e;refine⟨k,?_⟩;have a:b<w.heap.size:=by grind[World.shape?]
 simp[World.shape?]at hk⊢;rw[hg.block b a AN];exact hk
def Fu(cs:dC)(l:uah)(k:Nat):Prop:=∀j(h:j<l.length),j<k->cs[j*2]?=some (.I l[j].1)/\cs[j*2+1]?=some (.I l[j].2)
theorem Fu.step{cs:dC}{l:uah}{k:Nat}(h:Fu cs l k)(hk:k<l.length)(hs:cs.size=l.length*2):
 Fu ((cs.setIfInBounds (k*2) (.I l[k].1)).setIfInBounds (k*2+1) (.I l[k].2)) l (k+1):=by
 intro j a b;by_cases e:j=k
 .grind
 .have:=h j a AY;grind
def gR.Ra{l:uah}(h:ag w b cs T)(c:l.length<=9223372036854775807)(a:Fu cs l l.length)(cap:Nat):gR w (.S b 0 l.length cap) l:=by
 refine⟨_,cap,U,c,λi hi=>⟨b,0,U,?_,?_⟩⟩
 .simp;rw[h.rules.1];exact(a i hi hi).1
 .simp;rw[h.rules.1];exact(a i hi hi).2
