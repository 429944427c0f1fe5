import Derived.Deep.AppendLies
import Derived.Conc.HoldsTime
import Derived.Test.YtoehnnefaeoeoaaGreatPAB
set_option linter.all false
set_option maxRecDepth 100000
set_option maxHeartbeats 16000000
namespace Go.Proofs.YtoehnnefaeoeoaaGreat
namespace az
def uH:Option Code->Bool
 |none=>true
 |some .ret=>true
 | _=>false
variable {aY fr:Frame}{b0 bf cs:List Frame}{w w' w1:World}{g1:Goroutine}{me:Array Event}
section
variable {C:cU} {S:Sync} {ρ:ay}
theorem ahk{main main':Bool}{base:List Frame}{l a:Nat}(jump:Option Code)(y:∀c,jump=some c->C.ma c)
 (p:en C ρ fr aY) (D:jg C ρ cs bf) (q:jh fr cs) (u:eN C S ρ w w') (t:fr.roundOf=some l) (n:aY.roundOf=some a)
 (h:GStep.after (seen C.P fr.fn ((Instr.endRound l jump).events C.P w #[])) (match(Instr.endRound l jump).run C.P w with
  | .ok v w=>doReturn C.P main fr (cs++b0) none v w
  | .halt _ w=>.ended (.stuck "range over a function: no such loop" (fr.pos C.P)) w)=.go g1 w1 me)
 (f:(iX (match(Instr.endRound a jump).run C.Q w' with
  | .ok v w=>doReturn C.Q main' aY (bf++base) none v w
  | .halt _ w=>.ended (.stuck "range over a function: no such loop" (aY.pos C.Q)) w)).drawn<=S.bound):
 iY C S ρ b0 base w' g1 w1 (GStep.after (seen C.Q aY.fn ((Instr.endRound a jump).events C.Q w' #[])) (match(Instr.endRound a jump).run C.Q w' with
  | .ok v w=>doReturn C.Q main' aY (bf++base) none v w
  | .halt _ w=>.ended (.stuck "range over a function: no such loop" (aY.pos C.Q)) w)):=by
 have F:ρ.rel l a:=by have:=p.roundOf;rw[t,n]at this;cases this;grind
 obtain⟨I,i⟩:=AI h;have lS:Good ((Instr.endRound l jump).run C.P w):=by cases b:(Instr.endRound l jump).run C.P w with|ok v j=>trivial|halt x j=>grind
 have B:(lr ((Instr.endRound a jump).run C.Q w')).drawn<=S.bound:=by cases b:(Instr.endRound a jump).run C.Q w' with|ok v j=>rw[b]at f;simp only[WM]at f;exact f|halt x j=>rw[b]at f;exact f
 obtain⟨σ,H,k,g,E⟩:=agO F jump y S w w' u lS B;obtain⟨d,hd,s⟩:=E #[];rw[Array.empty_append]at hd;rw[hd];refine iY.after g (fun e z=>s e (zo z)) ?_;generalize(Instr.endRound l jump).run C.P w=r at k i;generalize(Instr.endRound a jump).run C.Q w'=J at k;cases k with
 |ok o m=>cases D with|nil=>have:=q.2;grind|cons A b=>exact WS (p.mono g.le) (A.mono g.le) (jg.mono g.le b) q.PW m o i
 |panic o m=>cases i
 |goexit m=>cases i
theorem Lp{main main':Bool}{base:List Frame}(jump:Option Code)(o:∀c,jump=some c->C.ma c)
 (e:en C ρ fr aY) (i:jg C ρ cs bf) (j:jh fr cs) (g:eN C S ρ w w')
 (L d:GStep)
 (k:fr.roundOf=none->L=(if uH jump=true then .go {frame:={fr with mode:=.returning},callers:=cs++b0,status:=.running,dying:=none} w else .ended (.stuck "exit, goto: no such block or label" (fr.pos C.P)) w))
 (r:∀l,fr.roundOf=some l->L=GStep.after (seen C.P fr.fn ((Instr.endRound l jump).events C.P w #[])) (match(Instr.endRound l jump).run C.P w with
  | .ok v w=>doReturn C.P main fr (cs++b0) none v w
  | .halt _ w=>.ended (.stuck "range over a function: no such loop" (fr.pos C.P)) w))
 (n:aY.roundOf=none->d=(if uH jump=true then .go {frame:={aY with mode:=.returning},callers:=bf++base,status:=.running,dying:=none} w' else .ended (.stuck "exit, goto: no such block or label" (aY.pos C.Q)) w'))
 (m:∀l,aY.roundOf=some l->d=GStep.after (seen C.Q aY.fn ((Instr.endRound l jump).events C.Q w' #[])) (match(Instr.endRound l jump).run C.Q w' with
  | .ok v w=>doReturn C.Q main' aY (bf++base) none v w
  | .halt _ w=>.ended (.stuck "range over a function: no such loop" (aY.pos C.Q)) w))
 (h:L=.go g1 w1 me) (p:(iX d).drawn<=S.bound):iY C S ρ b0 base w' g1 w1 d:=by
 have b:=e.roundOf;cases h0:fr.roundOf with
 |none=>
  cases a:aY.roundOf with
  |some l=>rw[h0,a]at b;cases b
  |none=>
   rw[k h0]at h;rw[n a];split at h
   ·rename_i f;rw[if_pos f];cases h;exact uG (fr:=fr) i j g rfl rfl (e.wX .returning)
   grind
 |some l=>cases a:aY.roundOf with|none=>rw[h0,a]at b;cases b|some q=>grind[AG,ahk]
theorem ahm(j:C.Good){main':Bool}{base:List Frame}
 (u:en C ρ fr aY) (M:jg C ρ cs bf) (F:jh fr cs) (E:eN C S ρ w w')
 (h:stepG.exec C.P true true fr (cs++b0) none w=.go g1 w1 me) (hrun:g1.status=.running) (W:g1.dying=none) (g:(iX (stepG.exec C.Q main' true aY (bf++base) none w')).drawn<=S.bound):
 iY C S ρ b0 base w' g1 w1 (stepG.exec C.Q main' true aY (bf++base) none w'):=by
 have ht:=u.todo;have mf:=u.eval E.nV;have aL:∀{t cM:List Item},nr C ρ t cM->iY C S ρ b0 base w' (bb {fr with todo:=t} (cs++b0)) w (.go (bb {aY with todo:=cM} (bf++base)) w'):=fun q=>uG (fr:=fr) M F E rfl rfl (u.zp q);cases m:fr.todo with
 |nil=>
  cases p:aY.todo with
  |cons a l=>rw[m,p]at ht;cases ht
  |nil=>
   refine Lp (main:=true) (main':=main') none (fun c e=>GR) u M F E (stepG.exec C.P true true fr (cs++b0) none w) _ ?_ ?_ ?_ ?_ h g
   ·grind[stepG.exec,uH]
   ·grind[stepG.exec,Sem.runT_eq]
   ·grind[stepG.exec,uH]
   grind[stepG.exec,Sem.runT_eq]
 |cons i k=>
  cases p:aY.todo with
  |nil=>rw[m,p]at ht;cases ht
  |cons ix k'=>
   rw[m,p]at ht;cases ht with
   |cons hi A=>
    cases hi with
    |@code c hO=>
     have z:=(j.qg c).1 hO;cases c with
     |skip=>unfold stepG.exec at h⊢;simp only[m]at h;simp only[p];cases h;exact aL A
     |label l=>unfold stepG.exec at h⊢;simp only[m]at h;simp only[p];cases h;exact aL A
     |seq a b=>simp only[j3,Bool.and_eq_true]at z;unfold stepG.exec at h⊢;simp only[m]at h;simp only[p];cases h;exact aL (.cons (.code ((j.qg _).2 z.1)) (.cons (.code ((j.qg _).2 z.2)) A))
     |cond c a b=>
      simp only[j3,Bool.and_eq_true]at z;unfold stepG.exec at h⊢;simp only[m]at h;simp only[p];have U:=mf c z.1.1;generalize fr.eval c=v at h U;generalize aY.eval c=v' at U;cases U with
      |bool b=>
       cases h;refine aL (.cons (.code ?_) A);cases b
       ·exact(j.qg _).2 z.2
       ·exact(j.qg _).2 z.1.2
      | _=>cases h
     |block id b=>unfold stepG.exec at h⊢;simp only[m]at h;simp only[p];cases h;exact aL (.cons (.code ((j.qg _).2 z)) (.cons (.inBlock id) A))
     |loop b=>unfold stepG.exec at h⊢;simp only[m]at h;simp only[p];cases h;exact aL (.cons (.code ((j.qg _).2 z)) (.cons (.inLoop ((j.qg _).2 z)) A))
     |scope b=>unfold stepG.exec at h⊢;simp only[m]at h;simp only[p];cases h;exact aL (.cons (.code ((j.qg _).2 z)) (.cons (.inScope ((j.qg _).2 z)) A))
     |refuse s=>grind[stepG.exec]
     |ret=>
      refine Lp (main:=true) (main':=main') (some .ret) (fun c e=>AU) u M F E (stepG.exec C.P true true fr (cs++b0) none w) _ ?_ ?_ ?_ ?_ h g
      ·grind[stepG.exec,uH]
      ·grind[stepG.exec,Sem.runT_eq]
      ·grind[stepG.exec,uH]
      grind[stepG.exec,Sem.runT_eq]
     |exit id=>
      have q:=ahd id A;cases O:exitTo id k with
      |some t=>cases L:exitTo id k' with|none=>rw[O,L]at q;cases q|some cM=>rw[O,L]at q;cases q with|some q=>unfold stepG.exec at h⊢;simp only[m,O,Option.elim_some]at h;simp only[p,L,Option.elim_some];cases h;exact aL q
      |none=>
       cases L:exitTo id k' with
       |some t=>rw[O,L]at q;cases q
       |none=>
        refine Lp (main:=true) (main':=main') (some (.exit id)) (fun c e=>AU) u M F E (stepG.exec C.P true true fr (cs++b0) none w) _ ?_ ?_ ?_ ?_ h g
        ·grind[stepG.exec]
        ·grind[stepG.exec,Sem.runT_eq]
        ·grind[stepG.exec,uH]
        grind[stepG.exec,Sem.runT_eq]
     |goto id=>
      have q:=ahg j.qg id A;cases O:gotoIn id k with
      |some t=>cases L:gotoIn id k' with|none=>rw[O,L]at q;cases q|some cM=>rw[O,L]at q;cases q with|some q=>unfold stepG.exec at h⊢;simp only[m,O,Option.elim_some]at h;simp only[p,L,Option.elim_some];cases h;exact aL q
      |none=>
       cases L:gotoIn id k' with
       |some t=>rw[O,L]at q;cases q
       |none=>
        refine Lp (main:=true) (main':=main') (some (.goto id)) (fun c e=>AU) u M F E (stepG.exec C.P true true fr (cs++b0) none w) _ ?_ ?_ ?_ ?_ h g
        ·grind[stepG.exec]
        ·grind[stepG.exec,Sem.runT_eq]
        ·grind[stepG.exec,uH]
        grind[stepG.exec,Sem.runT_eq]
     |region id ops draw=>
      simp only[j3,Array.all_eq_true_iff_forall_mem]at z;unfold stepG.exec at h g⊢;simp only[m]at h;simp only[p]at g⊢;cases draw with
      |false=>simp only[Bool.not_false,if_true]at h⊢;cases h;exact aL (.cons (.inRegion z _) A)
      |true=>
       simp only[Bool.not_true,Bool.false_eq_true,if_false]at h g⊢;have eq:(Question.order aY.fn id)=.order fr.fn id:=by rw[u.fn]
       rw[eq]at g⊢;rw[j.follows];have V:(lr ((Go.choose (.order fr.fn id)).run C.Q w')).drawn<=S.bound:=by cases J:(Go.choose (.order fr.fn id)).run C.Q w' with|ok v H=>rw[J]at g;exact g|halt x H=>rw[J]at g;exact g
       have hch:=au.choose (C:=C) (ρ:=ρ) (.order fr.fn id) S w w' E (by unfold Go.choose;simp only[Sem.run,Question.forced];trivial) V;obtain⟨σ,vN,D,B,_⟩:=hch;generalize(Go.choose (.order fr.fn id)).run C.P w=r at D h;generalize(Go.choose (.order fr.fn id)).run C.Q w'=c5 at D;cases D with|ok ht Q=>subst ht;cases h;refine⟨σ,_,cs,_,bf,_,_,rfl,rfl,?_,jg.mono B.le M,F.same rfl rfl,Q,B,Aa⟩;exact(u.mono B.le).zp (.cons (.inRegion z _) (nr.mono B.le A))|panic=>cases h|goexit=>cases h
     |rangeFunc f params assign body=>
      simp only[j3,Bool.and_eq_true]at z;unfold stepG.exec at h g⊢;simp only[m,Sem.runT_eq]at h;simp only[p,Sem.runT_eq]at g⊢;obtain⟨vM,K⟩:=AI h;rw[AG]at g;have P1:=WE (C:=C) (ρ:=ρ) fr.fn u.known u.tmps params ((j.qg _).2 z.1.2) ((j.qg _).2 z.2) u.roundOf;have P2:Instr.enterLoop aY.fn aY.tmps params assign body aY.roundOf=Instr.enterLoop fr.fn aY.tmps params assign body aY.roundOf:=by rw[u.fn]
      rw[P2]at g⊢;have V:(lr ((Instr.enterLoop fr.fn aY.tmps params assign body aY.roundOf).run C.Q w')).drawn<=S.bound:=by cases J:(Instr.enterLoop fr.fn aY.tmps params assign body aY.roundOf).run C.Q w' with|ok v H=>rw[J]at g;exact Nat.le_trans (Nat.le_trans (Cq C.Q _ H).1 (Fl C.Q _ _ none _ H)) g|halt x H=>rw[J]at g;exact g
      have lS:Good ((Instr.enterLoop fr.fn fr.tmps params assign body fr.roundOf).run C.P w):=by cases J:(Instr.enterLoop fr.fn fr.tmps params assign body fr.roundOf).run C.P w with|ok v H=>trivial|halt x H=>grind
      obtain⟨σ,vN,D,B,c0⟩:=P1 S w w' E lS V;obtain⟨d,hd,X⟩:=c0 #[];rw[Array.empty_append]at hd;rw[hd];refine iY.after B (fun e m=>X e (zo m)) ?_;generalize(Instr.enterLoop fr.fn fr.tmps params assign body fr.roundOf).run C.P w=r at D K;generalize(Instr.enterLoop fr.fn aY.tmps params assign body aY.roundOf).run C.Q w'=c5 at D g;cases D with
      |@ok a b qc _ fg Q=>
       obtain⟨l,mark⟩:=a;obtain⟨P,HQ⟩:=b;obtain⟨hl,uI⟩:=fg;have I:=u.mono B.le;have nZ:en C σ {fr with todo:=.inRangeFunc l::k,defers:=mark++fr.defers} {aY with todo:=.inRangeFunc P::k',defers:=HQ++aY.defers}:=
        ⟨I.fn,I.known,I.tmps,.cons (.inRangeFunc hl) (nr.mono B.le A),dJ.append uI I.defers,I.mode,I.kind,I.plain,I.roundOf⟩
       have P3:=nZ.eval Q.nV;refine PY j.funcs nZ (jg.mono B.le M) (F.same rfl rfl) Q ?_ (.inl j.PZ) (j.follows _) K hrun W g;refine .bind (R:=AB) ?_ fun cT x y _ hd=>HM j.same j.Fp j.funcs hd.target hd.args;have Z:=P3 f z.1.1;simp only[resolve];revert Z;generalize Frame.eval _ f=v;generalize Frame.eval _ f=v';intro Z;unfold Deferred.ofValue;have hy:a3 σ #[Value.func (.yield l) #[] #[]] #[Value.func (.yield P) #[] #[]]:=.one (.Hr (.yield hl) (.nil σ) (.nil σ));have mM:a3 σ ((#[Operand.const (.func (.yield l) #[] #[])]:Array Operand).map (Frame.eval {fr with todo:=.inRangeFunc l::k,defers:=mark++fr.defers})) ((#[Operand.const (.func (.yield P) #[] #[])]:Array Operand).map (Frame.eval {aY with todo:=.inRangeFunc P::k',defers:=HQ++aY.defers})):=by grind[Frame.eval]
       cases Z with|func jM h1 h3 h4 bn=>exact .pure ⟨.fn jM ⟨h3,bn⟩,a3.append ⟨h1,h4⟩ mM⟩|nilFunc=>exact .pure ⟨.nil,mM⟩| _=>exact .stuck
      |panic=>cases K
      |goexit=>cases K
    |inBlock id=>unfold stepG.exec at h⊢;simp only[m]at h;simp only[p];cases h;exact aL A
    |inScope g=>unfold stepG.exec at h⊢;simp only[m]at h;simp only[p];cases h;exact aL A
    |inLoop g=>unfold stepG.exec at h⊢;simp only[m]at h;simp only[p];cases h;exact aL (.cons (.code g) (.cons (.inLoop g) A))
    |@inRegion ops qh todo=>
     cases todo with
     |nil=>unfold stepG.exec at h⊢;simp only[m]at h;simp only[p];cases h;exact aL A
     |cons n rest=>
      unfold stepG.exec at h g⊢;simp only[m]at h;simp only[p]at g⊢;rw[<-WR u.tmps ops]at g⊢;split at h
      ·rename_i HR;rw[if_pos HR]at g⊢;have Y:∃o,ops[n]?=some o:=by grind
       obtain⟨o,D⟩:=Y;have CD:=qh o (Array.mem_of_getElem? D);have h1:fr.oper?=some o:=Gx;have j4:aY.oper?=some o:=Gx;have N:=u.roundOf;unfold stepG.oper at h g⊢;simp only[h1]at h;simp only[j4]at g⊢;have plain:stepG.apply C.P true fr (cs++b0) none (execOp fr.eval o) w=.go g1 w1 me->(iX (stepG.apply C.Q true aY (bf++base) none (execOp aY.eval o) w')).drawn<=S.bound->iY C S ρ b0 base w' g1 w1 (stepG.apply C.Q true aY (bf++base) none (execOp aY.eval o) w'):=fun q hy=>
        PY j.funcs u M F E (WL j.same j.Fp j.funcs mf CD) (.inl j.PZ) (j.follows _) q hrun W hy
       cases h0:fr.roundOf with
       |none=>cases T:aY.roundOf with|some l=>rw[h0,T]at N;cases N|none=>grind
       |some l=>cases T:aY.roundOf with|none=>rw[h0,T]at N;cases N|some P=>rw[h0,T]at N;cases N with|some hl=>cases hc:o.op with|defer c=>rw[hc]at CD;cases CD| _=>simp only[h0,hc]at h;simp only[T,hc]at g;exact plain h g
      ·rename_i HR;rw[if_neg HR];cases h;exact uG (fr:=fr) M F E (AH _ _).1 (AH _ _).2 (u.finish (.undef ρ))
    |inRangeFunc hl=>grind[stepG.exec]
    |@endRangeFunc l P hl=>
     unfold stepG.exec at h g⊢;simp only[m,Sem.runT_eq]at h;simp only[p,Sem.runT_eq]at g⊢;obtain⟨vM,K⟩:=AI h;rw[AG]at g;have V:(lr ((Instr.endLoop P).run C.Q w')).drawn<=S.bound:=by cases J:(Instr.endLoop P).run C.Q w' with|ok v H=>rw[J]at g;exact g|halt x H=>rw[J]at g;cases x<;>exact g
     have lS:Good ((Instr.endLoop l).run C.P w):=by cases J:(Instr.endLoop l).run C.P w with|ok v H=>trivial|halt x H=>rw[J]at K;cases x with|panic v=>trivial| _=>cases K
     obtain⟨σ,vN,D,B,c0⟩:=agP hl j.same S w w' E lS V;obtain⟨d,hd,X⟩:=c0 #[];rw[Array.empty_append]at hd;rw[hd];refine iY.after B (fun e m=>X e (zo m)) ?_;generalize(Instr.endLoop l).run C.P w=r at D K;generalize(Instr.endLoop P).run C.Q w'=c5 at D;have I:=u.mono B.le;have sZ:=jg.mono B.le M;cases D with
     |@ok a b qc _ fg Q=>obtain⟨e,hj⟩:=fg;subst e;cases K;refine uG (fr:=fr) sZ F Q rfl rfl (I.zp (dJ.append ?_ (nr.mono B.le A)));cases a with|none=>exact .nil|some c=>exact .cons (.code (hj c rfl)) .nil
     |panic U Q=>cases K;exact uG (fr:=fr) sZ F Q (vL _ _).1 (vL _ _).2 (I.raise (.cons ⟨U,rfl,rfl⟩ .nil))
     |goexit=>cases K
    |beginRound=>unfold stepG.exec at h g⊢;simp only[m]at h;simp only[p]at g⊢;refine PY j.funcs u M F E (.bind (R:=fun _(_ _:Unit)=>True) ?_ fun _ _ _ _ _=>.pure .skip) (.inl j.PZ) (j.follows _) h hrun W g;have N:=u.roundOf;generalize fr.roundOf=a at N;generalize aY.roundOf=b at N;cases N with|none=>exact .stuck|some hl=>exact WF hl j.same
end
variable {g:Goroutine}{es:Array Event}{cM t:Array Value}{a b:GStep}
section
section
variable {C:cU} {S:Sync} {ρ:ay}
theorem ahn(c:C.cz):∀(l:List ResultVar)(ρ:ay),a3 ρ t cM->au C ρ (fun σ a b=>dJ (aA σ) a b)
 (l.mapM fun| .tmp x=>pure (t.getD x undef)| .cell a ty=>do Go.loadVar ty (<-Go.asAddr (t.getD a undef))) (l.mapM fun| .tmp x=>pure (cM.getD x undef)| .cell a ty=>do Go.loadVar ty (<-Go.asAddr (cM.getD a undef))):=by
 intro l;induction l with|nil=>intro ρ _;simp only[List.mapM_nil];exact .pure .nil|cons r l d=>intro ρ h;simp only[List.mapM_cons];refine .bind (R:=aA) ?_ fun σ v j l1 e=>.bind (d σ (h.mono l1)) fun k a b g f=>.pure (.cons (e.mono g) f);cases r with|tmp x=>exact .pure (h.getD (.undef ρ) x)|cell a ty=>exact .bind (au.asAddr c (h.getD (.undef ρ) a)) fun σ p m _ i=>au.loadVar c ty i
theorem aho(g:C.cz)(fn:Func)(h:a3 ρ t cM):au C ρ aA (results fn t) (results fn cM):=by
 unfold results;refine .bind (R:=a3) ?_ fun σ a b _ c=>.pure ?_
 ·rw[Array.mapM_eq_mapM_toList,Array.mapM_eq_mapM_toList];exact .bind (f:=fun l=>Pure.pure l.toArray) (f':=fun l=>Pure.pure l.toArray) (ahn g fn.results.toList ρ h) fun σ a b _ c=>.pure (a3.La c)
 ·by_cases d:a.size=1
  ·have e:b.size=1:=c.size▸d;rw[dif_pos d,dif_pos e];exact c.get 0 _ _ AU AU
  ·have e:¬b.size=1:=c.size▸d;rw[dif_neg d,dif_neg e];exact .E8 c
theorem ahp{c:Prop}[Decidable c](h:(if c then a else b)=.go g w es)(d:∀g w es,a≠ .go g w es):¬c/\b=.go g w es:=by grind
theorem iY.ite{c:Prop}[Decidable c]{base:List Frame}(d:¬c)(h:iY C S ρ b0 base w' g1 w1 b):iY C S ρ b0 base w' g1 w1 (if c then a else b):=by grind
theorem ahq(p:C.Good){base:List Frame}{d i:Deferred}
 (D:en C ρ fr aY) (Q:jg C ρ cs bf) (o:jh fr cs) (L:eN C S ρ w w') (hd:AB ρ d i)
 (h:callDeferred C.P fr (cs++b0) none d w=.go g1 w1 me) (hrun:g1.status=.running) (F:g1.dying=none) (n:(iX (callDeferred C.Q aY (bf++base) none i w')).drawn<=S.bound):iY C S ρ b0 base w' g1 w1 (callDeferred C.Q aY (bf++base) none i w'):=by
 have V:∀{t cM:Target}{m z:FrameMode},wT ρ t cM->wW ρ m z->((t matches .nil)&&(m matches .panicking _))=((cM matches .nil)&&(z matches .panicking _)):=fun ht N=>by cases ht<;>cases N<;>rfl
 have E:=V hd.target D.mode;have y:=WO C.Q aY (bf++base) none i w';unfold callDeferred at h⊢;simp only[Sem.runT_eq]at h⊢;obtain⟨B,h⟩:=ahp h (fun _ _ _=>Aa);refine iY.ite (fun b=>B (Eq.trans E b)) ?_;have y:=Nat.le_trans (y.resolve_left fun b=>B (Eq.trans E b)) n;obtain⟨Y,a⟩:=AI h;clear h;have lS:Good ((invoke d.target d.args).run C.P w):=by cases M:(invoke d.target d.args).run C.P w with|ok X H=>trivial|halt x H=>rw[M]at a;cases x with|panic v=>trivial|goexit=>trivial|blocked=>grind|waiting=>grind|unsupported u=>cases a|exit c=>cases a|fatal m=>grind[WP]|throw m=>exact absurd F (PX a)|stuck m=>cases a
 obtain⟨σ,I,q,f,R⟩:=HM p.same p.Fp p.funcs hd.target hd.args S w w' L lS y;obtain⟨dd,l,J⟩:=R #[];rw[Array.empty_append]at l;rw[l];have k:=D.mono f.le;have j:=jg.mono f.le Q;generalize(invoke d.target d.args).run C.P w=r at q a;generalize(invoke i.target i.args).run C.Q w'=Z at q;have evs:∀e∈seen C.Q aY.fn dd,yb σ e:=fun e P=>J e (zo P);cases q with
 |@ok _ _ K _ U g=>have keep:iY C S ρ b0 base w' (bb fr (cs++b0)) K (GStep.after (seen C.Q aY.fn dd) (.go (bb aY (bf++base)) I)):=iY.after f evs (uG j o g rfl rfl k);cases U with|value A=>cases a;exact keep|skip=>cases a;exact keep|enter s T n=>cases a;refine iY.after f evs ?_;exact⟨σ,_,fr::cs,_,aY::bf,_,_,rfl,rfl,.enter p.funcs s T n K0,.cons k j,o.push,g,.refl _ _,Aa⟩|round O W ht s n=>cases a;refine iY.after f evs ?_;exact⟨σ,_,fr::cs,_,aY::bf,_,_,rfl,rfl,.round O W ht s n K0,.cons k j,o.push,g,.refl _ _,Aa⟩
 |panic A g=>cases a;exact iY.after f evs (uG (fr:=fr) j o g (vL _ _).1 (vL _ _).2 (k.raise (.cons ⟨A,rfl,rfl⟩ .nil)))
 |goexit g=>cases a;exact iY.after f evs (uG (fr:=fr) j o g (vL _ _).1 (vL _ _).2 (k.raise (.cons ⟨.undef σ,rfl,rfl⟩ .nil)))
def Fr(fr:Frame)(cs:List Frame):Prop:=cs=[]/\fr.defers=[]/\(fr.mode=.returning\/∃l,fr.mode=.panicking l)
theorem WV(J:C.Good){main':Bool}{base:List Frame}
 (k:en C ρ fr aY) (M:jg C ρ cs bf) (D:jh fr cs) (B:eN C S ρ w w') (ahr:fr.mode≠ .run) (Z:¬Fr fr cs)
 (h:unwind C.P true fr (cs++b0) none w=.go g1 w1 me) (hrun:g1.status=.running) (U:g1.dying=none) (b:(iX (unwind C.Q main' aY (bf++base) none w')).drawn<=S.bound):iY C S ρ b0 base w' g1 w1 (unwind C.Q main' aY (bf++base) none w'):=by
 have n:=k.defers;cases hd:fr.defers with
 |cons d ds=>
  cases A:aY.defers with
  |nil=>rw[hd,A]at n;cases n
  |cons L X=>
   rw[hd,A]at n;cases n with
   |cons p z=>
    have plain:(∀r,d.target≠ .collected r)->iY C S ρ b0 base w' g1 w1 (unwind C.Q main' aY (bf++base) none w'):=by
     intro aj;have AK:∀r,L.target≠ .collected r:=by intro r e;have:=p.target;rw[e]at this;generalize s:d.target=q at this;cases this;grind
     have e1:unwind C.P true fr (cs++b0) none w=callDeferred C.P {fr with defers:=ds} (cs++b0) none d w:=by unfold unwind;grind
     have e2:unwind C.Q main' aY (bf++base) none w'=callDeferred C.Q {aY with defers:=X} (bf++base) none L w':=by unfold unwind;grind
     rw[e1]at h;rw[e2]at b⊢;exact ahq J (k.CC z) M (D.same rfl rfl) B p h hrun U b
    obtain⟨t,a⟩:=d;obtain⟨cM,a'⟩:=L;cases t with
    |collected r=>
     have P:=p.target;cases P with
     |collected O=>
      rename_i T;unfold unwind at h b⊢;simp only[hd,Sem.runT_eq]at h;simp only[A,Sem.runT_eq]at b⊢;obtain⟨W,j⟩:=AI h;rw[AG]at b;have I:(lr ((Instr.takeDeferred T).run C.Q w')).drawn<=S.bound:=by cases s:(Instr.takeDeferred T).run C.Q w' with|ok v m=>rw[s]at b;exact b|halt x m=>rw[s]at b;exact b
      have lS:Good ((Instr.takeDeferred r).run C.P w):=by cases s:(Instr.takeDeferred r).run C.P w with|ok v m=>trivial|halt x m=>grind
      obtain⟨σ,V,u,i,N⟩:=agQ O S w w' B lS I;obtain⟨dd,g,E⟩:=N #[];rw[Array.empty_append]at g;rw[g];refine iY.after i (fun e H=>E e (zo H)) ?_;generalize(Instr.takeDeferred r).run C.P w=q at u j;generalize(Instr.takeDeferred _).run C.Q w'=q' at u;cases u with|ok F K=>cases j;exact uG (fr:=fr) (jg.mono i.le M) D K rfl rfl ((k.mono i.le).CC (dJ.append F (tK.mono i.le z)))|panic=>cases j|goexit=>cases j
    | _=>grind
 |nil=>
  have A:aY.defers=[]:=by rw[hd]at n;generalize aY.defers=q at n;cases n;rfl
  have f:=k.mode;obtain⟨fn,c,Q,CE⟩:=k.known;obtain⟨s,_,_⟩:=J.funcs.body _ _ _ Q CE;rw[k.fn]at s;cases M with
  |nil=>exfalso;apply Z;refine⟨rfl,hd,?_⟩;cases y:fr.mode with|run=>grind|returning=>grind|panicking l=>grind
  |@cons cu Lr cs bf R z=>
   unfold unwind at h b⊢;simp only[hd]at h;simp only[A]at b⊢;cases y:fr.mode with
   |run=>grind
   |returning=>
    rw[y]at f;cases o:aY.mode with
    |run=>rw[o]at f;cases f
    |panicking l=>rw[o]at f;cases f
    |returning=>
     simp only[y,Q,Sem.runT_eq]at h;simp only[o,s,Sem.runT_eq]at b⊢;obtain⟨W,j⟩:=AI h;rw[AG]at b;have I:(lr ((results fn aY.tmps).run C.Q w')).drawn<=S.bound:=by cases p:(results fn aY.tmps).run C.Q w' with|ok v m=>rw[p]at b;simp only[WM]at b;exact b|halt x m=>rw[p]at b;cases x<;>exact b
     have lS:Good ((results fn fr.tmps).run C.P w):=by cases p:(results fn fr.tmps).run C.P w with|ok v m=>trivial|halt x m=>grind
     obtain⟨σ,V,u,i,N⟩:=aho J.same fn k.tmps S w w' B lS I;obtain⟨dd,g,E⟩:=N #[];rw[Array.empty_append]at g;rw[g];refine iY.after i (fun e H=>E e (zo H)) ?_;generalize(results fn fr.tmps).run C.P w=q at u j;generalize(results fn aY.tmps).run C.Q w'=q' at u;cases u with|ok F K=>exact WS (k.mono i.le) (R.mono i.le) (jg.mono i.le z) D.PW K F j|panic=>cases j|goexit=>cases j
   |panicking l=>
    rw[y]at f;cases o:aY.mode with
    |run=>rw[o]at f;cases f
    |returning=>rw[o]at f;cases f
    |panicking aW=>
     rw[o]at f;cases f with
     |panicking hl=>
      have Y:fr.catches C.P=false:=AU;have bE:aY.catches C.Q=false:=by grind[Frame.catches]
      simp only[y,Y]at h;simp only[bE];cases h;exact uG (fr:=cu) z D.PW B (vL _ _).1 (vL _ _).2 (R.raise hl)
theorem ahu(j:C.Good){main':Bool}{base:List Frame}
 (d:en C ρ fr aY) (k:jg C ρ cs bf) (m:jh fr cs) (g:eN C S ρ w w') (f:¬Fr fr cs)
 (h:stepG C.P true (bb fr (cs++b0)) w=.go g1 w1 me) (hrun:g1.status=.running) (e:g1.dying=none) (i:(iX (stepG C.Q main' (bb aY (bf++base)) w')).drawn<=S.bound):iY C S ρ b0 base w' g1 w1 (stepG C.Q main' (bb aY (bf++base)) w'):=by
 have a:=d.mode;cases c:fr.mode with
 |run=>rw[c]at a;cases b:aY.mode with|run=>grind[stepG,bb,ahm]| _=>rw[b]at a;cases a
 |returning=>rw[c]at a;cases b:aY.mode with|returning=>grind[stepG,bb,WV]| _=>rw[b]at a;cases a
 |panicking l=>rw[c]at a;cases b:aY.mode with|panicking n=>grind[stepG,bb,WV]| _=>rw[b]at a;cases a
end
end
def HS(g:Goroutine):Prop:=(g.dying=none/\(g.status=.blocked\/g.status=.waiting))\/∃d f,g.dying=some d/\d.fatal=some f/\d.calling=false/\(g.status=.running\/g.status=.blocked)
def Kind:GStep->Prop
 | .go g _ _=>(g.status=.running/\g.dying=none)\/HS g
 | .ended .. =>True
 | _=>False
variable {s:GStep}
theorem Kind.after(h:Kind s):Kind (GStep.after es s):=by cases s<;>exact h
theorem Kind.ite{c:Prop}[Decidable c](e:Kind a)(d:Kind b):Kind (if c then a else b):=by grind
theorem Kind.pos{c:Prop}[Decidable c](h:c)(d:Kind a):Kind (if c then a else b):=by grind
theorem P4{a8:List ByteArray}{m:String}{b:Bool}:Kind (dieOf fr a8 m b w):=.inr (.inr ⟨_,_,rfl,rfl,rfl,.inl rfl⟩)
theorem WW{P:Program}{d:Option Dying}{m:String}:Kind (endFatal P fr cs d m w):=by
 unfold endFatal;simp only[];split
 ·exact P4
 ·trivial
 ·trivial
def P5:Result Next->Prop
 | .ok (.value _) _ | .ok .skip _ | .ok (.enter ..) _ | .ok (.round ..) _=>True
 | .ok _ _=>False
 | .halt (.unsupported (.initOrder _)) _=>False
 | .halt _ _=>True
section
variable {C:cU} {S:Sync} {ρ:ay}
theorem Ls{s b:Sem Next}(f:au C ρ (r_ C) s b)(e:eN C S ρ w w')(g:(lr (b.run C.Q w')).drawn<=S.bound):P5 (s.run C.P w):=by
 by_cases a:Good (s.run C.P w)
 ·obtain⟨σ,w1,c,_,_⟩:=f S w w' e a g;generalize s.run C.P w=r at c;generalize b.run C.Q w'=i at c;cases c with|ok h _=>cases h<;>trivial|panic=>trivial|goexit=>trivial
 ·cases d:s.run C.P w with
  |ok v w1=>rw[d]at a;exact absurd trivial a
  |halt x w1=>
   rw[d]at a;cases x with
   |unsupported u=>cases u<;>first|trivial|exact absurd trivial a
   | _=>trivial
theorem P6{P:Program}{s:Sem Next}(h:P5 (s.run P w)):Kind (stepG.apply P true fr cs none s w):=by
 unfold stepG.apply;simp only[Sem.runT_eq,if_true];refine Kind.after ?_;cases d:s.run P w with
 |ok e w1=>rw[d]at h;cases e with|value v=>exact .inl ⟨rfl,rfl⟩|skip=>exact .inl ⟨rfl,rfl⟩|enter f a=>exact .inl ⟨rfl,rfl⟩|round l f t a b=>exact .inl ⟨rfl,rfl⟩| _=>exact absurd h id
 |halt x w1=>
  rw[d]at h;cases x with
  |panic v=>exact .inl ⟨rfl,rfl⟩
  |goexit=>exact .inl ⟨rfl,rfl⟩
  |blocked=>exact .inr (.inl ⟨rfl,.inl rfl⟩)
  |waiting=>exact .inr (.inl ⟨rfl,.inr rfl⟩)
  |unsupported u=>cases u<;>first|trivial|exact absurd h id
  |exit c=>trivial
  |fatal m=>exact WW
  |throw m=>exact P4
  |stuck m=>trivial
theorem ahv{P:Program}{d:Deferred}(h:P5 ((invoke d.target d.args).run P w)):Kind (callDeferred P fr cs none d w):=by
 unfold callDeferred;refine Kind.ite trivial ?_;simp only[Sem.runT_eq];refine Kind.after ?_;cases e:(invoke d.target d.args).run P w with
 |ok g w1=>rw[e]at h;cases g with|value v=>exact .inl ⟨rfl,rfl⟩|skip=>exact .inl ⟨rfl,rfl⟩|enter f a=>exact .inl ⟨rfl,rfl⟩|round l f t a b=>exact .inl ⟨rfl,rfl⟩| _=>exact absurd h id
 |halt x w1=>rw[e]at h;cases x with|panic v=>exact .inl ⟨rfl,rfl⟩|goexit=>exact .inl ⟨rfl,rfl⟩|blocked=>exact .inr (.inl ⟨rfl,.inl rfl⟩)|waiting=>exact .inr (.inl ⟨rfl,.inr rfl⟩)|unsupported u=>trivial|exit c=>trivial|fatal m=>exact WW|throw m=>exact P4|stuck m=>trivial
theorem WX{P:Program}{main:Bool}{c:Frame}{v:Value}:Kind (doReturn P main fr (c::cs) none v w):=by unfold doReturn;simp only[];split<;>exact .inl ⟨rfl,rfl⟩
theorem ahw{P:Program}{main:Bool}{r:Result Value}(a:jh fr cs){l:Nat}(b:fr.roundOf=some l):
 Kind (GStep.after es (match r with| .ok v w=>doReturn P main fr (cs++b0) none v w| .halt _ w=>.ended (.stuck "range over a function: no such loop" (fr.pos P)) w)):=by
 refine Kind.after ?_;cases r with|halt x w=>trivial|ok v w=>cases cs with|nil=>have:=a.2;grind|cons c cs=>exact WX
theorem Lt{P:Program}{main:Bool}(jump:Option Code)(b:jh fr cs)(L:GStep)
 (a:fr.roundOf=none->L=(if uH jump=true then .go {frame:={fr with mode:=.returning},callers:=cs++b0,status:=.running,dying:=none} w else .ended (.stuck "exit, goto: no such block or label" (fr.pos P)) w))
 (c:∀l,fr.roundOf=some l->L=GStep.after (seen P fr.fn ((Instr.endRound l jump).events P w #[])) (match(Instr.endRound l jump).run P w with
  | .ok v w=>doReturn P main fr (cs++b0) none v w
  | .halt _ w=>.ended (.stuck "range over a function: no such loop" (fr.pos P)) w)):Kind L:=by
 cases h0:fr.roundOf with
 |none=>
  rw[a h0];split
  ·exact .inl ⟨rfl,rfl⟩
  ·trivial
 |some l=>grind[ahw]
theorem WY(h:C.Good){main':Bool}{base:List Frame}
 (i:en C ρ fr aY) (I:jg C ρ cs bf) (A:eN C S ρ w w') (J:fr.mode≠ .run) (y:¬Fr fr cs)
 (o:(iX (unwind C.Q main' aY (bf++base) none w')).drawn<=S.bound):Kind (unwind C.P true fr (cs++b0) none w):=by
 have b:=i.defers;cases hd:fr.defers with
 |cons d ds=>
  cases p:aY.defers with
  |nil=>rw[hd,p]at b;cases b
  |cons g k=>
   rw[hd,p]at b;cases b with
   |cons f B=>
    have plain:(∀r,d.target≠ .collected r)->Kind (unwind C.P true fr (cs++b0) none w):=by
     intro M;have P:∀r,g.target≠ .collected r:=by intro r e;have:=f.target;rw[e]at this;generalize L:d.target=q at this;cases this;grind
     have H:unwind C.P true fr (cs++b0) none w=callDeferred C.P {fr with defers:=ds} (cs++b0) none d w:=by unfold unwind;grind
     have F:unwind C.Q main' aY (bf++base) none w'=callDeferred C.Q {aY with defers:=k} (bf++base) none g w':=by unfold unwind;grind
     rw[H];rw[F]at o;rcases WO C.Q {aY with defers:=k} (bf++base) none g w' with n|E
     ·have K:∀{t cM:Target}{m j:FrameMode},wT ρ t cM->wW ρ m j->((t matches .nil)&&(m matches .panicking _))=((cM matches .nil)&&(j matches .panicking _)):=fun ht D=>by cases ht<;>cases D<;>rfl
      have s:=Eq.trans (K f.target i.mode) n;unfold callDeferred;exact Kind.pos s trivial
     ·exact ahv (Ls (HM h.same h.Fp h.funcs f.target f.args) A (Nat.le_trans E o))
    obtain⟨t,a⟩:=d;obtain⟨cM,a'⟩:=g;cases t with
    |collected r=>unfold unwind;simp only[hd,Sem.runT_eq];refine Kind.after ?_;cases(Instr.takeDeferred r).run C.P w with|ok v w1=>exact .inl ⟨rfl,rfl⟩|halt x w1=>trivial
    | _=>grind
 |nil=>
  obtain⟨fn,c,z,O⟩:=i.known;cases I with
  |nil=>exfalso;apply y;refine⟨rfl,hd,?_⟩;cases u:fr.mode with|run=>grind|returning=>grind|panicking l=>grind
  |@cons cu N cs bf n B=>
   unfold unwind;simp only[hd];cases u:fr.mode with
   |run=>grind
   |returning=>simp only[z,Sem.runT_eq];refine Kind.after ?_;cases(results fn fr.tmps).run C.P w with|ok v w1=>exact WX|halt x w1=>cases x<;>trivial
   |panicking l=>
    simp only[];split
    ·trivial
    ·exact .inl ⟨rfl,rfl⟩
theorem ahx(h:C.Good){main':Bool}{base:List Frame}
 (j:en C ρ fr aY) (F:jh fr cs) (D:eN C S ρ w w')
 (d:(iX (stepG.exec C.Q main' true aY (bf++base) none w')).drawn<=S.bound):Kind (stepG.exec C.P true true fr (cs++b0) none w):=by
 have ht:=j.todo;have Y:=j.eval D.nV;cases e:fr.todo with
 |nil=>
  refine Lt (main:=true) (P:=C.P) (w:=w) (b0:=b0) none F (stepG.exec C.P true true fr (cs++b0) none w) ?_ ?_
  ·grind[stepG.exec,uH]
  grind[stepG.exec,Sem.runT_eq]
 |cons i k=>
  cases A:aY.todo with
  |nil=>rw[e,A]at ht;cases ht
  |cons ix k'=>
   rw[e,A]at ht;cases ht with
   |cons hi hk=>
    cases hi with
    |@code c hO=>
     have B:=(h.qg c).1 hO;cases c with
     |skip=>unfold stepG.exec;simp only[e];exact .inl ⟨rfl,rfl⟩
     |label l=>unfold stepG.exec;simp only[e];exact .inl ⟨rfl,rfl⟩
     |seq a b=>unfold stepG.exec;simp only[e];exact .inl ⟨rfl,rfl⟩
     |cond c a b=>unfold stepG.exec;simp only[e];cases fr.eval c with|bool b=>exact .inl ⟨rfl,rfl⟩| _=>trivial
     |block id b=>unfold stepG.exec;simp only[e];exact .inl ⟨rfl,rfl⟩
     |loop b=>unfold stepG.exec;simp only[e];exact .inl ⟨rfl,rfl⟩
     |scope b=>unfold stepG.exec;simp only[e];exact .inl ⟨rfl,rfl⟩
     |refuse s=>unfold stepG.exec;simp only[e];trivial
     |ret=>
      refine Lt (main:=true) (P:=C.P) (w:=w) (b0:=b0) (some .ret) F (stepG.exec C.P true true fr (cs++b0) none w) ?_ ?_
      ·grind[stepG.exec,uH]
      grind[stepG.exec,Sem.runT_eq]
     |exit id=>
      cases K:exitTo id k with
      |some t=>unfold stepG.exec;simp only[e,K,Option.elim_some];exact .inl ⟨rfl,rfl⟩
      |none=>
       refine Lt (main:=true) (P:=C.P) (w:=w) (b0:=b0) (some (.exit id)) F (stepG.exec C.P true true fr (cs++b0) none w) ?_ ?_
       ·grind[stepG.exec,uH]
       grind[stepG.exec,Sem.runT_eq]
     |goto id=>
      cases K:gotoIn id k with
      |some t=>unfold stepG.exec;simp only[e,K,Option.elim_some];exact .inl ⟨rfl,rfl⟩
      |none=>
       refine Lt (main:=true) (P:=C.P) (w:=w) (b0:=b0) (some (.goto id)) F (stepG.exec C.P true true fr (cs++b0) none w) ?_ ?_
       ·grind[stepG.exec,uH]
       grind[stepG.exec,Sem.runT_eq]
     |region id ops draw=>unfold stepG.exec;simp only[e];cases draw with|false=>exact .inl ⟨rfl,rfl⟩|true=>simp only[Bool.not_true,Bool.false_eq_true,if_false];cases(Go.choose (.order fr.fn id)).run C.P w with|ok v w1=>exact .inl ⟨rfl,rfl⟩|halt x w1=>trivial
     |rangeFunc f params assign body=>
      simp only[j3,Bool.and_eq_true]at B;unfold stepG.exec at d⊢;simp only[e,Sem.runT_eq];simp only[A,Sem.runT_eq]at d;refine Kind.after ?_;rw[AG]at d;have P1:=WE (C:=C) (ρ:=ρ) fr.fn j.known j.tmps params ((h.qg _).2 B.1.2) ((h.qg _).2 B.2) j.roundOf;have P2:Instr.enterLoop aY.fn aY.tmps params assign body aY.roundOf=Instr.enterLoop fr.fn aY.tmps params assign body aY.roundOf:=by rw[j.fn]
      rw[P2]at d;have hP:(lr ((Instr.enterLoop fr.fn aY.tmps params assign body aY.roundOf).run C.Q w')).drawn<=S.bound:=by cases E:(Instr.enterLoop fr.fn aY.tmps params assign body aY.roundOf).run C.Q w' with|ok v q=>rw[E]at d;exact Nat.le_trans (Nat.le_trans (Cq C.Q _ q).1 (Fl C.Q _ _ none _ q)) d|halt x q=>rw[E]at d;exact d
      by_cases lS:Good ((Instr.enterLoop fr.fn fr.tmps params assign body fr.roundOf).run C.P w)
      ·obtain⟨σ,vN,z,Q,c0⟩:=P1 S w w' D lS hP;generalize(Instr.enterLoop fr.fn fr.tmps params assign body fr.roundOf).run C.P w=r at z;generalize(Instr.enterLoop fr.fn aY.tmps params assign body aY.roundOf).run C.Q w'=c5 at z d;cases z with
       |@ok a b qc _ fg T=>
        obtain⟨l,mark⟩:=a;obtain⟨p,U⟩:=b;obtain⟨hl,V⟩:=fg;have m:=j.mono Q.le;have X:en C σ {fr with todo:=.inRangeFunc l::k,defers:=mark++fr.defers} {aY with todo:=.inRangeFunc p::k',defers:=U++aY.defers}:=
         ⟨m.fn,m.known,m.tmps,.cons (.inRangeFunc hl) (nr.mono Q.le hk),dJ.append V m.defers,m.mode,m.kind,m.plain,m.roundOf⟩
        have P3:=X.eval T.nV;refine P6 (Ls ?_ T (Nat.le_trans (Fl C.Q _ _ none _ _) d));refine .bind (R:=AB) ?_ fun cT x y _ hd=>HM h.same h.Fp h.funcs hd.target hd.args;have I:=P3 f B.1.1;simp only[resolve];revert I;generalize Frame.eval _ f=v;generalize Frame.eval _ f=v';intro I;unfold Deferred.ofValue;have N:a3 σ #[Value.func (.yield l) #[] #[]] #[Value.func (.yield p) #[] #[]]:=.one (.Hr (.yield hl) (.nil σ) (.nil σ));have M:a3 σ ((#[Operand.const (.func (.yield l) #[] #[])]:Array Operand).map (Frame.eval {fr with todo:=.inRangeFunc l::k,defers:=mark++fr.defers})) ((#[Operand.const (.func (.yield p) #[] #[])]:Array Operand).map (Frame.eval {aY with todo:=.inRangeFunc p::k',defers:=U++aY.defers})):=by grind[Frame.eval]
        cases I with|func Z J h3 h4 bn=>exact .pure ⟨.fn Z ⟨h3,bn⟩,a3.append ⟨J,h4⟩ M⟩|nilFunc=>exact .pure ⟨.nil,M⟩| _=>exact .stuck
       |panic=>trivial
       |goexit=>trivial
      ·cases E:(Instr.enterLoop fr.fn fr.tmps params assign body fr.roundOf).run C.P w with|ok v q=>rw[E]at lS;exact absurd trivial lS|halt x q=>trivial
    |inBlock id=>unfold stepG.exec;simp only[e];exact .inl ⟨rfl,rfl⟩
    |inScope d=>unfold stepG.exec;simp only[e];exact .inl ⟨rfl,rfl⟩
    |inLoop d=>unfold stepG.exec;simp only[e];exact .inl ⟨rfl,rfl⟩
    |@inRegion ops W todo=>
     cases todo with
     |nil=>unfold stepG.exec;simp only[e];exact .inl ⟨rfl,rfl⟩
     |cons n rest=>
      unfold stepG.exec at d⊢;simp only[e];simp only[A]at d;rw[<-WR j.tmps ops]at d;split
      ·rename_i HR;rw[if_pos HR]at d;have H:∃o,ops[n]?=some o:=by grind
       obtain⟨o,z⟩:=H;have L:=W o (Array.mem_of_getElem? z);have J:fr.oper?=some o:=Gx;have j4:aY.oper?=some o:=Gx;have g:=j.roundOf;unfold stepG.oper at d⊢;simp only[J];simp only[j4]at d;have plain:(iX (stepG.apply C.Q true aY (bf++base) none (execOp aY.eval o) w')).drawn<=S.bound->Kind (stepG.apply C.P true fr (cs++b0) none (execOp fr.eval o) w):=fun N=>
        P6 (Ls (WL h.same h.Fp h.funcs Y L) D (Nat.le_trans (Fl C.Q _ _ none _ _) N))
       cases h0:fr.roundOf with
       |none=>cases u:aY.roundOf with|some l=>rw[h0,u]at g;cases g|none=>grind
       |some l=>cases u:aY.roundOf with|none=>rw[h0,u]at g;cases g|some p=>rw[h0,u]at g;cases g with|some hl=>cases O:o.op with|defer c=>rw[O]at L;cases L| _=>simp only[u,O]at d;exact plain d
      ·exact .inl ⟨rfl,rfl⟩
    |inRangeFunc hl=>unfold stepG.exec;simp only[e];trivial
    |@endRangeFunc l p hl=>unfold stepG.exec;simp only[e,Sem.runT_eq];refine Kind.after ?_;cases(Instr.endLoop l).run C.P w with|ok v w1=>exact .inl ⟨rfl,rfl⟩|halt x w1=>cases x with|panic v=>exact .inl ⟨rfl,rfl⟩| _=>trivial
    |beginRound=>unfold stepG.exec at d⊢;simp only[e];simp only[A]at d;refine P6 (Ls (.bind (R:=fun _(_ _:Unit)=>True) ?_ fun _ _ _ _ _=>.pure .skip) D (Nat.le_trans (Fl C.Q _ _ none _ _) d));have g:=j.roundOf;generalize fr.roundOf=a at g;generalize aY.roundOf=b at g;cases g with|none=>exact .stuck|some hl=>exact WF hl h.same
theorem ahy(h:C.Good){main':Bool}{base:List Frame}
 (d:en C ρ fr aY) (i:jg C ρ cs bf) (j:jh fr cs) (f:eN C S ρ w w') (e:¬Fr fr cs)
 (g:(iX (stepG C.Q main' (bb aY (bf++base)) w')).drawn<=S.bound):Kind (stepG C.P true (bb fr (cs++b0)) w):=by
 have a:=d.mode;cases c:fr.mode with
 |run=>rw[c]at a;cases b:aY.mode with|run=>grind[stepG,bb,ahx]| _=>rw[b]at a;cases a
 |returning=>rw[c]at a;cases b:aY.mode with|returning=>grind[stepG,bb,WY]| _=>rw[b]at a;cases a
 |panicking l=>rw[c]at a;cases b:aY.mode with|panicking k=>grind[stepG,bb,WY]| _=>rw[b]at a;cases a
end
def lU(g:Goroutine)(w:World):Machine:={world:=w,gs:=#[g],rest:={timers:=#[],alone:=none,slice:=none}}
theorem ahz(fr:Frame)(cs:List Frame)(w:World):lone fr cs w=lU (bb fr cs) w:=rfl
theorem ahA{P:Program}(a:g.status=.running):move P (lU g w)=.goroutine (lU g w) 0:=by simp[move,ask,askOn,lU,runnable_eq,due,ahead,Goroutine.canRun,List.range_succ,choose,pure,Sem.run,Question.forced,a]
theorem CF{P:Program}(a:g.status=.running)(h:stepG P true g w=s):
 (∀g1 w1 es,s=.go g1 w1 es->step P (lU g w)=.next (lU g1 w1))/\(∀o w1 es,s=.ended o w1 es->step P (lU g w)=.ended o w1):=by
 rw[step,stepT,ahA a];grind[runT,lU]
theorem WZ{P:Program}{m1:Machine}(a:g.status=.blocked\/g.status=.waiting)(h:step P (lU g w)=.next m1):m1=lU g w:=by
 rcases a with a|a
 ·exfalso;have gt:∀x:GStep,∃o w1,(match(motive:=GStep->Move) x with| .ended o w _=>Move.machine (.ended o w)| _=>.machine (.ended (.stuck "" "") default))=.machine (.ended o w1):=fun x=>by cases x<;>exact⟨_,_,rfl⟩
  have:∃o w1,move P (lU g w)=.machine (.ended o w1):=by simp only[move,ask,askOn,lU,runnable_eq,due,ahead];simp[Goroutine.canRun,List.range_succ,a,pure];exact gt _
  grind[step,stepT]
 ·have:move P (lU g w)=.machine (.next (lU g w)):=by simp[move,ask,askOn,lU,runnable_eq,due,ahead,Goroutine.canRun,List.range_succ,a,pure]
  grind[step,stepT]
theorem ahB{P:Program}{d:Dying}{f:Fatal}(a:d.calling=false):(∃o w1 es,writeOn P fr d f w=.ended o w1 es)\/∃g1 w1 es,writeOn P fr d f w=.go g1 w1 es/\HS g1:=by
 unfold writeOn;simp only[];split
 ·grind
 ·split
  ·exact .inr ⟨_,_,_,rfl,.inr ⟨_,_,rfl,rfl,a,.inl rfl⟩⟩
  ·exact .inr ⟨_,_,_,rfl,.inr ⟨_,_,rfl,rfl,a,.inr rfl⟩⟩
  ·grind
  grind
theorem ahC{P:Program}{m1:Machine}(hd:HS g)(h:step P (lU g w)=.next m1):∃g1 w1,m1=lU g1 w1/\HS g1:=by
 rcases hd with⟨c,b⟩|⟨d,f,c,b,i,a⟩
 ·exact⟨g,w,WZ b h,.inl ⟨c,b⟩⟩
 ·rcases a with a|a
  ·have e:stepG P true g w=writeOn P g.frame d f w:=by obtain⟨fr,cs,st,l,off⟩:=g;simp only at c;subst c;obtain⟨todo,texts,calling,pending,k,hand,fatal⟩:=d;simp only at b i;subst b;subst i;rfl
   rcases ahB (P:=P) (fr:=g.frame) (f:=f) (w:=w) i with⟨o,w1,es,j⟩|⟨g1,w1,es,j,m⟩
   ·rw[(CF a (e.trans j)).2 _ _ _ rfl]at h;cases h
   ·rw[(CF a (e.trans j)).1 _ _ _ rfl]at h;grind
  ·exact⟨g,w,WZ (.inl a) h,.inr ⟨d,f,c,b,i,.inr a⟩⟩
variable {dL:Frame}{cse:List Frame}{bx:World}
theorem ahD{P:Program}:∀(n:Nat)(g:Goroutine)(w:World),HS g->runN P n (lU g w)≠ .next (lone dL cse bx):=by
 intro n;induction n with
 |zero=>
  intro g w hd h;simp only[runN,Stepped.next.injEq,ahz]at h;have:g=bb dL cse:=by simp_all[lU]
  subst this;rcases hd with⟨_,a⟩|⟨d,f,b,_⟩
  ·rcases a with a|a<;>cases a
  ·cases b
 |succ n c=>intro g w hd h;rw[runN]at h;grind[ahC]
def eP(f:FuncId):Frame:={fn:=f,tmps:=#[],todo:=[.code (.refuse "")],defers:=[{target:=.nil,args:=#[]}],mode:=.run,kind:=.normal,roundOf:=none}
variable {f:FuncId}
theorem W0{P:Program}:∀(n:Nat)(w:World),(∀v,runN P n (lone ((eP f).finish v) [] w)≠ .next (lone dL (cs++[eP f]) bx))/\∀l,runN P n (lone ((eP f).raise l) [] w)≠ .next (lone dL (cs++[eP f]) bx):=by
 intro n w;have short:∀{fr:Frame}{w:World},lone fr [] w≠lone dL (cs++[eP f]) bx:=by simp_all[lone]
 cases n with
 |zero=>grind[runN]
 |succ n=>
  refine⟨fun v h=>?_,fun l h=>?_⟩
  ·rw[runN]at h;have e:∃o w1,(stepG P true (bb ((eP f).finish v) []) w).bare=.ended o w1:=⟨_,_,rfl⟩;obtain⟨o,w1,e⟩:=e;rw[step_lone_ended e]at h;cases h
  ·rw[runN]at h;have e:∃o w1,(stepG P true (bb ((eP f).raise l) []) w).bare=.ended o w1:=⟨_,_,rfl⟩;obtain⟨o,w1,e⟩:=e;rw[step_lone_ended e]at h;cases h
section
variable {C:cU} {S:Sync} {ρ:ay}
theorem W3{a:Frame}{b:List Frame}(h:lone fr cs w=lone a b w1):fr=a/\cs=b/\w=w1:=by simp_all[lone]
theorem ahE{P:Program}{fn:Func}{n:Nat}(m:P.funcs[fr.fn]?=some fn)(d:fr.kind=.normal)(j:Fr fr []):
 runN P (n+1) (lone fr [eP f] w)≠ .next (lone dL (cse++[eP f]) bx):=by
 intro h;rw[runN]at h;obtain⟨_,hd,c|⟨l,c⟩⟩:=j
 ·have e:stepG P true (bb fr [eP f]) w=GStep.after (seen P fr.fn ((results fn fr.tmps).events P w #[])) (match(results fn fr.tmps).run P w with
   | .ok v w=>doReturn P true fr [eP f] none v w
   | .halt (.stuck s) w=>.ended (.stuck s (fr.pos P)) w
   | .halt _ w=>.ended (.stuck "return: the result variables cannot be read" (fr.pos P)) w):=by
   grind[stepG,bb,unwind,Sem.runT_eq]
  cases b:(results fn fr.tmps).run P w with
  |ok v w1=>rw[b]at e;simp only[doReturn,d,GStep.after]at e;rw[show step P (lone fr [eP f] w)=.next (lU (bb ((eP f).finish v) []) w1)from(CF (g:=bb fr [eP f]) rfl e).1 _ _ _ rfl]at h;exact(W0 (cs:=cse) n w1).1 v h
  |halt x w1=>
   have:∃o a es,stepG P true (bb fr [eP f]) w=.ended o a es:=by rw[e,b];cases x<;>exact⟨_,_,_,rfl⟩
   obtain⟨o,a,es,i⟩:=this;rw[show step P (lone fr [eP f] w)=.ended o a from(CF (g:=bb fr [eP f]) rfl i).2 _ _ _ rfl]at h;cases h
 ·have k:fr.catches P=false:=by grind[Frame.catches]
  have e:stepG P true (bb fr [eP f]) w=.go (bb ((eP f).raise l) []) w:=by grind[stepG,bb,unwind]
  rw[show step P (lone fr [eP f] w)=.next (lU (bb ((eP f).raise l) []) w)from(CF (g:=bb fr [eP f]) rfl e).1 _ _ _ rfl]at h;exact(W0 (cs:=cse) n w).2 l h
theorem ahF(m:C.Good){main':Bool}{base:List Frame}{n:Nat}
 (e:en C ρ fr aY) (r:jg C ρ cs bf) (h:jh fr cs) (j:eN C S ρ w w')
 (l:(iX (stepG C.Q main' (bb aY (bf++base)) w')).drawn<=S.bound)
 (hrun:runN C.P n (lone fr (cs++[eP f]) w)=.next (lone dL (cse++[eP f]) bx)):
 (cs=cse/\fr=dL/\w=bx)\/∃k g1 w1,n=k+1/\iY C S ρ [eP f] base w' g1 w1 (stepG C.Q main' (bb aY (bf++base)) w')/\runN C.P k (lU g1 w1)=.next (lone dL (cse++[eP f]) bx):=by
 cases n with
 |zero=>grind[runN,W3,List.append_cancel_right]
 |succ k=>
  obtain⟨fn,c,i,u⟩:=e.known;by_cases d:Fr fr cs
  ·obtain⟨q,p⟩:=d;subst q;exact absurd hrun (ahE i h.1 ⟨rfl,p⟩)
  ·right;have b:=ahy m (b0:=[eP f]) e r h j d l;rw[runN]at hrun;cases a:stepG C.P true (bb fr (cs++[eP f])) w with
   |go g1 w1 es=>
    rw[a]at b;rw[show step C.P (lone fr (cs++[eP f]) w)=.next (lU g1 w1)from(CF (g:=bb fr (cs++[eP f])) rfl a).1 _ _ _ rfl]at hrun;rcases b with⟨t,hd⟩|s
    ·grind[ahu]
    grind[ahD]
   |ended o w1 es=>rw[show step C.P (lone fr (cs++[eP f]) w)=.ended o w1 from(CF (g:=bb fr (cs++[eP f])) rfl a).2 _ _ _ rfl]at hrun;grind
   | _=>rw[a]at b;exact absurd b id
end
structure a6 where
 g:Goroutine
 w:World
 mine:Nat->Prop
structure kl(K:Nat->Prop)(X:a6)(w':World):Prop where
 heap:∀b,K b\/X.mine b->w'.heap[b]?=X.w.heap[b]?
 size:X.w.heap.size<=w'.heap.size
 env:w'.os.env=X.w.os.env
def grown(mine:Nat->Prop)(w' w1:World):Nat->Prop:=fun b=>mine b\/(w'.heap.size<=b/\b<w1.heap.size)
def zq(K mine:Nat->Prop)(e:Event):Prop:=
 match e.loc with
 | .cell a=>(K a.block\/mine a.block)/\(e.write=true->mine a.block)/\e.sync=false
 | .obj r=>(K r\/mine r)/\(e.write=true->mine r)/\e.sync=false
 | .mark .noRoom| .mark (.extern _)| .output=>True
 | _=>False
structure P7(K mine:Nat->Prop)(w':World)(g1:Goroutine)(w1:World)(es:Array Event):Prop where
 run:g1.status=.running
 pq:g1.dying=none
 kept:∀b,b<w'.heap.size->¬mine b->w1.heap[b]?=w'.heap[b]?
 size:w'.heap.size<=w1.heap.size
 os:w1.os=w'.os
 output:w1.output=w'.output
 tape:w1.tape=w'.tape
 drawn:w'.drawn<=w1.drawn
 evs:∀e∈es,zq K (grown mine w' w1) e
def Lu(K mine:Nat->Prop)(w':World)(s:GStep):Prop:=∃g1 w1 es,s=.go g1 w1 es/\P7 K mine w' g1 w1 es
inductive jO(Q:Program)(main:Bool)(K:Nat->Prop)(post:a6->Prop):a6->Prop
 |done {X:a6} (h:post X):jO Q main K post X
 |step {X:a6} (ok:∀w',kl K X w'->Lu K X.mine w' (stepG Q main X.g w'))
  (h:∀w' g1 w1 es,kl K X w'->stepG Q main X.g w'=.go g1 w1 es->jO Q main K post ⟨g1,w1,grown X.mine w' w1⟩):jO Q main K post X
inductive qj(Q:Program)(main:Bool)(K:Nat->Prop)(Inv post:a6->Prop):a6->Prop
 |done {X:a6} (h:post X):qj Q main K Inv post X
 |step {X:a6} (Fs:Inv X) (ok:∀w',kl K X w'->Lu K X.mine w' (stepG Q main X.g w'))
  (h:∀w' g1 w1 es,kl K X w'->stepG Q main X.g w'=.go g1 w1 es->qj Q main K Inv post ⟨g1,w1,grown X.mine w' w1⟩):qj Q main K Inv post X
section
variable {Q:Program} {main:Bool} {K:Nat->Prop} {Inv post:a6->Prop}
theorem qj.co{X:a6}(h:qj Q main K Inv post X):jO Q main K post X:=by induction h with|done h=>exact .done h|step _ ok _ a=>exact .step ok a
def P8(Q:Program)(main:Bool)(K:Nat->Prop)(Inv post:a6->Prop)(X:a6)(w':World):Prop:=
 kl K X w'/\¬(Lu K X.mine w' (stepG Q main X.g w')/\∀g1 w1 es,stepG Q main X.g w'=.go g1 w1 es->qj Q main K Inv post ⟨g1,w1,grown X.mine w' w1⟩)
theorem P9{X:a6}(h:¬qj Q main K Inv post X):¬post X/\∃w',Inv X->P8 Q main K Inv post X w':=by
 refine⟨fun e=>h (.done e),Classical.byContradiction fun c=>h ?_⟩;have key:Inv X/\∀w',kl K X w'->Lu K X.mine w' (stepG Q main X.g w')/\∀g1 w1 es,stepG Q main X.g w'=.go g1 w1 es->qj Q main K Inv post ⟨g1,w1,grown X.mine w' w1⟩:=
  ⟨Classical.byContradiction fun b=>c ⟨X.w,fun h=>absurd h b⟩,fun w' a=>Classical.byContradiction fun b=>c ⟨w',fun _=>⟨a,b⟩⟩⟩
 exact .step key.1 (fun w' a=>(key.2 w' a).1) (fun w' g1 w1 es a d=>(key.2 w' a).2 g1 w1 es d)
theorem ahG(Q:Program)(main:Bool)(K:Nat->Prop)(Inv post:a6->Prop)(a:a6):∃(X:Nat->a6)(v:Nat->World),X 0=a/\(∀k,¬qj Q main K Inv post (X k)->Inv (X k)->P8 Q main K Inv post (X k) (v k))/\
 ∀k g1 w1 es,stepG Q main (X k).g (v k)=.go g1 w1 es->X (k+1)=⟨g1,w1,grown (X k).mine (v k) w1⟩:=by
 have pick:∀X:a6,∃w':World,¬qj Q main K Inv post X->Inv X->P8 Q main K Inv post X w':=by
  intro X;by_cases h:qj Q main K Inv post X
  ·simp_all
  simp_all[P9]
 obtain⟨p,b⟩:=Classical.skolem.1 pick;refine⟨fun k=>Nat.rec a (fun _ X=>match stepG Q main X.g (p X)with| .go g1 w1 _=>⟨g1,w1,grown X.mine (p X) w1⟩| _=>X) k,fun k=>p _,rfl,fun k=>b _,fun k g1 w1 es h=>?_⟩;grind
end
def HT(base:List Frame)(X:a6):Prop:=∃fr cs,X.g=bb fr (cs++base)
def sc(cu:Nat)(B E:Nat->Nat):Nat->Nat
 |0=>cu
 |k+1=>sc cu B E k+(E k-B k)
theorem W4(cu:Nat)(B E:Nat->Nat){k l:Nat}(h:k<=l):sc cu B E k<=sc cu B E l:=by induction h with|refl=>grind|step _ a=>exact Nat.le_trans a (Nat.le_add_right _ _)
open Classical in
theorem ahH(cu:Nat)(B E:Nat->Nat)(c:Nat->Nat->Question->Nat):∃T:Nat->Question->Nat,∀k j q,B k+j<E k->T (sc cu B E k+j) q=c k (B k+j) q:=by
 refine⟨fun i q=>if h:∃k,sc cu B E k<=i/\i<sc cu B E (k+1)then c (Classical.choose h) (B (Classical.choose h)+(i-sc cu B E (Classical.choose h))) q else 0,fun k j q g=>?_⟩;have b:∃k',sc cu B E k'<=sc cu B E k+j/\sc cu B E k+j<sc cu B E (k'+1):=⟨k,Nat.le_add_right _ _,by grind[sc]⟩;simp only[dif_pos b];have e:=Classical.choose_spec b;generalize Classical.choose b=k' at e;have f:k'=k:=by
  rcases Nat.lt_trichotomy k' k with a|d|a
  ·have:=W4 cu B E (Nat.succ_le_of_lt a);grind
  ·exact d
  ·have:=W4 cu B E (Nat.succ_le_of_lt a);grind[sc]
 grind
variable {Ft n2:Frame}{cs0 zs:List Frame}{mO w0:World}
section
variable {C:cU} {S:Sync} {ρ:ay}
theorem eN.rely{K:Nat->Prop}{X:a6}{bound:Nat}(h:eN C S ρ w X.w)(d:kl K X w')(hd:∀a b,ρ.rel a b->K b\/X.mine b)
 (ht:∀j q,w'.drawn+j<bound->w.tape (w.drawn+j) q=w'.tape (w'.drawn+j) q):eN C ⟨w.drawn,w'.drawn,bound,S.T⟩ ρ w w':=
 ⟨fun b c e=>by
  obtain⟨o,o',i,g,f⟩:=h.obj b c e;exact⟨o,o',i,(d.heap c (hd b c e)).trans g,f⟩,
  h.one,h.inj,h.nV,Nat.add_comm _ _,ht,h.env.trans d.env.symm,h.lone,h.still⟩
structure zr(C:cU)(K:Nat->Prop)(T:Nat->Question->Nat)(j5:ay)(n0:Nat)(base:List Frame)(ρ:ay)(fr:Frame)(cs:List Frame)(w:World)(X:a6):Prop where
 frames:∃aY bf,X.g=bb aY (bf++base)/\en C ρ fr aY/\jg C ρ cs bf
 ahI:jh fr cs
 world:eN C ⟨w.drawn,X.w.drawn,0,T⟩ ρ w X.w
 le:ay.le j5 ρ
 mine:∀b,ρ.mine b->X.mine b
 wZ:∀a b,ρ.rel a b->K b\/X.mine b
 old:∀a b,ρ.rel a b->j5.rel a b\/n0<=b
 size:n0<=X.w.heap.size
theorem W5(hC:C.Good){base:List Frame}{d:ay}(P_:en C d n2 Ft)(Qa:jg C d cs0 zs)(Z:jh n2 cs0)
  {K tM:Nat->Prop} (hw:∀T,eN C ⟨w0.drawn,mO.drawn,0,T⟩ d {w0 with tape:=T} mO) (x:∀b,d.mine b->tM b) (hK:∀a b,d.rel a b->K b\/tM b)
 {R:Frame->List Frame->World->Prop} (hrun:∀T,∃n dL cse bx,runN C.P n (lone n2 (cs0++[eP f]) {w0 with tape:=T})=.next (lone dL (cse++[eP f]) bx)/\R dL cse bx) (main:Bool):
 qj C.Q main K (HT base) (fun X=>∃ρ fr cs w T,R fr cs w/\zr C K T d mO.heap.size base ρ fr cs w X) ⟨bb Ft (zs++base),mO,tM⟩:=by
 generalize HU:(fun X=>∃ρ fr cs w T,R fr cs w/\zr C K T d mO.heap.size base ρ fr cs w X)=post
 have aA8:∀X,(∃ρ fr cs w T,R fr cs w/\zr C K T d mO.heap.size base ρ fr cs w X)->post X:=AU
 clear HU
 apply Classical.byContradiction
 intro aj
 generalize Qb:(⟨bb Ft (zs++base),mO,tM⟩:a6)=Lv at aj
 obtain⟨X,v,L,J,d_⟩:=ahG C.Q main K (HT base) post Lv
 let B:Nat->Nat:=fun k=>(v k).drawn
 let E:Nat->Nat:=fun k=>(iX (stepG C.Q main (X k).g (v k))).drawn
 obtain⟨T,hT⟩:=ahH w0.drawn B E fun k=>(v k).tape
 obtain⟨n,dL,cse,bx,hrun,ahL⟩:=hrun T
 have main:∀(n k:Nat)(ρ:ay)(fr:Frame)(cs:List Frame)(w:World),zr C K T d mO.heap.size base ρ fr cs w (X k)->w.drawn=sc w0.drawn B E k->¬qj C.Q main K (HT base) post (X k)->
  runN C.P n (lone fr (cs++[eP f]) w)=.next (lone dL (cse++[eP f]) bx)->False:=by
  intro n;induction n with
  |zero=>grind[runN,W3,List.append_cancel_right,P9]
  |succ n ih=>
   intro k ρ fr cs w ht hd N hr;obtain⟨p,l⟩:=J k N (by obtain⟨aY,bf,y,_⟩:=ht.frames;exact⟨aY,bf,y⟩);have o:=d_ k;have Q:=hT k;have P:B k=(v k).drawn:=rfl;have m:E k=(iX (stepG C.Q main (X k).g (v k))).drawn:=rfl;generalize hv:v k=g at p l o Q P m;generalize aA9:X k=Y at ht N p l o m;obtain⟨aY,bf,y,bV,cI⟩:=ht.frames;have gl:eN C ⟨w.drawn,g.drawn,E k,T⟩ ρ w g:=ht.world.rely p ht.wZ fun j q O=>by have:=Q j q AU;rw[P,<-hd]at this;rw[ht.world.lone];grind
   rw[y]at m l o;rcases ahF hC bV cI ht.ahI gl (Nat.le_of_eq m.symm) hr with⟨h1,h2,h3⟩|⟨n',g1,w1,W,u,Lw⟩
   ·grind[P9]
   ·cases W;obtain⟨σ,U,V,t,M,i,es',Qc,hs,I,H,gm,e,c,mf⟩:=u;subst Qc;rw[hs]at m l o;have F:=o _ _ _ rfl;have hsz:∀b,σ.mine b->grown Y.mine g i b:=fun b r=>by
     rcases c.back b r with h|h
     ·exact .inl (ht.mine b h)
     ·rcases c.low b r with z|z
      ·exact .inl (ht.mine b z)
      ·exact .inr ⟨h,z⟩
    have D:∀a b,σ.rel a b->K b\/grown Y.mine g i b:=fun a b s=>by
     rcases c.old a b s with h|h
     ·exact(ht.wZ a b h).imp id .inl
     ·obtain⟨_,o',_,h2,_⟩:=e.obj a b s;exact .inr (.inr ⟨h,by
       grind⟩)
    have A:P7 K Y.mine g (bb t (M++base)) i es':=by refine⟨rfl,rfl,fun b r x=>c.kept b r fun h=>x (ht.mine b h),c.size,c.os,c.output,c.tape,c.drawn,fun ev aA_=>?_⟩;grind[yb,zq]
    have aBa:¬qj C.Q main K (HT base) post ⟨bb t (M++base),i,grown Y.mine g i⟩:=fun hc=>l ⟨⟨_,_,_,rfl,A⟩,fun fR w2 vM e2=>AU⟩;have S:w1.drawn=sc w0.drawn B E (k+1):=by have aBb:=e.sync;have aBc:=c.drawn;grind[sc,iX]
    refine ih (k+1) σ U V w1 ?_ S AU Lw;rw[F];refine⟨⟨t,M,rfl,I,H⟩,gm,?_,ay.le_trans ht.le c.le,hsz,D,fun a b s=>?_,Nat.le_trans ht.size (Nat.le_trans p.size c.size)⟩
    ·exact⟨e.obj,e.one,e.inj,e.nV,Nat.add_comm _ _,fun j q O=>absurd O (Nat.not_lt_zero _),e.env,e.lone,e.still⟩
    ·rcases c.old a b s with h|h
     ·exact ht.old a b h
     ·exact .inr (Nat.le_trans ht.size (Nat.le_trans p.size h))
 refine main n 0 d n2 cs0 {w0 with tape:=T} ?_ rfl ?_ hrun
 ·rw[L];subst Qb;exact⟨⟨_,zs,rfl,P_,Qa⟩,Z,hw T,ay.le_refl _,x,hK,fun a b h=>.inl h,Nat.le_refl _⟩
 grind
theorem W8(h:C.Good){base:List Frame}{c:ay}(j:en C c n2 Ft)(i:jg C c cs0 zs)(d:jh n2 cs0)
  {K tM:Nat->Prop} (e:∀T,eN C ⟨w0.drawn,mO.drawn,0,T⟩ c {w0 with tape:=T} mO) (g:∀b,c.mine b->tM b) (hK:∀a b,c.rel a b->K b\/tM b)
 {R:Frame->List Frame->World->Prop} (hrun:∀T,∃n dL cse bx,runN C.P n (lone n2 (cs0++[eP f]) {w0 with tape:=T})=.next (lone dL (cse++[eP f]) bx)/\R dL cse bx) (main:Bool):
 jO C.Q main K (fun X=>∃ρ fr cs w T,R fr cs w/\zr C K T c mO.heap.size base ρ fr cs w X) ⟨bb Ft (zs++base),mO,tM⟩:=(W5 (f:=f) h j i d e g hK hrun main).co
theorem jO.mono{Q:Program}{main:Bool}{K:Nat->Prop}{post a:a6->Prop}{X:a6}(h:jO Q main K post X)(c:∀Y,post Y->a Y):jO Q main K a X:=by induction h with|done h=>exact .done (c _ h)|step ok _ b=>exact .step ok b
theorem ahR(h:C.Good){fn:Func}{c:Code}(r:C.P.funcs[f]?=some fn)(p:fn.body=some c){args g:Array Value}{d:ay}(k:a3 d args g)
  {K tM:Nat->Prop} (m:∀T,eN C ⟨w0.drawn,mO.drawn,0,T⟩ d {w0 with tape:=T} mO) (o:∀b,d.mine b->tM b) (hK:∀a b,d.rel a b->K b\/tM b)
 {R:Ending->World->Prop} (y:∀e w,R e w->e≠ .outgrown) (j:∀T,Calls C.P f args {w0 with tape:=T} R) (main:Bool) (base:List Frame):
 jO C.Q main K (fun X=>∃ρ fr w T e,R e w/\fr.fn=f/\fr.leaving C.P w e/\zr C K T d mO.heap.size base ρ fr [] w X) ⟨bb (Frame.enter C.Q f g .normal) base,mO,tM⟩:=by
 have q:jh (Frame.enter C.P f args .normal) []:=by unfold Frame.enter;exact⟨rfl,rfl⟩
 refine(W8 (f:=f) (base:=base) (R:=fun fr cs w=>cs=[]/\∃e,R e w/\fr.fn=f/\fr.leaving C.P w e) h (.enter h.funcs k r p Jt) .nil q m o hK (fun T=>?_) main).mono ?_
 ·obtain⟨e,bx,dL,t,i,x,s⟩:=j T [eP f];have u:Steps C.P (lone (Frame.enter C.P f args .normal) [eP f] {w0 with tape:=T}) (lone dL [eP f] bx):=by cases e with|outgrown=>grind|returned v=>exact i|panicked l=>exact i
  obtain⟨n,z⟩:=u;grind
 grind
end
variable {ar:Type}
theorem Ly:∀(l:List (String×ar)),l.all (fun p=> !("" ==p.1))=true->l.lookup "" =none:=by grind
theorem ahU:Extern.allNextRows.lookup "" =none:=Ly _ AS
theorem ahV:Extern.allRows.lookup "" =none:=Ly _ AS
theorem ahW:Extern.allTypedRows.lookup "" =none:=Ly _ AS
theorem ahX:Extern.allGenericRows.lookup "" =none:=Ly _ AS
def i6(P:Program)(upd:Bool)(fn:Func):Bool:=fn.body.any (j3 P upd)&&fn.name != "runtime.NumGoroutine"
def HY(P:Program)(upd:Bool)(fn:Func):Func:=if i6 P upd fn then fn else{fn with name:= "",origin:= "",body:=none}
def ai(P:Program)(upd:Bool):Program:={P with funcs:=P.funcs.map (HY P upd)}
def ei(P:Program)(upd:Bool):cU:={P:=ai P upd,Q:=P,ma:=fun c=>j3 (ai P upd) upd c=true,upd:=upd}
theorem W_(P:Program)(u:Bool)(t:TypeId):(ai P u).underlying t=P.underlying t:=rfl
theorem ahY(P:Program)(u:Bool):∀(n:Nat)(t:TypeId),zk (ai P u) n t=zk P n t:=by intro n;induction n with|zero=>intro t;rfl|succ n a=>grind[zk,W_]
theorem Qd(P:Program)(u:Bool)(x:Operand):iW (ai P u) x=iW P x:=by cases x<;>rfl
theorem Qe(P:Program)(u:Bool):iW (ai P u)=iW P:=funext (Qd P u)
theorem ahZ(P:Program)(u:Bool)(op:BinOp)(t:TypeId):Cz (ai P u) op t=Cz P op t:=by simp_all[Cz,ahY,W_]
theorem ah0(P:Program)(u:Bool)(t:TypeId):AD (ai P u) t=AD P t:=rfl
theorem ah1(P:Program)(u:Bool)(c:Call):Fj (ai P u) c=Fj P c:=by grind[Fj,Qe]
theorem ah2(P:Program)(u:Bool)(c:Call):HL (ai P u) c=HL P c:=by grind[HL,Qe]
theorem Xa(P:Program)(upd u:Bool)(o:Op):sa (ai P u) upd o=sa P upd o:=by simp_all[sa,Qe,ahZ,ah0,ah1,ah2]
theorem Xb(P:Program)(upd u:Bool)(c:Code):j3 (ai P u) upd c=j3 P upd c:=by induction c with|region id ops d=>simp only[j3,Xa]|seq a b h g=>grind[j3]|cond c a b h g=>grind[j3,Qd]|block id b e=>grind[j3]|loop b e=>grind[j3]|scope b e=>grind[j3]|rangeFunc f p a b h g=>grind[j3,Qd]| _=>rfl
theorem Xc{P:Program}{upd:Bool}{fn:Func}(h:(ai P upd).funcs[f]?=some fn):∃a,P.funcs[f]?=some a/\fn=HY P upd a:=by simp only[ai,Array.getElem?_map]at h;grind
theorem bl{P:Program}{upd:Bool}{fn:Func}(h:P.funcs[f]?=some fn)(a:i6 P upd fn=true):(ai P upd).funcs[f]?=some fn:=by simp_all[ai,HY]
theorem ah3(P:Program)(upd:Bool):(ei P upd).CA:=by
 refine⟨fun f fn c h d=>?_,fun f fn h d ρ a a' o=>?_⟩
 ·obtain⟨g,h0,rfl⟩:=Xc h;unfold HY at d⊢;by_cases b:i6 P upd g=true
  ·rw[if_pos b]at d⊢;simp only[i6,Bool.and_eq_true,bne_iff_ne,d,Option.any_some]at b;exact⟨h0,(Xb P upd upd c).trans b.1,b.2⟩
  grind
 ·obtain⟨g,h0,e⟩:=Xc h;have i:fn.name= "" /\fn.origin= "" :=by
   unfold HY at e;by_cases b:i6 P upd g=true
   ·simp_all[i6]
   grind
  intro S w w' m n _;exfalso;have l:Extern.findNext fn=none:=by grind[Extern.findNext,ahU]
  have k:Extern.find fn=none:=by grind[Extern.find,ahV,ahW,ahX]
  have:∃u w1,(callFunc f a).run (ai P upd) w=.halt (.unsupported (.extern u)) w1:=by unfold callFunc;refine⟨ "",w,?_⟩;have j:(ai P upd).funcs[f]?=some fn:=h;simp only[np,Go.program,Sem.run,j,i.1,d,l,k];rfl
  obtain⟨u,w1,p⟩:=this;simp_all[Good,callFunc,ai]
def AM(i:TypeInfo):Prop:=∀v,i.zero=some v->je v
theorem Fv{d:TypeDesc}{s:String}{z:Value}{c:Bool}{n:Nat}(h:je z):AM (Made.word d s z c n):=by intro v a;grind[Made.word]
theorem kG.append{a b:Array Value}(d:kG a)(c:kG b):kG (a++b):=by
 intro i v h;rw[Array.getElem?_append]at h;split at h
 ·exact d _ _ h
 ·exact c _ _ h
theorem kG.ah4{z:Array Value}(b:kG z)(n:Nat):kG (Array.replicate n z).flatten:=by induction n with|zero=>intro i v h;grind|succ n a=>rw[Array.replicate_succ];simp only[Array.flatten_push];exact a.append b
variable {aQ:Type}
theorem ah5(I:aQ->Prop)(f:ar->aQ->Option (ForInStep aQ))(hstep:∀a b r,I b->f a b=some r->∃c,r=.yield c/\I c):
 ∀(l:List ar)(b r:aQ),I b->forIn l b f=some r->I r:=by
 intro l;induction l with|nil=>grind|cons a l d=>intro b r g h;simp only[List.forIn_cons]at h;cases e:f a b with|none=>grind|some s=>grind
variable {info:TypeId->Option TypeInfo}
theorem ah6(hi:∀t i,info t=some i->AM i){fs:Array Field}{i:TypeInfo}(h:Made.reckonStruct info fs=some i):AM i:=by
 unfold Made.reckonStruct at h;simp only[bind,Option.bind_eq_some_iff]at h;obtain⟨s,k,h⟩:=h;have p:∀z,s.2.2.2.2.2.2.2.1=some z->kG z:=by
  rw[<-Array.forIn_toList]at k;refine ah5 (fun s:Array Field×Nat×Nat×Nat×Nat×Bool×Bool×Option (Array Value)×String=>∀z,s.2.2.2.2.2.2.2.1=some z->kG z) _ ?_ _ _ _ ?_ k
  ·intro f b r n d;simp only[Option.bind_eq_some_iff]at d;obtain⟨j,m,d⟩:=d;have key:∀(c:Prop)[Decidable c](z:Array Value),(if c then none else b.2.2.2.2.2.2.2.1.bind fun a=>j.zero.bind fun v=>pure (a++v.cells))=some z->kG z:=by
    intro c _ z e;split at e
    ·cases e
    ·simp only[Option.bind_eq_some_iff,pure,Option.some.injEq]at e;obtain⟨a,o,v,g,rfl⟩:=e;exact(n a o).append (hi _ _ m v g).cells
   have leaf:∀{x:Array Field×Nat×Nat×Nat×Nat×Bool×Bool×Option (Array Value)×String},(pure (ForInStep.yield x):Option (ForInStep _))=some r->(∀z,x.2.2.2.2.2.2.2.1=some z->kG z)->∃l,r=.yield l/\∀z,l.2.2.2.2.2.2.2.1=some z->kG z:=
    fun u q=>⟨_,(Option.some.inj u).symm,q⟩
   split at d
   ·cases d
   split at d
   ·cases d
   split at d
   ·simp only[Option.bind_eq_some_iff]at d;obtain⟨_,_,d⟩:=d;split at d
    ·exact leaf d fun z e=>key _ z e
    ·exact leaf d fun z e=>key _ z e
   ·simp only[Option.bind_eq_some_iff]at d;obtain⟨_,_,d⟩:=d;split at d
    ·exact leaf d fun z e=>key _ z e
    ·exact leaf d fun z e=>key _ z e
  ·intro z e;cases e;intro i v h;grind
 have gt:∀v,Option.map Value.agg s.2.2.2.2.2.2.2.1=some v->je v:=by intro v g;rw[Option.map_eq_some_iff]at g;obtain⟨z,e,rfl⟩:=g;exact .agg (p z e)
 split at h
 ·cases h;exact gt
 ·cases h;exact gt
theorem ah7(hi:∀t i,info t=some i->AM i){d:TypeDesc}{i:TypeInfo}(h:Made.reckon info d=some i):AM i:=by
 cases d with
 |pointer e=>
  simp only[Made.reckon,bind,Option.bind_eq_some_iff]at h;obtain⟨j,_,h⟩:=h;split at h
  ·cases h
  ·split at h
   ·cases h
   ·simp only[Option.bind_eq_some_iff,pure,Option.some.injEq]at h;obtain⟨_,_,rfl⟩:=h;exact Fv .lP
  ·simp only[Option.bind_eq_some_iff,pure,Option.some.injEq]at h;obtain⟨_,_,rfl⟩:=h;exact Fv .lP
 |slice e=>simp only[Made.reckon,bind,Option.bind_eq_some_iff,pure,Option.some.injEq]at h;obtain⟨_,_,_,_,rfl⟩:=h;exact Fv (.hA _ _)
 |map k e=>simp only[Made.reckon,bind,Option.bind_eq_some_iff,pure,Option.some.injEq]at h;obtain⟨_,_,_,_,_,_,_,_,rfl⟩:=h;exact Fv .sU
 |chan dir e=>simp only[Made.reckon,bind,Option.bind_eq_some_iff,pure,Option.some.injEq]at h;obtain⟨_,_,_,_,rfl⟩:=h;exact Fv .r7
 |func a8 rs v=>simp only[Made.reckon,bind,Option.bind_eq_some_iff,pure,Option.some.injEq]at h;obtain⟨_,_,rfl⟩:=h;exact Fv .nilFunc
 |array n e=>
  simp only[Made.reckon,bind,Option.bind_eq_some_iff,pure,Option.some.injEq]at h;obtain⟨j,c,_,_,rfl⟩:=h;intro v a;simp only at a;split at a
  ·cases a
  ·split at a
   ·cases a;exact .agg fun i v h=>AU
   ·simp only[Option.map_eq_some_iff]at a;obtain⟨z,b,rfl⟩:=a;exact .agg ((hi e j c z b).cells.ah4 n)
 |struct fs=>exact ah6 hi h
 | _=>cases h
theorem ah8{T:Tables}(h:∀i∈T.types,AM i):∀(n:Nat)(t:TypeId)(i:TypeInfo),Made.infoAt T n t=some i->AM i:=by
 intro n;induction n with
 |zero=>intro t i hi;cases hi
 |succ n a=>
  intro t i hi;simp only[Made.infoAt]at hi;split at hi
  ·exact h i (Array.mem_of_getElem? hi)
  ·simp only[Option.bind_eq_some_iff]at hi;obtain⟨d,_,hd⟩:=hi;exact ah7 a hd
theorem ah9{P:Program}{upd:Bool}(h:(P.types.all fun i=>i.zero.all (jf 8))=true):(ei P upd).wU:=by
 have ht:∀i∈P.types,AM i:=by intro i hi v a;grind[Array.all_eq_true_iff_forall_mem,WG]
 intro t i v hi a;have hi:P.info? t=some i:=hi;unfold Tables.info? at hi;split at hi
 ·exact ht i (Array.mem_of_getElem? hi) v a
 ·exact ah8 ht _ t i hi v a
theorem Xd{P:Program}(upd:Bool)(h:(P.types.all fun i=>i.zero.all (jf 8))=true)(a:P.follows .rangeFuncRecover=true):(ei P upd).Good:=
 ⟨rfl,ah9 h,ah3 P upd,fun _=>Iff.rfl,a⟩
def fE(D M:Nat->Prop):ay:=⟨fun a b=>a=b/\D b,M⟩
theorem ah_{a:Array ar}{b:Array aQ}(h:a.size=b.size){i:Nat}{y:aQ}(c:b[i]?=some y):∃x,a[i]?=some x:=by
 have hi:i<b.size:=by grind
 simp_all
section
variable {ρ σ:ay}
theorem dC.right(h:∀a b,ρ.rel a b->σ.rel b b){a a':Addr}(k:dC ρ a a'):dC σ a' a':=⟨h _ _ k.1,rfl,rfl⟩
theorem vI.right(h:∀a b,ρ.rel a b->σ.rel b b){f f':Fn}(k:vI ρ f f'):vI σ f' f':=by cases k with|func f=>exact .func f|yield hl=>exact .yield (h _ _ hl)
theorem aA.right(h:∀a b,ρ.rel a b->σ.rel b b){v d:Value}(k:aA ρ v d):aA σ d d:=by
 have all:∀{a a':Array Value},a.size=a'.size->(∀(i:Nat)(v d:Value),a[i]?=some v->a'[i]?=some d->aA σ d d)->∀(i:Nat)(x y:Value),a'[i]?=some x->a'[i]?=some y->aA σ x y:=by grind
 induction k with|bool b=>exact .bool b|int k n=>exact .int k n|string s=>exact .string s|lP=>exact .lP|e7 r=>exact .e7 (r.right h)|hA l c=>exact .hA l c|slice l c r=>exact .slice l c (r.right h)|sU=>exact .sU|map r=>exact .map (h _ _ r)|r7=>exact .r7|func m p o _ _ j g=>exact .func (m.right h) rfl rfl (all p j) (all o g)|nilFunc=>exact .nilFunc|iface t _ e=>exact .iface t e|nilIface=>exact .nilIface|agg f _ e=>exact .agg rfl (all f e)|tuple f _ e=>exact .tuple rfl (all f e)
theorem a3.right(h:∀a b,ρ.rel a b->σ.rel b b){a a':Array Value}(k:a3 ρ a a'):a3 σ a' a':=by refine⟨rfl,fun i x y c d=>?_⟩;rw[c]at d;cases d;obtain⟨z,e⟩:=ah_ k.size c;exact(k.get i z x e c).right h
theorem dJ.right{R:ar->aQ->Prop}{c:aQ->aQ->Prop}(h:∀a b,R a b->c b b){l:List ar}{m:List aQ}(k:dJ R l m):dJ c m m:=by induction k with|nil=>exact .nil|cons x _ d=>exact .cons (h _ _ x) d
theorem il.right{C:cU}(h:∀a b,ρ.rel a b->σ.rel b b){o o':Obj}(k:il C ρ o o'):il C σ o' o'\/Lc o':=by cases k with|cells e f i=>exact .inl (.cells e (f.right h) ⟨fun _ x=>x,fun _=>rfl⟩)|map c d=>exact .inl (.map c (d.right fun a b x=>⟨x.key.right h,x.val.right h,rfl⟩))|stringIter s p=>exact .inr trivial|Cr a b c=>exact .inr trivial|mapIter h a b c=>exact .inr trivial|loop h=>exact .inr trivial|deferred h=>exact .inr trivial|taken=>exact .inr trivial|number g l=>exact .inl (.number (g.right h) l)|qa h=>grind
end
def i7(C:cU)(D M:Nat->Prop)(w:World):Prop:=∀b,D b->∃o,w.heap[b]?=some o/\(il C (fE D M) o o\/Lc o)
theorem eN.closed{C:cU}{S:Sync}{ρ:ay}(h:eN C S ρ w w')(M:Nat->Prop):i7 C (fun b=>∃a,ρ.rel a b) M w':=by rintro b ⟨a,e⟩;obtain⟨o,o',_,d,c⟩:=h.obj a b e;exact⟨o',d,c.right (σ:=fE (fun b=>∃a,ρ.rel a b) M) fun x y f=>⟨rfl,x,f⟩⟩
def Fw(C:cU)(D M:Nat->Prop)(b:Nat)(o gC:Obj):Prop:=
 (il C (fE D M) o o/\M b/\gC=o)\/
 (il C (fE D M) o o/\¬M b/\((∃c e fr,o=.cells c e fr/\gC=.cells c e (0,c.size+fr.2))\/(∃a l,o=.number a l/\gC=o)\/(∃es k,o=.map es k/\C.upd=false/\gC=o)\/
  ((∀c e fr,o≠ .cells c e fr)/\(∀a l,o≠ .number a l)/\(C.upd=true\/∀es k,o≠ .map es k)/\gC=.coro none)))\/
 (¬il C (fE D M) o o/\gC=.coro none)
theorem aia(C:cU)(D M:Nat->Prop)(b:Nat)(o:Obj):∃h,Fw C D M b o h:=by
 by_cases d:il C (fE D M) o o
 ·by_cases f:M b
  ·exact⟨o,.inl ⟨d,f,rfl⟩⟩
  ·cases o with
   |cells c e fr=>exact⟨_,.inr (.inl ⟨d,f,.inl ⟨c,e,fr,rfl,rfl⟩⟩)⟩
   |number a l=>exact⟨_,.inr (.inl ⟨d,f,.inr (.inl ⟨a,l,rfl,rfl⟩)⟩)⟩
   |map es k=>cases g:C.upd with|true=>exact⟨.coro none,.inr (.inl ⟨d,f,.inr (.inr (.inr ⟨Aa,Aa,.inl g,rfl⟩))⟩)⟩|false=>exact⟨_,.inr (.inl ⟨d,f,.inr (.inr (.inl ⟨es,k,rfl,g,rfl⟩))⟩)⟩
   | _=>exact⟨.coro none,.inr (.inl ⟨d,f,.inr (.inr (.inr ⟨Aa,Aa,.inr Aa,rfl⟩))⟩)⟩
 ·exact⟨_,.inr (.inr ⟨d,rfl⟩)⟩
theorem Fw.rel{C:cU}{D M:Nat->Prop}{b:Nat}{o f:Obj}(k:Fw C D M b o f)(g:C.upd=true->M b\/¬il C (fE D M) o o)(h:il C (fE D M) o o\/Lc o):il C (fE D M) f o:=by
 rcases k with⟨d,_,rfl⟩|⟨d,n,⟨c,e,fr,rfl,rfl⟩|⟨a,l,rfl,rfl⟩|⟨es,k,rfl,_,rfl⟩|⟨r,q,_,rfl⟩⟩|⟨d,rfl⟩
 ·exact d
 ·have m:=d;cases d with|cells _ j p=>exact .cells e j ⟨fun i x=>⟨Nat.zero_le _,Nat.lt_of_lt_of_le x.2 (Nat.le_add_left _ _)⟩,fun x=>(g x).elim (fun y=>absurd y n) (fun y=>absurd m y)⟩
 ·exact d
 ·exact d
 ·refine .qa ?_;cases d with|cells e _ _=>grind|number _ _=>grind|qa h=>exact h| _=>trivial
 ·exact .qa (h.resolve_left d)
theorem Fw.still{C:cU}{D M:Nat->Prop}{b:Nat}{o d:Obj}(k:Fw C D M b o d)(f:C.upd=true->M b\/¬il C (fE D M) o o)(j:¬M b):(C.upd=false/\∃c e fr,d=.cells c e fr/\∀i,i<c.size->zi fr i)\/(C.upd=false/\∃es k,d=.map es k)\/E9 d:=by
 rcases k with⟨_,h,_⟩|⟨g,_,⟨c,e,fr,rfl,rfl⟩|⟨a,l,rfl,rfl⟩|⟨es,k,rfl,f,rfl⟩|⟨_,_,_,rfl⟩⟩|⟨_,rfl⟩
 ·grind
 ·exact .inl ⟨by
   grind,c,e,_,rfl,fun i hi=>⟨Nat.zero_le _,Nat.lt_of_lt_of_le hi (Nat.le_add_right _ _)⟩⟩
 ·exact .inr (.inr (.number a l))
 ·grind
 ·exact .inr (.inr .coro)
 ·exact .inr (.inr .coro)
structure gW(C:cU)(D M:Nat->Prop)(w w0:World):Prop where
 size:w0.heap.size=w.heap.size
 drawn:w0.drawn=w.drawn
 os:w0.os=w.os
 obj:∀b o,w.heap[b]?=some o->∃gC,w0.heap[b]?=some gC/\Fw C D M b o gC
theorem HZ(C:cU)(D M:Nat->Prop)(w:World):∃w0,gW C D M w w0:=by obtain⟨f,a⟩:=Classical.skolem.1 fun b=>Classical.skolem.1 fun o=>aia C D M b o;refine⟨{w with heap:=w.heap.mapIdx f},Aa,rfl,rfl,fun b o h=>⟨f b o,?_,a b o⟩⟩;grind
theorem gW.rel{C:cU}{D M:Nat->Prop}(h:gW C D M w w0)(p:i7 C D M w)(v:∀g,g<=C.P.globals.size->D g)(m:C.upd=true->∀b,D b->M b\/∀o,w.heap[b]?=some o->¬il C (fE D M) o o)(T:Nat->Question->Nat):
 eN C ⟨w0.drawn,w.drawn,0,T⟩ (fE D M) {w0 with tape:=T} w:=by
 refine⟨?_,?_,?_,fun g h=>⟨rfl,v g h⟩,Nat.add_comm _ _,fun j q u=>absurd u (Nat.not_lt_zero _),by show w0.os.env=_;rw[h.os],rfl,?_⟩
 ·rintro b r ⟨rfl,hd⟩;obtain⟨o,d,n⟩:=p b hd;obtain⟨l,f,i⟩:=h.obj b o d;exact⟨l,o,f,d,i.rel (fun e=>(m e b hd).imp id fun y=>y o d) n⟩
 ·rintro a b r ⟨rfl,_⟩ ⟨rfl,_⟩;rfl
 ·rintro a a' b ⟨rfl,_⟩ ⟨h,_⟩;grind
 ·rintro b r ⟨rfl,hd⟩ t;obtain⟨o,d,n⟩:=p b hd;obtain⟨l,f,i⟩:=h.obj b o d;have f:({w0 with tape:=T}:World).heap[b]?=some l:=f;rw[f];rcases i.still (fun e=>(m e b hd).imp id fun y=>y o d) t with⟨s,c,e,fr,rfl,x⟩|⟨s,es,k,rfl⟩|hd
  ·grind
  ·grind
  grind
theorem gW.cells{C:cU}{D M:Nat->Prop}{w w0:World}(h:gW C D M w w0)(r:i7 C D M w){b:Nat}(hd:D b){c:Array Value}{e:TypeId}{fr:Nat×Nat}(f:w.heap[b]?=some (.cells c e fr)):
 ∃n2,w0.heap[b]?=some (.cells c e n2)/\(M b->n2=fr):=by
 obtain⟨o,i,p⟩:=r b hd;rw[f]at i;cases i;have j:il C (fE D M) (.cells c e fr) (.cells c e fr):=p.resolve_right fun x=>x;obtain⟨t,g,n⟩:=h.obj b _ f;rcases n with⟨_,_,rfl⟩|⟨_,m,⟨v,u,aY,d,rfl⟩|⟨a,l,d,_⟩|⟨es,k,d,_,_⟩|⟨q,_,_,_⟩⟩|⟨s,_⟩
 ·exact⟨fr,g,fun _=>rfl⟩
 ·cases d;exact⟨_,g,fun x=>absurd x m⟩
 ·cases d
 ·cases d
 ·exact absurd rfl (q _ _ _)
 ·exact absurd j s
theorem aib{P:Program}{upd:Bool}(p:(ei P upd).Good){fn:Func}{c:Code}(m:P.funcs[f]?=some fn)(k:i6 P upd fn=true)(n:fn.body=some c)
 {D M:Nat->Prop}  (q:i7 (ei P upd) D M w) (l:∀g,g<=P.globals.size->D g)
 {args:Array Value} (j:upd=true->∀b,D b->M b) (o:a3 (fE D M) args args) {R:Ending->World->Prop} (r:∀e w,R e w->e≠ .outgrown)
  (t:gW (ei P upd) D M w w0) (i:∀T,Calls (ai P upd) f args {w0 with tape:=T} R) (main:Bool) (base:List Frame):
 jO P main (fun b=>D b/\¬M b) (fun X=>∃ρ fr w1 T e,R e w1/\fr.fn=f/\fr.leaving (ai P upd) w1 e/\zr (ei P upd) (fun b=>D b/\¬M b) T (fE D M) w.heap.size base ρ fr [] w1 X)
  ⟨bb (Frame.enter P f args .normal) base,w,M⟩:=by
 have s:(ei P upd).P.funcs[f]?=some fn:=bl m k;exact ahR (C:=ei P upd) (w0:=w0) (mO:=w) p s n o (t.rel q l fun e b hd=>.inl (j e b hd)) (fun b h=>h)
  (fun a b h=>by by_cases d:M b;exact .inr d;exact .inl ⟨h.2,d⟩) r i main base
theorem zr.closed{C:cU}{K:Nat->Prop}{T:Nat->Question->Nat}{c ρ:ay}{n0:Nat}{base:List Frame}{X:a6}(h:zr C K T c n0 base ρ fr cs w X)(M:Nat->Prop):
 i7 C (fun b=>∃a,ρ.rel a b) M X.w:=h.world.closed M
end az
open RowKit
structure uJ(P:Program)(t e:TypeId)(z:Value)(size bytes:Nat):Prop where
 ht:P.underlying t=some (.slice e)
 hi:(P.info? e).map (fun i=>(i.zero,i.size,i.bytes))=some (some z,size,bytes)
 Ql:z.cells.size=size
 hsz:0<size
variable {P:Program}{e t:TypeId}{z:Value}{size:Nat}{ops:Array Oper}{Q:Exit->Act->World->Prop}
theorem H5{bytes:Nat}(E:uJ P t e z size bytes)(w:World){rest:List Oper}{o:Oper}{a:Act}(k:o.guard=none)(s x:Operand)
 (y:o.op=.call {callee:=.builtin .append,args:=#[s,x],argTypes:=#[t,t]})
 (base:Nat) (v:Value) (n:Nat) (xs:List Value) (r:a.eval s=v) (C:w.ownsRow base e size v n xs)
 (b m c:Nat) (news:List Value) (q:a.eval x=.slice (some ⟨b,0,none⟩) m c) (hl:news.length=m*size) (F:∀j u,news[j]?=some u->w.cell? ⟨b,j,none⟩=some u) (B:∀u∈news,u.oneCell'=true)
 (A:0<m) (D:(n+m)*bytes<=140737488355328) (J:n+m<=9223372036854775807) (d:base<=w.heap.size) (H:Nat) (l:w.heap.size=H)
 (h:∀g cap w',w'.ownsRow base e size (.slice (some ⟨g,0,none⟩) (n+m) cap) (n+m) (xs++news)->w.grownBy w' v.ownBlock->(v.ownBlock=some g\/g=H)->g<w'.heap.size->wpList P ops Q rest (a.put o.dst (.slice (some ⟨g,0,none⟩) (n+m) cap)) w'):
 wpList P ops Q (o::rest) a w:=by
 obtain⟨i,hi,p,hsz,f⟩:=info_parts E.hi;exact wpList_append_lies w k s x t y base e i z size bytes E.ht hi p hsz f E.Ql E.hsz v n xs r C ⟨b,0,none⟩ m c news q hl (fun j u I=>by simp_all[Addr.add_lit]) B A HX D d H l h
theorem LF{bytes:Nat}(E:uJ P t e z size bytes)(w:World){o:Oper}{a:Act}{K:Act->World->Prop}{F:Prop}(k:o.guard=none)(s x:Operand)
 (y:o.op=.call {callee:=.builtin .append,args:=#[s,x],argTypes:=#[t,t]})
 (base:Nat) (v:Value) (n:Nat) (xs:List Value) (r:a.eval s=v) (C:w.ownsRow base e size v n xs)
 (b m c:Nat) (news:List Value) (q:a.eval x=.slice (some ⟨b,0,none⟩) m c) (hl:news.length=m*size) (I:∀j u,news[j]?=some u->w.cell? ⟨b,j,none⟩=some u) (B:∀u∈news,u.oneCell'=true)
 (A:0<m) (D:(n+m)*bytes<=140737488355328) (L:n+m<=9223372036854775807) (d:base<=w.heap.size) (H:Nat) (l:w.heap.size=H)
 (h:∀g cap w',w'.ownsRow base e size (.slice (some ⟨g,0,none⟩) (n+m) cap) (n+m) (xs++news)->w.grownBy w' v.ownBlock->(v.ownBlock=some g\/g=H)->g<w'.heap.size->K (a.put o.dst (.slice (some ⟨g,0,none⟩) (n+m) cap)) w'):
 if Region.wanted o (yielded ops a.tmps)=true then Oper.wp P o a w K Q else F:=by
 obtain⟨i,hi,p,hsz,f⟩:=info_parts E.hi;exact step_append_lies w k s x t y base e i z size bytes E.ht hi p hsz f E.Ql E.hsz v n xs r C ⟨b,0,none⟩ m c news q hl (fun j u J=>by simp_all[Addr.add_lit]) B A HX D d H l h
variable {cap g n:Nat}{w:World}{xs:List Value}
theorem Xl{base:Nat}(h:w.ownsRow base e size (.slice (some ⟨g,0,none⟩) n cap) n xs)(k:Nat)(f:k<=n):w.ownsRow base e size (.slice (some ⟨g,0,none⟩) k cap) k (xs.take (k*size)):=by
 obtain⟨m,l⟩:=h;rcases l with⟨h0,_⟩|⟨g',cap',bp,a,j,i,o,c,b,ht⟩
 ·grind
 ·simp at a;obtain⟨rfl,rfl⟩:=a;have d:k*size<=n*size:=Nat.mul_le_mul_right _ f;refine⟨AU,.inr ⟨g,cap,bp,rfl,j,i,Ay,c,b,?_⟩⟩;grind
def kn(l:List (Int×Int)):List Value:=l.flatMap fun t=>[.int .i64 t.1,.int .i64 t.2]
theorem Xm(l:List (Int×Int))(t:Int×Int):kn l++[.int .i64 t.1,.int .i64 t.2]=kn (l++[t]):=by simp[kn]
theorem Xn(l:List (Int×Int))(i:Nat)(hi:i<l.length):(kn l)[i*2]?=some (.int .i64 l[i].1)/\(kn l)[i*2+1]?=some (.int .i64 l[i].2):=by induction l generalizing i with|nil=>grind|cons t r a=>cases i with|zero=>simp[kn]|succ i=>grind[kn]
theorem aig(l:List (Int×Int))(k:Nat):(kn l).take (k*2)=kn (l.take k):=by induction k generalizing l with|zero=>simp[kn]|succ k a=>cases l with|nil=>grind|cons t r=>grind[kn]
theorem uK{base:Nat}(h:w.ownsRow base e size (.slice (some ⟨g,0,none⟩) n cap) n xs)(j:Nat)(u:Value)(a:xs[j]?=some u):w.cell? ⟨g,j,none⟩=some u:=by have:=h.cells (g:=g) rfl j u a;rwa[Addr.add_lit,Nat.zero_add]at this
variable {v:Value}
theorem fh.AP{base:Nat}{l:List (Int×Int)}(h:w.ownsRow base e 2 v l.length (kn l))(hl:l.length<=9223372036854775807):fh w v l:=by
 have a:=h;rcases a.2 with⟨rfl,h0⟩|⟨g,cap,bp,rfl,b⟩
 ·grind[bd.nil]
 ·refine⟨_,cap,rfl,hl,fun i hi=>⟨g,0,rfl,?_,?_⟩⟩
  ·simp;grind[uK,Xn]
  ·simp;exact uK h _ _ (Xn l i hi).2
theorem s4{base:Nat}(h:w.ownsRow base e size v n xs):∃a c,v=.slice a n c:=by
 rcases h.2 with⟨rfl,rfl⟩|⟨g,cap,bp,rfl,-⟩
 ·grind
 grind
variable {w':World}
theorem aih{base B:Nat}(h:w.ownsRow base e size v n xs)(b:Below B w w')(a:∀g,v.ownBlock=some g->g<B):w'.ownsRow base e size v n xs:=by
 refine⟨h.1,?_⟩;rcases h.2 with f|⟨g,cap,bp,rfl,c,d,rest⟩
 ·grind
 ·refine .inr ⟨g,cap,bp,rfl,c,?_,rest⟩;rw[b.block g (a g rfl)];grind
theorem FA{base:Nat}(h:w.ownsRow base e size v n xs)(b:Below w.heap.size w w'):w'.ownsRow base e size v n xs:=
 aih h b (fun g a=>(h.lt g a).2)
variable {T:TypeId}{b:Nat}{cs:Array Value}
theorem af.grown{row:Option Nat}(h:af w b cs T)(c:w.grownBy w' row)(a:∀g,row=some g->b≠g):af w' b cs T:=by unfold af at *;rw[c.block b (af.lt h) AU];exact h
theorem Xo{x y:Value}(h:af w b #[x,y] T):∀j u,([x,y]:List Value)[j]?=some u->w.cell? ⟨b,j,none⟩=some u:=by intro j u a;rw[h.bT.1 j];grind
theorem Qn(a b:Int):∀u∈([.int .i64 a,.int .i64 b]:List Value),u.oneCell'=true:=by intro u c;simp at c;rcases c with rfl|rfl<;>rfl
theorem LP{bytes:Nat}(E:uJ P t e z size bytes)(w:World){rest:List Oper}{o:Oper}{a:Act}(r:o.guard=none)(l c:Operand)
 (d:o.op=Op.makeSlice t l c) (h kc:IntKind) (n:Nat) (hl:a.eval l=.int h n) (s:a.eval c=.int kc n) (x:bytes*n<=281474976710656) (y:n<=9223372036854775807)
 (hK:∀w' bp,af w' w.heap.size bp e->bp.size=n*size->Below w.heap.size w w'->wpList P ops Q rest (a.put o.dst (.slice (some ⟨w.heap.size,0,none⟩) n n)) w'):
 wpList P ops Q (o::rest) a w:=by
 obtain⟨i,hi,m,hsz,v⟩:=info_parts E.hi;refine wpList_make_full w r l c t d w.heap.size e i z size E.ht hi m hsz h kc _ _ n hl s rfl rfl AU HX Jr ?_;intro w' u b;rcases u.2 with⟨h0,_⟩|⟨g,cap,bp,f,_,j,_,_,p,_⟩
 ·grind
 ·simp at f;obtain⟨rfl,rfl⟩:=f;exact hK w' bp j p ⟨b.os,b.tape,b.output,b.size,fun k q=>b.block k q Aa⟩
theorem bd.shape{ar:Type}{b:Nat}{R:World->(Nat->Option Value)->ar->Prop}{xs:List ar}(h:bd w b R v xs):∃a cap,v=.slice a xs.length cap/\xs.length<=9223372036854775807:=by obtain⟨a,cap,c,hl,-⟩:=h;grind
def fT(T:TypeId)(w:World)(v:Value):Prop:=∀b off n c,v=.slice (some ⟨b,off,none⟩) n c->∃k,w.shape? b=some (T,k)
theorem fT.box(h:af w b cs T)(off n c:Nat):fT T w (.slice (some ⟨b,off,none⟩) n c):=by intro f g a d e;simp at e;simp_all[af,World.shape?]
theorem fT.AP{base:Nat}(h:w.ownsRow base T size v n xs):fT T w v:=by
 rcases h.2 with⟨rfl,_⟩|⟨g,cap,bp,rfl,_,a,_⟩
 ·intro b off n c e;grind
 simp_all[fT.box,af]
theorem fT.call(h:fT T w v)(f:Below w.heap.size w w'):fT T w' v:=by
 intro b off n c e;obtain⟨k,d⟩:=h b off n c e;refine⟨k,?_⟩;have a:b<w.heap.size:=by grind[World.shape?]
 simp[World.shape?]at d⊢;rw[f.block b a];exact d
theorem fT.set(h:fT T w v)(a:Addr)(u:Value):fT T (w.setCell a u) v:=by intro b off n c e;obtain⟨k,d⟩:=h b off n c e;refine⟨k,?_⟩;simp[World.shape?,World.setCell,Array.getElem?_modify]at d⊢;grind
theorem fT.grown(h:fT T w v){row:Option Nat}(g:w.grownBy w' row)(f:∀b off n c,v=.slice (some ⟨b,off,none⟩) n c->row≠some b):fT T w' v:=by
 intro b off n c e;obtain⟨k,d⟩:=h b off n c e;refine⟨k,?_⟩;have a:b<w.heap.size:=by grind[World.shape?]
 simp[World.shape?]at d⊢;rw[g.block b a AU];exact d
def FE(cs:Array Value)(l:List (Int×Int))(k:Nat):Prop:=∀j(h:j<l.length),j<k->cs[j*2]?=some (.int .i64 l[j].1)/\cs[j*2+1]?=some (.int .i64 l[j].2)
theorem FE.step{cs:Array Value}{l:List (Int×Int)}{k:Nat}(h:FE cs l k)(c:k<l.length)(b:cs.size=l.length*2):
 FE ((cs.setIfInBounds (k*2) (.int .i64 l[k].1)).setIfInBounds (k*2+1) (.int .i64 l[k].2)) l (k+1):=by
 intro j a d;by_cases e:j=k
 ·grind
 ·have:=h j a Ay;grind
theorem fh.LR{l:List (Int×Int)}(h:af w b cs T)(hl:l.length<=9223372036854775807)(a:FE cs l l.length)(cap:Nat):fh w (.slice (some ⟨b,0,none⟩) l.length cap) l:=by
 refine⟨_,cap,rfl,hl,fun i hi=>⟨b,0,rfl,?_,?_⟩⟩
 ·simp;rw[h.bT.1];exact(a i hi hi).1
 ·simp;rw[h.bT.1];exact(a i hi hi).2
namespace az
def aj0(Q:Program)(main:Bool)(K:Nat->Prop)(post:a6->Prop)(Y X:a6):Prop:=
 ¬post X/\∃w' g1 w1 es,kl K X w'/\stepG Q main X.g w'=.go g1 w1 es/\Y=⟨g1,w1,grown X.mine w' w1⟩
variable {K:Nat->Prop}
theorem jO.acc{Q:Program}{main:Bool}{post:a6->Prop}{X:a6}(h:jO Q main K post X):Acc (aj0 Q main K post) X:=by induction h with|done h=>exact⟨_,fun Y a=>absurd h a.1⟩|step _ _ b=>refine⟨_,fun Y a=>?_⟩;obtain⟨_,w',g1,w1,es,d,c,rfl⟩:=a;grind
theorem jO.next{Q:Program}{main:Bool}{post:a6->Prop}{X:a6}(h:jO Q main K post X):
 post X\/∀w',kl K X w'->∃g1 w1 es,stepG Q main X.g w'=.go g1 w1 es/\P7 K X.mine w' g1 w1 es/\jO Q main K post ⟨g1,w1,grown X.mine w' w1⟩:=by
 cases h with|done h=>grind|step ok h=>refine .inr fun w' a=>?_;obtain⟨g1,w1,es,b,c⟩:=ok w' a;grind
theorem kl.Fz{X:a6}{w w1:World}(h:kl K X w)(d:∀b,K b\/X.mine b->w1.heap[b]?=w.heap[b]?)(c:w.heap.size<=w1.heap.size)(e:w1.os.env=w.os.env):kl K X w1:=
 ⟨fun b a=>(d b a).trans (h.heap b a),Nat.le_trans h.size c,e.trans h.env⟩
theorem kl.refl(K:Nat->Prop)(X:a6):kl K X X.w:=⟨fun _ _=>rfl,Nat.le_refl _,rfl⟩
def zH{ar:Type}(r:ar->ar->Prop)(aW l:List ar):Prop:=∃i x y,l[i]?=some x/\r y x/\aW=l.set i y
theorem aj1{ar:Type}{r:ar->ar->Prop}{a:ar}(d:Acc r a):∀{l:List ar},Acc (zH r) l->Acc (zH r) (a::l):=by induction d with|intro a _ f=>intro l hl;induction hl with|intro l c e=>refine⟨_,?_⟩;rintro g ⟨i,x,y,hi,b,rfl⟩;cases i with|zero=>simp at hi;subst hi;exact f y b ⟨l,c⟩|succ i=>simp at hi;exact e _ ⟨i,x,y,hi,b,rfl⟩
theorem aj2{ar:Type}{r:ar->ar->Prop}:∀(l:List ar),(∀x∈l,Acc r x)->Acc (zH r) l:=by intro l;induction l with|nil=>intro _;exact⟨_,fun c⟨i,x,y,hi,_⟩=>AU⟩|cons a l b=>grind[aj1]
end az
namespace bu
open Conc ConcM az
structure fG where
 av:Type
 aT:Type
 be:aT->Nat
 sk:aT->List av->Prop
 dN:av->aT->aT->Prop
 K:Nat->Prop
 hV:Nat->Prop
 wb:aT->World->Prop
 cD:av->Bool
 deaf:av->Nat
 past:av->Bool
 Left:av->Prop
 zero:av->Prop
 py:av->aT->Prop
 hU:Loc->Prop
 fk:Loc->Prop
 aC:Addr
 wg:Addr
 qr:av->Goroutine->Goroutine->Prop
structure fG.Good(Z:fG):Prop where
 refl:∀ ℓ γ,Z.dN ℓ γ γ
 trans:∀ ℓ a b c,Z.dN ℓ a b->Z.dN ℓ b c->Z.dN ℓ a c
 mq:∀ ℓ γ ae,Z.dN ℓ γ ae->ae=γ\/Z.be ae<Z.be γ
 mt:∀γ w w',(∀b,Z.hV b->w'.heap[b]?=w.heap[b]?)->Z.wb γ w->Z.wb γ w'
 og:∀b,Z.K b->¬Z.hV b
 one:∀γ(aU:List Z.av)(i j:Nat) a b,Z.sk γ aU->aU[i]?=some a->aU[j]?=some b->Z.cD a=true->Z.cD b=true->i=j
 pq:∀γ aU,Z.sk γ aU->∃(j:Nat)(l:Z.av),aU[j]?=some l/\¬Z.Left l/\¬Z.py l γ
 zero:∀γ(aU:List Z.av)(j:Nat) l,Z.sk γ aU->aU[j]?=some l->Z.zero l->j=0
 FW:∀l,Z.hU l->∃b,fF l=some b/\Z.hV b
 C1:∀l,Z.fk l->∃b,fF l=some b/\Z.hV b
 wa:∀l,Z.hU l->¬Z.fk l
section
variable (Z:fG)
def hX(l:Z.av)(γ:Z.aT):Prop:=∃(aU:List Z.av)(i:Nat),aU[i]?=some l/\Z.sk γ aU
structure dX(l:Z.av)(γ:Z.aT)(X:a6)(w:World):Prop where
 rely:kl Z.K X w
 mt:Z.wb γ w
 sees:hX Z l γ
 later:OsLater X.w.os w.os
 output:w.output=X.w.output
 tape:w.tape=X.w.tape
def yy(e:Event):Prop:=e.loc=.mark .disable\/e.loc=.mark .enable\/(∃a,e.loc=.mark (.acquire a))\/(∃a,e.loc=.mark (.releaseMerge a))\/(e.write=true/\∃b,fF e.loc=some b/\Z.hV b)
def C2(l:Z.av)(g g1:Goroutine)(es:Array Event):Prop:=(∃e∈es,yy Z e)\/Z.qr l g g1
def we(l:Z.av)(mine:Nat->Prop)(d:Nat)(e:Event):Prop:=
 match e.loc with
 | .cell a=>(e.sync=false/\((Z.K a.block/\e.write=false)\/mine a.block\/(Z.hU (.cell a)/\Z.cD l=true))/\Z.past l=false)\/(e.sync=true/\Z.fk (.cell a)/\0<d)
 | .obj r=>e.sync=false/\((Z.K r/\e.write=false)\/mine r)/\Z.past l=false
 | .mark m=>A5 m\/(Z.zero l/\∃a,Z.fk (.cell a)/\(m=.read a\/m=.write a))
 | .output=>True
 | .goroutines=>False
def qs(l:Z.av)(mine:Nat->Prop):Nat->List Event->Prop
 | _,[]=>True
 |d,e::r=>we Z l mine d e/\qs l mine (A6 d e) r
structure lB(mine:Nat->Prop)(w' w1:World):Prop where
 kept:∀b,b<w'.heap.size->¬mine b->¬Z.hV b->w1.heap[b]?=w'.heap[b]?
 size:w'.heap.size<=w1.heap.size
 os:OsLater w'.os w1.os
 output:w1.output=w'.output
 tape:w1.tape=w'.tape
structure Yt(l:Z.av)(X:a6)(w':World)(g1:Goroutine)(w1:World)(es:Array Event):Prop where
 run:g1.status=.running
 keep:lB Z X.mine w' w1
 kp:∀b,b<w'.heap.size->Z.hV b->w1.heap[b]?=w'.heap[b]?
 evs:qs Z l (grown X.mine w' w1) (Z.deaf l) es.toList
 low:¬C2 Z l X.g g1 es
def C3(l:Z.av)(γ:Z.aT)(l1:Z.av)(bA:Z.aT):Prop:=
 Z.be bA<Z.be γ/\∀(aU:List Z.av)(i:Nat),aU[i]?=some l->Z.sk γ aU->Z.sk bA (aU.set i l1)/\∀(j:Nat)(k3:Z.av),j≠i->aU[j]?=some k3->Z.dN k3 γ bA
def FX(m:Mark):Event:=⟨.mark m,false,true⟩
def xn(l l1:Z.av)(mine:Nat->Prop)(es:Array Event):Prop:=
 (Z.cD l1=Z.cD l/\Z.past l1=Z.past l/\Z.deaf l1=deafBehind (Z.deaf l) es/\qs Z l mine (Z.deaf l) es.toList)\/
 (es=#[FX (.acquire Z.aC)]/\Z.deaf l=0/\Z.deaf l1=0/\Z.cD l=false/\Z.cD l1=true/\Z.past l1=Z.past l)\/
 (es=#[FX (.releaseMerge Z.aC)]/\Z.deaf l=0/\Z.deaf l1=0/\Z.cD l=true/\Z.cD l1=false/\Z.past l1=Z.past l)\/
 (es=#[FX (.releaseMerge Z.wg)]/\Z.deaf l=0/\Z.deaf l1=0/\Z.cD l1=Z.cD l/\Z.past l1=true)
structure Yu(Q:Program)(l:Z.av)(γ:Z.aT)(X:a6)(w':World)(g1:Goroutine)(w1:World)(es:Array Event)(l1:Z.av)(bA:Z.aT):Prop where
 run:g1.status=.running
 Mh:C2 Z l X.g g1 es
 keep:lB Z X.mine w' w1
 mt:Z.wb bA w1
 A8:C3 Z l γ l1 bA
 says:xn Z l l1 (grown X.mine w' w1) es
 IG:mayWake Q X.g=true\/∀k3,Z.py k3 γ->Z.py k3 bA
structure Q_(l:Z.av)(γ:Z.aT)(X:a6)(w':World)(g1 child:Goroutine)(w1:World)(es:Array Event)(l1:Z.av)(bA:Z.aT)(lc:Z.av):Prop where
 run:g1.status=.running
 Yv:child.status=.running
 keep:lB Z X.mine w' w1
 mt:Z.wb bA w1
 be:Z.be bA<Z.be γ
 A8:∀(aU:List Z.av),aU[0]?=some l->Z.sk γ aU->Z.sk bA (aU.set 0 l1++[lc])/\∀(j:Nat)(k3:Z.av),j≠0->aU[j]?=some k3->Z.dN k3 γ bA
 evs:qs Z l (grown X.mine w' w1) 0 es.toList
 deaf:Z.deaf l=0/\deafBehind 0 es=0/\Z.deaf l1=0/\Z.deaf lc=0
 cD:Z.cD l1=Z.cD l/\Z.cD lc=false
 past:Z.past l1=Z.past l/\Z.past lc=false
 IG:∀k3,Z.py k3 γ->Z.py k3 bA
 Ra:¬Z.Left l1/\¬Z.Left lc
def Comes(Q:Program)(Stop:Bool->Z.av->a6->Prop)(m:Bool)(l:Z.av)(γ:Z.aT)(X:a6)(w':World)(c:Z.av×Z.aT×Z.av):Prop:=
 (∃g1 w1 es,stepG Q m X.g w'=.go g1 w1 es/\Yt Z l X w' g1 w1 es)\/
 (∃g1 w1 es,stepG Q m X.g w'=.go g1 w1 es/\Yu Z Q l γ X w' g1 w1 es c.1 c.2.1/\(Z.Left c.1->m=false/\Stop m c.1 ⟨g1,w1,grown X.mine w' w1⟩))\/
 (stepG Q m X.g w'=.go {X.g with status:=.blocked} w' #[]/\X.g.offers=none/\Z.py l γ/\¬Z.qr l X.g {X.g with status:=.blocked})\/
 (m=true/\∃g1 child w1 es,stepG Q m X.g w'=.spawn g1 child w1 es/\Q_ Z l γ X w' g1 child w1 es c.1 c.2.1 c.2.2)
inductive bh(Q:Program)(Stop:Bool->Z.av->a6->Prop):Bool->Z.av->Z.aT->a6->Prop
 |stop {m:Bool} {l:Z.av} {γ:Z.aT} {X:a6} (h:Stop m l X):bh Q Stop m l γ X
 |step {m:Bool} {l:Z.av} {γ:Z.aT} {X:a6} (hs:X.g.status=.running) (ch:World->Z.aT->Z.av×Z.aT×Z.av)
  (ok:∀w' ae,Z.dN l γ ae->dX Z l ae X w'->Comes Z Q Stop m l ae X w' (ch w' ae))
  (hq:∀w' ae g1 w1 es,Z.dN l γ ae->dX Z l ae X w'->stepG Q m X.g w'=.go g1 w1 es->g1.status=.running->¬C2 Z l X.g g1 es->bh Q Stop m l ae ⟨g1,w1,grown X.mine w' w1⟩)
  (he:∀w' ae g1 w1 es,Z.dN l γ ae->dX Z l ae X w'->stepG Q m X.g w'=.go g1 w1 es->C2 Z l X.g g1 es->bh Q Stop m (ch w' ae).1 (ch w' ae).2.1 ⟨g1,w1,grown X.mine w' w1⟩)
  (hm:∀w' ae g1 child w1 es,Z.dN l γ ae->dX Z l ae X w'->stepG Q m X.g w'=.spawn g1 child w1 es->bh Q Stop m (ch w' ae).1 (ch w' ae).2.1 ⟨g1,w1,grown X.mine w' w1⟩)
  (hc:∀w' ae g1 child w1 es,Z.dN l γ ae->dX Z l ae X w'->stepG Q m X.g w'=.spawn g1 child w1 es->bh Q Stop false (ch w' ae).2.2 (ch w' ae).2.1 ⟨child,w1,fun _=>False⟩):bh Q Stop m l γ X
end
section
variable {Z:fG} {Q:Program} {Stop:Bool->Z.av->a6->Prop} {m:Bool} {l:Z.av} {γ:Z.aT} {X:a6}
inductive iq(Q:Program)(Stop:Bool->Z.av->a6->Prop)(m:Bool)(l:Z.av)(γ:Z.aT)(X:a6)(w':World):Prop
 |quiet {g1:Goroutine} {w1:World} {es:Array Event} (hs:stepG Q m X.g w'=.go g1 w1 es) (hq:Yt Z l X w' g1 w1 es) (h:bh Z Q Stop m l γ ⟨g1,w1,grown X.mine w' w1⟩)
 |turn {g1:Goroutine} {w1:World} {es:Array Event} {l1:Z.av} {bA:Z.aT} (hs:stepG Q m X.g w'=.go g1 w1 es) (ht:Yu Z Q l γ X w' g1 w1 es l1 bA) (hl:Z.Left l1->m=false/\Stop m l1 ⟨g1,w1,grown X.mine w' w1⟩) (h:bh Z Q Stop m l1 bA ⟨g1,w1,grown X.mine w' w1⟩)
 |wait (hs:stepG Q m X.g w'=.go {X.g with status:=.blocked} w' #[]) (ho:X.g.offers=none) (hw:Z.py l γ) (al:¬Z.qr l X.g {X.g with status:=.blocked})
 |born {g1 child:Goroutine} {w1:World} {es:Array Event} {l1:Z.av} {bA:Z.aT} {lc:Z.av} (hm:m=true) (hs:stepG Q m X.g w'=.spawn g1 child w1 es) (hb:Q_ Z l γ X w' g1 child w1 es l1 bA lc)
  (h:bh Z Q Stop m l1 bA ⟨g1,w1,grown X.mine w' w1⟩) (hc:bh Z Q Stop false lc bA ⟨child,w1,fun _=>False⟩)
open Classical in
theorem bh.mk(b:X.g.status=.running)(h:∀w' a,Z.dN l γ a->dX Z l a X w'->iq Q Stop m l a X w'):bh Z Q Stop m l γ X:=by
 have pick:∀w' a,∃c:Z.av×Z.aT×Z.av,Z.dN l γ a->dX Z l a X w'->Comes Z Q Stop m l a X w' c/\
  (∀g1 w1 es,stepG Q m X.g w'=.go g1 w1 es->g1.status=.running->¬C2 Z l X.g g1 es->bh Z Q Stop m l a ⟨g1,w1,grown X.mine w' w1⟩)/\
  (∀g1 w1 es,stepG Q m X.g w'=.go g1 w1 es->C2 Z l X.g g1 es->bh Z Q Stop m c.1 c.2.1 ⟨g1,w1,grown X.mine w' w1⟩)/\
  (∀g1 child w1 es,stepG Q m X.g w'=.spawn g1 child w1 es->bh Z Q Stop m c.1 c.2.1 ⟨g1,w1,grown X.mine w' w1⟩/\bh Z Q Stop false c.2.2 c.2.1 ⟨child,w1,fun _=>False⟩):=by
  intro w' a;by_cases i:Z.dN l γ a/\dX Z l a X w'
  ·cases h w' a i.1 i.2 with|quiet b q h=>exact⟨(l,a,l),fun _ _=>⟨.inl AU,AU,AU,AU⟩⟩|turn b ht hl h=>exact⟨(_,_,l),fun _ _=>⟨.inr (.inl ⟨_,_,_,b,ht,hl⟩),fun g1 w1 es e _ n=>(by rw[b]at e;cases e;exact absurd ht.Mh n),AU,AU⟩⟩|wait b r p o=>exact⟨(l,a,l),fun _ _=>⟨.inr AU,AU,fun g1 w1 es e hl=>(by rw[b]at e;cases e;exact hl.elim AU AU),AU⟩⟩|born j b k h s=>exact⟨(_,_,_),fun _ _=>⟨.inr (.inr (.inr ⟨j,_,_,_,_,b,k⟩)),AU,AU,AU⟩⟩
  ·exact⟨(l,a,l),AU⟩
 obtain⟨ch,d⟩:=Classical.skolem.1 fun x:World×Z.aT=>pick x.1 x.2;exact .step b (fun w' a=>ch (w',a)) AU (fun w' a g1 w1 es g f=>(d (w',a) g f).2.1 g1 w1 es) (fun w' a g1 w1 es g f=>(d (w',a) g f).2.2.1 g1 w1 es)
  (fun w' a g1 c w1 es g f e=>((d (w',a) g f).2.2.2 g1 c w1 es e).1) AU
theorem bh.next(h:bh Z Q Stop m l γ X):Stop m l X\/(X.g.status=.running/\∀w' a,Z.dN l γ a->dX Z l a X w'->iq Q Stop m l a X w'):=by
 cases h with
 |stop h=>grind
 |step i ch ok j k o p=>
  refine .inr ⟨i,fun w' a d b=>?_⟩;rcases ok w' a d b with⟨g1,w1,es,e,q⟩|⟨g1,w1,es,e,q,g⟩|⟨e,f,q,n⟩|⟨em,g1,c,w1,es,e,q⟩
  ·exact .quiet e q (j w' a g1 w1 es d b e q.run q.low)
  ·exact .turn e q g (k w' a g1 w1 es d b e q.Mh)
  ·exact .wait e f q n
  ·exact .born em e q AU AU
theorem bh.k5(G:Z.Good)(h:bh Z Q Stop m l γ X){e:Z.aT}(d:Z.dN l γ e):bh Z Q Stop m l e X:=by
 cases h with
 |stop h=>exact .stop h
 |step f ch ok g j i k=>
  exact .step f ch (fun w' a b=>ok w' a (G.trans _ _ _ _ d b)) (fun w' a g1 w1 es b=>g w' a g1 w1 es (G.trans _ _ _ _ d b)) (fun w' a g1 w1 es b=>j w' a g1 w1 es (G.trans _ _ _ _ d b))
   (fun w' a g1 c w1 es b=>i w' a g1 c w1 es (G.trans _ _ _ _ d b)) (fun w' a g1 c w1 es b=>k w' a g1 c w1 es (G.trans _ _ _ _ d b))
def Mi(Z:fG)(Q:Program)(Stop:Bool->Z.av->a6->Prop)(y x:Bool×Z.av×Z.aT×a6):Prop:=
 ¬Stop x.1 x.2.1 x.2.2.2/\y.1=x.1/\y.2.1=x.2.1/\y.2.2.1=x.2.2.1/\∃w' g1 w1 es,dX Z x.2.1 x.2.2.1 x.2.2.2 w'/\stepG Q x.1 x.2.2.2.g w'=.go g1 w1 es/\g1.status=.running/\¬C2 Z x.2.1 x.2.2.2.g g1 es/\y.2.2.2=⟨g1,w1,grown x.2.2.2.mine w' w1⟩
theorem bh.acc(G:Z.Good)(h:bh Z Q Stop m l γ X):Acc (Mi Z Q Stop) (m,l,γ,X):=by induction h with|stop h=>exact⟨_,fun y a=>absurd h a.1⟩|step p ch ok q s r t o _ _ _=>refine⟨_,fun y a=>?_⟩;obtain⟨_,f,e,d,w',g1,w1,es,g,b,hrun,hl,c⟩:=a;obtain⟨n,k,j,i⟩:=y;simp only at f e d c;subst f e d c;exact o w' _ g1 w1 es (G.refl _ _) g b hrun hl
end
open ConcN
def xo(P:Program)(m:Machine)(t:Trace)(q:Machine->Trace->Prop):Prop:=∃n m' cM,runNT P n m t=(.next m',cM)/\q m' cM
theorem xo.refl{P:Program}{m:Machine}{t:Trace}{q:Machine->Trace->Prop}(h:q m t):xo P m t q:=⟨0,m,t,rfl,h⟩
theorem xo.step{P:Program}{m a:Machine}{t:Trace}{ops:Array MemOp}{q:Machine->Trace->Prop}(e:stepT P m=(.next a,ops))(h:xo P a (t++ops) q):xo P m t q:=
 let⟨n,b,c,f,d⟩:=h
 ⟨n+1,b,c,by grind[runNT_succ_next],d⟩
theorem Yw{P:Program}:∀(n:Nat){k:Nat}{m a:Machine}{t cM:Trace},runNT P n m t=(.next a,cM)->runNT P (n+k) m t=runNT P k a cM
 |0,k,m,a,t,cM,h=>by simp_all[runNT]
 |n+1,k,m,a,t,cM,h=>by rw[show n+1+k=(n+k)+1 from Ay];cases b:stepT P m with|mk s ops=>cases s with|next m1=>rw[runNT_succ_next b]at h⊢;exact Yw n h|ended o w=>simp[runNT,b]at h
theorem xo.bind{P:Program}{m:Machine}{t:Trace}{q a:Machine->Trace->Prop}(h:xo P m t q)(f:∀b cM,q b cM->xo P b cM a):xo P m t a:=by obtain⟨n,m1,e,l,i⟩:=h;obtain⟨k,c,d,j,g⟩:=f m1 e i;exact⟨n+k,c,d,by grind[Yw],g⟩
theorem ake{P:Program}{ar:Type}{r:ar->ar->Prop}(wf:WellFounded r)(Inv:ar->Machine->Trace->Prop)(q:Machine->Trace->Prop)
 (h:∀a m t,Inv a m t->q m t\/∃b ops c,stepT P m=(.next b,ops)/\r c a/\Inv c b (t++ops)):∀a m t,Inv a m t->xo P m t q:=by
 intro a;induction a using wf.induction with
 | _ a i=>
  intro m t f;rcases h a m t f with e|⟨b,ops,c,d,j,g⟩
  ·exact .refl e
  ·exact .step d AU
section
variable {ar:Type} (R:ar->ar->Prop)
def C5(y x:Nat×List ar×Nat×Nat):Prop:=
 y.1<x.1\/(y.1=x.1/\((zH R y.2.1 x.2.1/\Acc (zH R) x.2.1)\/(y.2.1=x.2.1/\(y.2.2.1<x.2.2.1\/(y.2.2.1=x.2.2.1/\y.2.2.2<x.2.2.2)))))
theorem akf:WellFounded (C5 R):=by
 have key:∀b,(∀c,c<b->∀v s k,Acc (C5 R) (c,v,s,k))->∀v s k,Acc (C5 R) (b,v,s,k):=by
  intro b j;have core:∀v,(∀a,zH R a v->Acc (zH R) v->∀s k,Acc (C5 R) (b,a,s,k))->∀s k,Acc (C5 R) (b,v,s,k):=by intro v d s;induction s using Nat.strongRecOn with| _ s g=>intro k;induction k using Nat.strongRecOn with| _ k f=>refine⟨_,?_⟩;rintro⟨c,a,i,k'⟩ h;simp[C5]at h;grind
  intro v;by_cases d:Acc (zH R) v
  ·induction d with|intro v _ e=>grind
  grind
 refine⟨fun⟨b,v,s,k⟩=>?_⟩;induction b using Nat.strongRecOn generalizing v s k with| _ b e=>grind
end
structure cK(Z:fG) where
 g:Goroutine
 l:Z.av
 X:a6
 n:Nat
section
variable (Z:fG) (Q:Program) (Stop:Bool->Z.av->a6->Prop)
inductive wh(m:Bool)(γ:Z.aT)(d:Nat)(r:cK Z):Prop
 |runs (hg:r.g=r.X.g) (hr:r.X.g.status=.running) (ht:bh Z Q Stop m r.l γ r.X) (aj:m=false->¬Stop m r.l r.X) (hd:d=Z.deaf r.l) (h0:r.n=0) (hl:¬Z.Left r.l)
 |waits (hg:r.g={r.X.g with status:=.blocked}) (hr:r.X.g.status=.running) (ho:r.X.g.offers=none) (ht:bh Z Q Stop m r.l γ r.X) (aj:¬Stop m r.l r.X) (hw:Z.py r.l γ) (hd:d=Z.deaf r.l) (h0:r.n=0) (hl:¬Z.Left r.l)
 |leaves (hm:m=false) (hq:QuitsD Q r.n d r.g) (hl:Z.Left r.l) (hs:Stop m r.l r.X)
def jk(base:Nat)(rs:List (cK Z))(size:Nat)(a2:Option Nat):mY:=
 {n:=rs.length,base,size,K:=Z.K,mine:=fun j b=>∃r,rs[j]?=some r/\r.X.mine b,hU:=Z.hU,fk:=Z.fk,cD:=a2,aC:=Z.aC,wg:=Z.wg,past:=fun j=>∃r,rs[j]?=some r/\Z.past r.l=true}
structure Inv(base:Nat)(rs:List (cK Z))(γ:Z.aT)(w:World)(t:Trace):Prop where
 sits:∀(j:Nat)(r:cK Z),rs[j]?=some r->wh Z Q Stop (j==0) γ (Deaf t j) r
 vZ:Z.sk γ (rs.map (·.l))
 mt:Z.wb γ w
 rely:∀(j:Nat)(r:cK Z),rs[j]?=some r->kl Z.K r.X w/\OsLater r.X.w.os w.os/\w.output=r.X.w.output/\w.tape=r.X.w.tape
 kp:∀(j:Nat)(r:cK Z),rs[j]?=some r->∀b,r.X.mine b->¬Z.hV b/\¬Z.K b/\b<w.heap.size
 apart:∀(j k:Nat)(r s:cK Z),rs[j]?=some r->rs[k]?=some s->j≠k->∀b,r.X.mine b->¬s.X.mine b
 low:∀b,Z.K b\/Z.hV b->b<w.heap.size
 old:∀(j:Nat)(r:cK Z),rs[j]?=some r->j≠0->j<base->Z.Left r.l/\∀b,¬r.X.mine b
 a2:∃a2,(∀(j:Nat)(r:cK Z),rs[j]?=some r->(Z.cD r.l=true↔a2=some j))/\eJ (jk Z base rs w.heap.size a2) t
 akg:0<rs.length
def kN(rs:List (cK Z)):Array Goroutine:=(rs.map (·.g)).toArray
end
theorem eJ.conv{p c:mY}{t:Trace}(h:eJ p t)(C:c.n=p.n)(g:c.base=p.base)(l:p.size<=c.size)(hK:c.K=p.K)(q:∀j b,c.mine j b->p.mine j b\/p.size<=b)(r:c.hU=p.hU)(w:c.fk=p.fk)
 (ht:c.cD=p.cD) (n:c.aC=p.aC) (F:c.wg=p.wg) (B:∀j,c.past j->p.past j):eJ c t:=by
 have s:∀j,c.bp j->p.bp j:=fun j f=>by grind[mY.bp]
 have z:∀j,p.bp j->c.bp j:=fun j f=>by grind[mY.bp]
 refine⟨fun i a d v dF=>?_,fun i op hi=>by rw[C];exact h.gs i op hi,fun i a b d g=>Nat.lt_of_lt_of_le (h.low i a b d g) l,fun i a b d x g m j f=>h.still i a b d x g (hK▸m) j (s j f),fun j i a b f d g E=>?_,fun j f=>?_,fun y i a d A=>?_,fun i a d l=>?_,h.tS,h.A4,fun i j f D u=>?_⟩
 ·refine(h.qq i a d v dF).imp AU fun o=>⟨by rw[r];exact o.1,fun b k=>⟨by rw[hK];exact(o.2 b k).1,fun j f=>(q j b f).elim ((o.2 b k).2 j) (fun e=>absurd (h.low i a b d k) Ay)⟩⟩
 ·exact(q j b E).elim (fun e=>h.own j i a b (s j f) d g e) (fun e=>absurd (h.low i a b d g) Ay)
 ·obtain⟨I,H⟩:=h.xl j (ht▸f);grind
 ·rw[n];exact(h.zV (ht▸y) i a d (r▸A)).imp AU id
 ·exact(h.fk i a d (w▸l)).imp id AU
 ·rw[F];exact h.past i j f (B j D) u
variable {f:Goroutine->Goroutine}
section
variable {Z:fG} {Q:Program} {Stop:Bool->Z.av->a6->Prop}
structure Row(rs cO:List (cK Z))(i:Nat)(r1:cK Z)(f:Goroutine->Goroutine):Prop where
 len:cO.length=rs.length
 e9:cO[i]?=some r1
 k5:∀j,j≠i->cO[j]?=(rs[j]?).map fun s=>{s with g:=f s.g}
theorem Mk(rs:List (cK Z)){i:Nat}{r:cK Z}(hi:rs[i]?=some r)(r1:cK Z)(f:Goroutine->Goroutine):Row rs ((rs.map fun s=>{s with g:=f s.g}).set i r1) i r1 f:=by
 have a:i<rs.length:=by grind
 refine⟨Aa,AU,fun j b=>?_⟩;grind
theorem Rc(rs:List (cK Z))(i:Nat)(r1:cK Z)(f:Goroutine->Goroutine):kN Z ((rs.map fun s=>{s with g:=f s.g}).set i r1)=((kN Z rs).map f).setIfInBounds i r1.g:=by grind[kN]
theorem Row.aU{rs cO:List (cK Z)}{i:Nat}{r1:cK Z}(h:Row rs cO i r1 f):cO.map (·.l)=(rs.map (·.l)).set i r1.l:=by
 apply List.ext_getElem?;intro j;by_cases b:j=i
 ·subst b;have a:j<rs.length:=by obtain⟨x,_⟩:=List.getElem?_eq_some_iff.1 h.e9;rw[<-h.len];exact x
  simp[h.e9,a]
 ·rw[List.getElem?_set_ne (Ne.symm b)];simp[h.k5 j b];rfl
theorem Row.other{rs cO:List (cK Z)}{i:Nat}{r1:cK Z}(h:Row rs cO i r1 f){j:Nat}{s:cK Z}(c:j≠i)(b:cO[j]?=some s):∃a,rs[j]?=some a/\s={a with g:=f a.g}:=by rw[h.k5 j c]at b;grind
theorem lB.at{mine:Nat->Prop}{w w1:World}(d:Nat)(h:lB Z mine (w.at d) w1):lB Z mine w w1:=⟨h.kept,h.size,h.os,h.output,h.tape⟩
theorem kl.at{K:Nat->Prop}{X:a6}{w:World}(h:kl K X w)(d:Nat):kl K X (w.at d):=⟨h.heap,h.size,h.env⟩
theorem Inv.kept{base:Nat}{rs:List (cK Z)}{γ:Z.aT}{w:World}{t:Trace}(G:Z.Good)(h:Inv Z Q Stop base rs γ w t){i:Nat}{r:cK Z}(hi:rs[i]?=some r){w1:World}(d:lB Z r.X.mine w w1):
 (∀b,Z.K b->w1.heap[b]?=w.heap[b]?)/\∀(j:Nat)(s:cK Z),rs[j]?=some s->j≠i->∀b,s.X.mine b->w1.heap[b]?=w.heap[b]?:=by
 refine⟨fun b a=>d.kept b (h.low b (.inl a)) (fun f=>(h.kp i r hi b f).2.1 a) (G.og b a),fun j s e c b a=>?_⟩;have:=h.kp j s e b a;exact d.kept b this.2.2 (h.apart j i s r e hi c b a) this.1
theorem Inv.zl{base:Nat}{rs cO:List (cK Z)}{γ:Z.aT}{w:World}{t:Trace}(G:Z.Good)(h:Inv Z Q Stop base rs γ w t){i:Nat}{r r1:cK Z}(hi:rs[i]?=some r)(z:Row rs cO i r1 f){w1:World}
 (x:lB Z r.X.mine w w1) (L:∀b,r1.X.mine b->r.X.mine b\/(w.heap.size<=b/\b<w1.heap.size)):
 (∀(j:Nat)(s:cK Z),cO[j]?=some s->∀b,s.X.mine b->¬Z.hV b/\¬Z.K b/\b<w1.heap.size)/\
 (∀(j k:Nat)(s g:cK Z),cO[j]?=some s->cO[k]?=some g->j≠k->∀b,s.X.mine b->¬g.X.mine b)/\
 (∀b,Z.K b\/Z.hV b->b<w1.heap.size)/\(∀a2,Q4 (jk Z base cO w1.heap.size a2)):=by
 have A:∀(j:Nat)(s:cK Z),cO[j]?=some s->∀b,s.X.mine b->(∃m,rs[j]?=some m/\m.X.mine b)\/(j=i/\w.heap.size<=b/\b<w1.heap.size):=by
  intro j s n b d;by_cases y:j=i
  ·subst y;rw[z.e9]at n;grind
  ·obtain⟨m,a,rfl⟩:=z.other y n;grind
 have B:∀(j:Nat)(s:cK Z),cO[j]?=some s->∀b,s.X.mine b->¬Z.hV b/\¬Z.K b/\b<w1.heap.size:=by
  intro j s n b d;rcases A j s n b d with⟨m,a,c⟩|⟨_,a,c⟩
  ·have:=h.kp j m a b c;exact⟨this.1,this.2.1,Nat.lt_of_lt_of_le this.2.2 x.size⟩
  ·exact⟨fun e=>absurd (h.low b (.inr e)) Ay,fun e=>absurd (h.low b (.inl e)) Ay,c⟩
 have C:∀(j k:Nat)(s g:cK Z),cO[j]?=some s->cO[k]?=some g->j≠k->∀b,s.X.mine b->¬g.X.mine b:=by
  intro j k s g n J q b d F;rcases A j s n b d with⟨m,a,c⟩|⟨M,a,c⟩<;>rcases A k g J b F with⟨E,o,p⟩|⟨K,o,p⟩
  ·exact h.apart j k m E a o q b c p
  ·have:=(h.kp j m a b c).2.2;omega
  ·have:=(h.kp k E o b p).2.2;omega
  grind
 have D:∀b,Z.K b\/Z.hV b->b<w1.heap.size:=fun b d=>Nat.lt_of_lt_of_le (h.low b d) x.size;refine⟨B,C,D,fun a2=>⟨?_,?_,?_,?_,G.wa,?_,fun b d=>D b (.inl d),?_⟩⟩
 ·rintro j k b ⟨s,a,c⟩ ⟨g,o,p⟩;grind
 ·rintro j b ⟨s,a,c⟩;exact(B j s a b c).2.1
 ·intro l b j u hl;obtain⟨v,a,c⟩:=G.FW l u;rw[hl]at a;cases a;exact⟨fun⟨s,I,H⟩=>AU,fun e=>G.og b e c⟩
 ·intro l b j u hl;obtain⟨v,a,c⟩:=G.C1 l u;rw[hl]at a;cases a;exact⟨fun⟨s,I,H⟩=>AU,fun e=>G.og b e c⟩
 ·rintro j b ⟨s,a,c⟩;exact(B j s a b c).2.2
 ·intro l b hl d;rcases hl with hl|hl
  ·obtain⟨v,a,c⟩:=G.FW l hl;rw[d]at a;cases a;exact D b (.inr c)
  ·obtain⟨v,a,c⟩:=G.C1 l hl;rw[d]at a;cases a;exact D b (.inr c)
theorem Yy(G:Z.Good)(base:Nat)(rs:List (cK Z))(size:Nat)(a2:Option Nat):Me (jk Z base rs size a2):=
 ⟨fun l h=>let⟨_,a,_⟩:=G.FW l h;FV a,fun l h=>let⟨_,a,_⟩:=G.C1 l h;FV a⟩
theorem Yz{p:mY}{j:Nat}{l:Z.av}{mine:Nat->Prop}(hK:p.K=Z.K)(f:∀b,mine b->p.mine j b)(k:p.hU=Z.hU)(i:p.fk=Z.fk)(ht:Z.cD l=true->p.cD=some j)(g:Z.past l=false->¬p.past j)(h:Z.zero l->j=0):
 ∀(es:List Event)(d:Nat),qs Z l mine d es->Q6 p j d es
 | [],_,_=>trivial
 |e::es,d,⟨c,n⟩=>by
  refine⟨?_,Yz hK f k i ht g h es _ n⟩;obtain⟨loc,wr,o⟩:=e;cases loc with
  |cell a=>
   rcases c with⟨x,y,z⟩|⟨x,y,z⟩
   ·exact .inl AU
   ·exact .inr AU
  |obj r=>exact⟨c.1,c.2.1.imp AU (f _),g c.2.2⟩
  |mark m=>exact c.imp id AU
  |output=>trivial
  |goroutines=>exact c
end
variable {es:Array Event}{g g1:Goroutine}
section
section
variable {Z:fG} {Q:Program} {Stop:Bool->Z.av->a6->Prop} {base:Nat} {rs cO:List (cK Z)} {γ bA:Z.aT} {w w1:World} {t:Trace}
theorem Inv.lt(h:Inv Z Q Stop base rs γ w t){i:Nat}{r:cK Z}(hi:rs[i]?=some r)(hl:¬Z.Left r.l)(size:Nat)(a2:Option Nat):(jk Z base rs size a2).bp i:=by
 obtain⟨a,_⟩:=List.getElem?_eq_some_iff.1 hi;refine⟨a,?_⟩;rcases Nat.eq_zero_or_pos i with e|e
 ·grind
 ·refine .inr (Nat.le_of_not_lt fun b=>hl (h.old i r hi Ay b).1)
theorem Ml(i:Nat)(fn:FuncId)(pos:String)(m:Mark):MemOp.ofEvents i fn pos #[FX m]=#[({g:=i,fn,pos,act:=.mark m}:MemOp)]:=by rw[ofEvents_eq];simp[FX,MemAct.ofEvent]
theorem Inv.says(G:Z.Good)(h:Inv Z Q Stop base rs γ w t){i:Nat}{r r1:cK Z}(hi:rs[i]?=some r)(hl:¬Z.Left r.l)(a:Row rs cO i r1 f)
 (C:lB Z r.X.mine w w1) (N:r1.X.mine=grown r.X.mine w w1) (hd:Deaf t i=Z.deaf r.l) (C6:Z.cD r.l=false->Z.cD r1.l=true->∀(k:Nat)(s:cK Z),k≠i->rs[k]?=some s->Z.cD s.l=true->False)  (R:xn Z r.l r1.l (grown r.X.mine w w1) es) (fn:FuncId) (pos:String):
 (∃a2,(∀(j:Nat)(s:cK Z),cO[j]?=some s->(Z.cD s.l=true↔a2=some j))/\eJ (jk Z base cO w1.heap.size a2) (t++MemOp.ofEvents i fn pos es))/\Deaf (t++MemOp.ofEvents i fn pos es) i=Z.deaf r1.l:=by
 have I:∀b,r1.X.mine b->r.X.mine b\/(w.heap.size<=b/\b<w1.heap.size):=fun b D=>by rw[N]at D;exact D
 obtain⟨ao,hC,Y,S⟩:=h.zl G hi a C I;obtain⟨a2,W,E⟩:=h.a2;have A:∀a2,(jk Z base cO w1.heap.size a2).bp i:=fun a2=>by have:=h.lt hi hl w1.heap.size a2;unfold mY.bp jk at this⊢;simp only at this⊢;rw[a.len];grind
 have K:∀a2 j b,(jk Z base cO w1.heap.size a2).mine j b->(jk Z base rs w.heap.size a2).mine j b\/w.heap.size<=b:=by
  rintro a2 j b ⟨s,m,n⟩;by_cases c:j=i
  ·subst c;rw[a.e9]at m;cases m;exact(I b n).imp (fun e=>⟨r,hi,e⟩) (fun e=>e.1)
  ·obtain⟨u,q,rfl⟩:=a.other c m;exact .inl ⟨u,q,n⟩
 have M:(Z.past r1.l=Z.past r.l)->∀a2 j,(jk Z base cO w1.heap.size a2).past j->(jk Z base rs w.heap.size a2).past j:=by
  rintro J a2 j ⟨s,m,n⟩;by_cases c:j=i
  ·subst c;rw[a.e9]at m;cases m;exact⟨r,hi,AU⟩
  ·obtain⟨u,q,rfl⟩:=a.other c m;exact⟨u,q,n⟩
 have conv:(Z.past r1.l=Z.past r.l)->eJ (jk Z base cO w1.heap.size a2) t:=fun J=>
  E.conv a.len rfl C.size rfl (K a2) rfl rfl rfl rfl rfl (M J a2)
 have V:∀(j:Nat)(s:cK Z),j≠i->cO[j]?=some s->(Z.cD s.l=true↔a2=some j):=by intro j s d O;obtain⟨u,q,rfl⟩:=a.other d O;grind
 rcases R with⟨v,o,x,F⟩|⟨rfl,v,o,x,F,B⟩|⟨rfl,v,o,x,F,B⟩|⟨rfl,v,o,x,F⟩
 ·refine⟨⟨a2,fun j s d=>?_,?_⟩,by rw[Deaf_own,hd,x]⟩
  ·by_cases c:j=i
   ·subst c;rw[a.e9]at d;grind
   grind
  ·have:=eJ.step (S a2) (Yy G base cO w1.heap.size a2) (A a2) fn pos es.toList (conv o) (Yz (Z:=Z) (p:=jk Z base cO w1.heap.size a2) (j:=i) (l:=r.l) (mine:=grown r.X.mine w w1) rfl (fun b D=>⟨r1,a.e9,Bp⟩) rfl rfl (fun ht=>(W i r hi).1 ht)
    (fun al⟨s,m,n⟩=>by rw[a.e9]at m;grind) (fun P=>G.zero γ _ i r.l h.vZ AU P) es.toList _ AU)
   omega
 ·have H:a2=none:=by cases z:a2 with|none=>rfl|some k=>exfalso;have L:=(E.xl k z).1;obtain⟨s,U⟩:∃s,rs[k]?=some s:=⟨rs[k]'L.1,List.getElem?_eq_getElem L.1⟩;grind
  refine⟨⟨some i,fun j s d=>?_,?_⟩,JD⟩
  ·by_cases c:j=i
   ·subst c;rw[a.e9]at d;grind
   grind
  ·have h0:=conv B;rw[H]at h0;have:=eJ.aj9 h0 rfl (y:={g:=i,fn,pos,act:=.mark (.acquire Z.aC)}) (A none) rfl AU;rw[Ml];exact this
 ·have z:a2=some i:=AU;refine⟨⟨none,fun j s d=>?_,?_⟩,JD⟩
  ·by_cases c:j=i
   ·subst c;rw[a.e9]at d;grind
   grind
  ·have h0:=conv B;rw[z]at h0;have:=eJ.aj_ h0 (y:={g:=i,fn,pos,act:=.mark (.releaseMerge Z.aC)}) rfl rfl AU;rw[Ml];exact this
 ·refine⟨⟨a2,fun j s d=>?_,?_⟩,JD⟩
  ·by_cases c:j=i
   ·subst c;rw[a.e9]at d;grind
   grind
  ·have h0:eJ {jk Z base cO w1.heap.size a2 with past:=(jk Z base rs w.heap.size a2).past} t:=
    E.conv a.len rfl C.size rfl (K a2) rfl rfl rfl rfl rfl (fun j d=>d)
   have:=eJ.aka h0 (y:={g:=i,fn,pos,act:=.mark (.releaseMerge Z.wg)}) (A a2) rfl AU (past:=(jk Z base cO w1.heap.size a2).past) (fun k T=>by
    obtain⟨s,m,n⟩:=T;by_cases X:k=i
    ·grind
    ·obtain⟨u,q,rfl⟩:=a.other X m;exact .inl ⟨u,q,n⟩)
   simp_all[Ml]
theorem Inv.own(G:Z.Good)(h:Inv Z Q Stop base rs γ w t){i:Nat}{r r1:cK Z}(hi:rs[i]?=some r)(hl:¬Z.Left r.l)(k:Row rs cO i r1 f)(o:r1.X.w=w1)
 (a:lB Z r.X.mine w w1) (u:r1.X.mine=grown r.X.mine w w1) (H:Z.sk bA ((rs.map (·.l)).set i r1.l)) (y:Z.wb bA w1) {l:Trace}
 (F:∀(j:Nat)(s:cK Z),j≠i->cO[j]?=some s->wh Z Q Stop (j==0) bA (Deaf l j) s) (I:wh Z Q Stop (i==0) bA (Deaf l i) r1)
 (ht:∃a2,(∀(j:Nat)(s:cK Z),cO[j]?=some s->(Z.cD s.l=true↔a2=some j))/\eJ (jk Z base cO w1.heap.size a2) l):Inv Z Q Stop base cO bA w1 l:=by
 have z:∀b,r1.X.mine b->r.X.mine b\/(w.heap.size<=b/\b<w1.heap.size):=fun b e=>by rw[u]at e;exact e
 obtain⟨C,B,A,_⟩:=h.zl G hi k a z;obtain⟨E,D⟩:=h.kept G hi a;refine⟨fun j s c=>?_,by rw[k.aU];grind,y,fun j s c=>?_,C,B,A,fun j s c h0 e=>?_,ht,by rw[k.len];grind⟩
 ·by_cases g:j=i
  ·subst g;rw[k.e9]at c;grind
  grind
 ·by_cases g:j=i
  ·subst g;rw[k.e9]at c;cases c;subst o;exact⟨⟨fun _ _=>rfl,Nat.le_refl _,rfl⟩,.refl _,rfl,rfl⟩
  ·obtain⟨n,m,rfl⟩:=k.other g c;obtain⟨p,x,v,q⟩:=h.rely j n m;refine⟨⟨fun b e=>?_,Nat.le_trans p.size a.size,?_⟩,x.trans a.os,a.output.trans v,a.tape.trans q⟩
   ·rw[<-p.heap b e];grind
   ·rw[<-p.env];obtain⟨d,hd⟩:=a.os;rw[hd]
 ·by_cases g:j=i
  ·subst g;exact absurd (h.old j r hi h0 e).1 hl
  ·obtain⟨n,m,rfl⟩:=k.other g c;exact h.old j n m h0 e
theorem akn(w1:World):∀{x:Goroutine},x.offers=none->x.status=.running->({x with status:=.blocked}:Goroutine).again w1=x:=by rintro⟨a,b,c,d,e⟩ g f;grind[Goroutine.again]
theorem wh.woken{m:Bool}{d:Nat}{s:cK Z}(G:Z.Good)(h:wh Z Q Stop m γ d s){w1:World}(hrun:g1.status=.running)(c:Z.dN s.l γ bA)(p:mayWake Q g=true\/(Z.py s.l γ->Z.py s.l bA)):
 wh Z Q Stop m bA d {s with g:=woken Q g g1 w1 s.g}:=by
 have q:(mayWake Q g&&g1.status != .blocked&&g1.status != .waiting)=mayWake Q g:=AU;cases h with
 |runs f a ht b hd h0 hl=>
  have e:Go.Conc.woken Q g g1 w1 s.g=s.g:=by grind[Go.Conc.woken,again_running]
  rw[e];exact .runs f a (ht.k5 G c) b hd h0 hl
 |waits f a l ht b o hd h0 hl=>
  cases n:mayWake Q g with
  |true=>
   have e:Go.Conc.woken Q g g1 w1 s.g=s.X.g:=by grind[Go.Conc.woken,akn]
   rw[e];exact .runs rfl a (ht.k5 G c) (fun _=>b) hd h0 hl
  |false=>
   have e:Go.Conc.woken Q g g1 w1 s.g=s.g:=by grind[Go.Conc.woken]
   rw[e];exact .waits f a l (ht.k5 G c) b AU hd h0 hl
 |leaves k i hl j=>rw[woken_quitsD i];exact .leaves k i hl j
end
end
section
section
variable {Z:fG} {Q:Program} {Stop:Bool->Z.av->a6->Prop} {base:Nat} {rs cO:List (cK Z)} {γ bA:Z.aT} {w w1:World} {t:Trace}
theorem ako{e:Event}(h:e.mute=true):∃m,(MemAct.ofEvent e)=.mark m/\A5 m:=by
 obtain⟨loc,wr,a⟩:=e;cases loc<;>simp_all[Event.mute]
 grind[MemAct.ofEvent,A5]
theorem eJ.mute{p:mY}{i:Nat}(hi:i<p.n)(fn:FuncId)(pos:String):∀(l:List Event){t:Trace},eJ p t->(∀e∈l,e.mute=true)->eJ p (t++MemOp.ofEvents i fn pos l.toArray)
 | [],t,h,_=>by grind[ofEvents_eq]
 |e::l,t,h,d=>by
  obtain⟨m,c,b⟩:=ako (d e Aa);have:=eJ.mute hi fn pos l (h.word (y:={g:=i,fn,pos,act:=.ofEvent e}) hi (by rw[c];cases m<;>simp[A5]at b<;>rfl) (fun a=>by rw[c];cases m<;>simp[A5]at b<;>simp)) AU
  rw[ofEvents_eq]at this⊢;have f:t++#[({g:=i,fn,pos,act:=.ofEvent e}:MemOp)]++Array.map (fun e=>({g:=i,fn,pos,act:=.ofEvent e}:MemOp)) l.toArray=t++Array.map (fun e=>({g:=i,fn,pos,act:=.ofEvent e}:MemOp)) (e::l).toArray:=by apply Array.ext';simp
  rw[f]at this;exact this
def wi(rs:List (cK Z))(γ:Z.aT):List (Bool×Z.av×Z.aT×a6):=rs.mapIdx fun j r=>(j==0,r.l,γ,r.X)
def Mn(rs:List (cK Z)):Nat:=(rs.map (·.n)).sum
def zJ(g:Goroutine):Nat:=match g.status with| .running=>1| _=>0
def kr(rs:List (cK Z)):Nat:=(rs.map fun r=>zJ r.g).sum
def A9(rs:List (cK Z))(γ:Z.aT):Nat×List (Bool×Z.av×Z.aT×a6)×Nat×Nat:=(Z.be γ,wi rs γ,Mn rs,kr rs)
theorem FY:∀(l:List Nat)(i x:Nat)(h:i<l.length),(l.set i x).sum+l[i]=l.sum+x
 |a::l,0,x,_=>AU
 |a::l,i+1,x,h=>by have:=FY l i x HO;simp;omega
theorem FZ(rs:List (cK Z))(γ:Z.aT)(j:Nat):(wi rs γ)[j]?=(rs[j]?).map fun r=>(j==0,r.l,γ,r.X):=by simp[wi]
theorem YA{i:Nat}{r1:cK Z}(h:Row rs cO i r1 f)(γ:Z.aT):wi cO γ=(wi rs γ).set i (i==0,r1.l,γ,r1.X):=by
 apply List.ext_getElem?;intro j;by_cases b:j=i
 ·subst b;have a:j<(wi rs γ).length:=by obtain⟨x,_⟩:=List.getElem?_eq_some_iff.1 h.e9;simp[wi,<-h.len,x]
  rw[FZ,h.e9,List.getElem?_set_self a];rfl
 ·rw[List.getElem?_set_ne (Ne.symm b),FZ,FZ,h.k5 j b,Option.map_map];rfl
theorem Inv.akp(G:Z.Good)(h:Inv Z Q Stop base rs γ w t):Acc (zH (Mi Z Q Stop)) (wi rs γ):=by refine aj2 _ fun x c=>?_;obtain⟨j,a⟩:=List.mem_iff_getElem?.1 c;rw[FZ]at a;obtain⟨r,e,rfl⟩:=Option.map_eq_some_iff.1 a;cases h.sits j r e with|runs _ _ ht _ _ _ _=>exact ht.acc G|waits _ _ _ ht _ _ _ _ _=>exact ht.acc G|leaves g f hl d=>exact⟨_,fun y b=>absurd d b.1⟩
theorem Re(b:∀l X,Stop false l X->Z.Left l/\∃n,QuitsD Q n (Z.deaf l) X.g){m:Bool}{l1:Z.av}{yz:a6}(c:yz.g.status=.running)(ht:bh Z Q Stop m l1 bA yz)(hl:Z.Left l1->m=false/\Stop m l1 yz):∃n,wh Z Q Stop m bA (Z.deaf l1) ⟨yz.g,l1,yz,n⟩:=by
 by_cases a:m=false/\Stop m l1 yz
 ·obtain⟨rfl,a⟩:=a;obtain⟨e,n,d⟩:=b l1 yz a;exact⟨n,.leaves rfl d e a⟩
 ·exact⟨0,.runs rfl c ht AU rfl rfl AU⟩
theorem akq{i:Nat}{r:cK Z}(hi:rs[i]?=some r)(b:Z.sk γ (rs.map (·.l))){l1:Z.av}(a:C3 Z r.l γ l1 bA):Z.sk bA ((rs.map (·.l)).set i l1)/\∀(j:Nat)(s:cK Z),j≠i->rs[j]?=some s->Z.dN s.l γ bA:=by obtain⟨e,d⟩:=a.2 (rs.map (·.l)) i AU b;exact⟨e,fun j s c f=>d j s.l c AU⟩
theorem C9(rs:List (cK Z))(j:Nat):(kN Z rs)[j]?=(rs[j]?).map (·.g):=by simp[kN]
def Rf(Z:fG)(Stop:Bool->Z.av->a6->Prop)(rs:List (cK Z)):Prop:=∃r,rs[0]?=some r/\Stop true r.l r.X/\r.g=r.X.g
theorem Inv.at(h:Inv Z Q Stop base rs γ w t)(G:Z.Good)(d:Nat):Inv Z Q Stop base rs γ (w.at d) t:=
 ⟨h.sits,h.vZ,G.mt γ w (w.at d) (fun _ _=>rfl) h.mt,fun j r a=>⟨kl.at (h.rely j r a).1 d,(h.rely j r a).2⟩,h.kp,h.apart,h.low,h.old,h.a2,h.akg⟩
theorem Inv.goes(G:Z.Good)(f:∀l X,Stop false l X->Z.Left l/\∃n,QuitsD Q n (Z.deaf l) X.g)(h:Inv Z Q Stop base rs γ w t){i:Nat}{r:cK Z}(hi:rs[i]?=some r)(hl:¬Z.Left r.l)(hd:Deaf t i=Z.deaf r.l){l1:Z.av}
 (c:lB Z r.X.mine w w1) (g:Z.wb bA w1) (b:Z.sk bA ((rs.map (·.l)).set i l1)) (E:∀(j:Nat)(s:cK Z),j≠i->rs[j]?=some s->Z.dN s.l γ bA) (hrun:g1.status=.running) (B:xn Z r.l l1 (grown r.X.mine w w1) es)
 (D:mayWake Q r.g=true\/∀l,Z.py l γ->Z.py l bA) (ht:bh Z Q Stop (i==0) l1 bA ⟨g1,w1,grown r.X.mine w w1⟩) (p:Z.Left l1->(i==0)=false/\Stop (i==0) l1 ⟨g1,w1,grown r.X.mine w w1⟩) (fn:FuncId) (pos:String):
 ∃cO,kN Z cO=((kN Z rs).map (woken Q r.g g1 w1)).setIfInBounds i g1/\Inv Z Q Stop base cO bA w1 (t++MemOp.ofEvents i fn pos es)/\wi cO γ=(wi rs γ).set i (i==0,l1,γ,⟨g1,w1,grown r.X.mine w w1⟩):=by
 obtain⟨n,z⟩:=Re f (m:=i==0) (l1:=l1) (yz:=⟨g1,w1,grown r.X.mine w w1⟩) hrun ht p;let r1:cK Z:=⟨g1,l1,⟨g1,w1,grown r.X.mine w w1⟩,n⟩
 have a:=Mk rs hi r1 (woken Q r.g g1 w1);have F:i<rs.length:=(List.getElem?_eq_some_iff.1 hi).1;obtain⟨o,H⟩:=h.says (r1:=r1) (es:=es) G hi hl a c rfl hd (fun _ x k s C A e=>C (G.one bA _ k i s.l l1 b AU AU e x)) B fn pos;refine⟨_,Rc rs i r1 _,h.own (r1:=r1) G hi hl a rfl c rfl b g (fun j s d q=>?_) AU o,YA a γ⟩;obtain⟨y,v,rfl⟩:=a.other d q;rw[Deaf_other t (g':=i) (Ne.symm d) _ (fun op u=>by grind[ofEvents_eq])];exact(h.sits j y v).woken G hrun AU AU
end
end
section
section
variable {Z:fG} {Q:Program} {Stop:Bool->Z.av->a6->Prop} {base:Nat} {rs cO:List (cK Z)} {γ bA:Z.aT} {w w1:World} {t:Trace}
theorem aks{i:Nat}{r r1:cK Z}(hi:rs[i]?=some r)(h:Row rs cO i r1 f)(hl:r1.l=r.l)(l:r1.X=r.X){size:Nat}{a2:Option Nat}(k:eJ (jk Z base rs size a2) t):eJ (jk Z base cO size a2) t:=by
 refine k.conv h.len rfl Jr rfl ?_ rfl rfl rfl rfl rfl ?_
 ·rintro j b ⟨s,a,e⟩;by_cases c:j=i
  ·subst c;rw[h.e9]at a;cases a;exact .inl ⟨r,hi,AU⟩
  ·obtain⟨g,d,rfl⟩:=h.other c a;exact .inl ⟨g,d,e⟩
 ·rintro j ⟨s,a,e⟩;by_cases c:j=i
  ·subst c;rw[h.e9]at a;cases a;exact⟨r,hi,AU⟩
  ·obtain⟨g,d,rfl⟩:=h.other c a;exact⟨g,d,e⟩
theorem Inv.record(h:Inv Z Q Stop base rs γ w t){i:Nat}{r r1:cK Z}(hi:rs[i]?=some r)(e:Row rs cO i r1 f)(hl:r1.l=r.l)(p:r1.X=r.X){g:Trace}
 (z:∀(j:Nat)(s:cK Z),j≠i->cO[j]?=some s->wh Z Q Stop (j==0) γ (Deaf g j) s) (A:wh Z Q Stop (i==0) γ (Deaf g i) r1) (y:∀size a2,eJ (jk Z base rs size a2) t->eJ (jk Z base rs size a2) g):Inv Z Q Stop base cO γ w g:=by
 have B:i<rs.length:=(List.getElem?_eq_some_iff.1 hi).1;have back:∀(j:Nat)(s:cK Z),cO[j]?=some s->∃b,rs[j]?=some b/\s.l=b.l/\s.X=b.X:=by
  intro j s a;by_cases l:j=i
  ·subst l;rw[e.e9]at a;grind
  ·obtain⟨b,c,rfl⟩:=e.other l a;grind
 refine⟨fun j s a=>?_,?_,h.mt,fun j s a=>?_,fun j s a=>?_,fun j k s u a x m=>?_,h.low,fun j s a=>?_,?_,by rw[e.len];grind⟩
 ·by_cases l:j=i
  ·subst l;rw[e.e9]at a;grind
  grind
 ·have:(rs.map (·.l)).set i r1.l=rs.map (·.l):=by apply List.ext_getElem?;grind
  rw[e.aU,this];exact h.vZ
 ·obtain⟨b,d,_,c⟩:=back j s a;rw[c];exact h.rely j b d
 ·obtain⟨b,d,_,c⟩:=back j s a;rw[c];exact h.kp j b d
 ·obtain⟨b,d,_,c⟩:=back j s a;obtain⟨q,v,_,o⟩:=back k u x;rw[c,o];exact h.apart j k b q d v m
 ·obtain⟨b,d,n,c⟩:=back j s a;rw[n,c];exact h.old j b d
 ·obtain⟨a2,d,n⟩:=h.a2;refine⟨a2,fun j s a=>?_,aks hi e hl p (y _ _ n)⟩;grind
theorem YB{i:Nat}{r r1:cK Z}(hi:rs[i]?=some r)(h:Row rs cO i r1 f):Mn cO+r.n=Mn rs+r1.n:=by
 obtain⟨c,b⟩:=List.getElem?_eq_some_iff.1 hi;have e:cO.map (·.n)=(rs.map (·.n)).set i r1.n:=by
  apply List.ext_getElem?;intro j;by_cases a:j=i
  ·subst a;rw[List.getElem?_set_self AU,List.getElem?_map,h.e9];rfl
  ·rw[List.getElem?_set_ne (Ne.symm a),List.getElem?_map,List.getElem?_map,h.k5 j a,Option.map_map];rfl
 grind[FY,Mn]
theorem aku{i:Nat}{r r1:cK Z}(hi:rs[i]?=some r)(h:Row rs cO i r1 id):kr cO+zJ r.g=kr rs+zJ r1.g:=by
 obtain⟨c,b⟩:=List.getElem?_eq_some_iff.1 hi;have e:(cO.map fun r=>zJ r.g)=(rs.map fun r=>zJ r.g).set i (zJ r1.g):=by
  apply List.ext_getElem?;intro j;by_cases a:j=i
  ·subst a;rw[List.getElem?_set_self AU,List.getElem?_map,h.e9];rfl
  ·rw[List.getElem?_set_ne (Ne.symm a),List.getElem?_map,List.getElem?_map,h.k5 j a,Option.map_map];rfl
 grind[FY,kr]
theorem YC{i:Nat}{r r1:cK Z}(hi:rs[i]?=some r)(h:Row rs cO i r1 f)(hl:r1.l=r.l)(a:r1.X=r.X):wi cO γ=wi rs γ:=by
 rw[YA h γ];apply List.ext_getElem?;intro j;by_cases b:j=i
 ·grind[FZ]
 grind
theorem akv(h:g1.status=.blocked)(w1:World):woken Q g g1 w1=id:=by grind[woken]
theorem YD{i:Nat}{fn:FuncId}{pos:String}:∀op∈MemOp.ofEvents i fn pos es,op.g=i:=fun op a=>by grind[ofEvents_eq]
theorem wh.k5{m:Bool}{d:Nat}{s:cK Z}(G:Z.Good)(h:wh Z Q Stop m γ d s)(e:Z.dN s.l γ bA)(g:Z.py s.l γ->Z.py s.l bA):wh Z Q Stop m bA d s:=by cases h with|runs b a ht c hd h0 hl=>exact .runs b a (ht.k5 G e) c hd h0 hl|waits b a l ht c f hd h0 hl=>exact .waits b a l (ht.k5 G e) c (g f) hd h0 hl|leaves k j hl i=>exact .leaves k j hl i
theorem Inv.akw(G:Z.Good)(M:∀l X,Stop false l X->Z.Left l/\∃n,QuitsD Q n (Z.deaf l) X.g)(h:Inv Z Q Stop base rs γ w t)(yh:base<=rs.length){r:cK Z}(hi:rs[0]?=some r)(hl:¬Z.Left r.l)(hd:Deaf t 0=Z.deaf r.l){l1 lc:Z.av}{child:Goroutine}
 (a:Q_ Z r.l γ r.X w g1 child w1 es l1 bA lc) (ht:bh Z Q Stop true l1 bA ⟨g1,w1,grown r.X.mine w w1⟩) (hc:bh Z Q Stop false lc bA ⟨child,w1,fun _=>False⟩) (fn z:FuncId) (pos pos':String):
 ∃cO,kN Z cO=((kN Z rs).setIfInBounds 0 g1).push child/\Inv Z Q Stop base cO bA w1 (t++((MemOp.ofEvents 0 fn pos es).push {g:=0,fn,pos,act:=.go rs.length} |>.push {g:=rs.length,fn:=z,pos:=pos',act:=.start})):=by
 obtain⟨n,akr⟩:=Re M (m:=true) (l1:=l1) (yz:=⟨g1,w1,grown r.X.mine w w1⟩) a.run ht (fun h=>absurd h a.Ra.1);obtain⟨bj,I⟩:=Re M (m:=false) (l1:=lc) (yz:=⟨child,w1,fun _=>False⟩) a.Yv hc (fun h=>absurd h a.Ra.2);let r1:cK Z:=⟨g1,l1,⟨g1,w1,grown r.X.mine w w1⟩,n⟩
 let rc:cK Z:=⟨child,lc,⟨child,w1,fun _=>False⟩,bj⟩
 have o:=Mk rs hi r1 id;have H:(rs.map fun s=>{s with g:=id s.g})=rs:=by simp_all
 rw[H]at o;have II:xn Z r.l l1 (grown r.X.mine w w1) es:=.inl ⟨a.cD.1,a.past.1,by rw[a.deaf.1,a.deaf.2.1,a.deaf.2.2.1],by rw[a.deaf.1];exact a.evs⟩;obtain⟨⟨a2,Mm,D⟩,C_⟩:=h.says (r1:=r1) (es:=es) G hi hl o a.keep rfl hd (fun h0 p _ _ _ _ _=>by rw[show r1.l=l1 from rfl,a.cD.1,h0]at p;cases p) II fn pos;have hm:∀b,r1.X.mine b->r.X.mine b\/(w.heap.size<=b/\b<w1.heap.size):=fun b a=>a;obtain⟨ao,hC,hD,_⟩:=h.zl G hi o a.keep hm;obtain⟨akl,akm⟩:=h.kept G hi a.keep;obtain⟨nB,V⟩:=a.A8 (rs.map (·.l)) AU h.vZ;have ly:(rs.set 0 r1).length=rs.length:=Aa;generalize F:rs.set 0 r1=E at o D Mm ao hC ly;have v:∀(j:Nat)(s:cK Z),(E++[rc])[j]?=some s->(j<rs.length/\E[j]?=some s)\/(j=rs.length/\s=rc):=by grind[List.getElem?_append_right]
 have e1:t++((MemOp.ofEvents 0 fn pos es).push {g:=0,fn,pos,act:=.go rs.length} |>.push {g:=rs.length,fn:=z,pos:=pos',act:=.start})=(t++MemOp.ofEvents 0 fn pos es)++#[({g:=0,fn,pos,act:=.go rs.length}:MemOp),{g:=rs.length,fn:=z,pos:=pos',act:=.start}]:=by apply Array.ext';simp
 rw[e1];generalize N:#[({g:=0,fn,pos,act:=.go rs.length}:MemOp),{g:=rs.length,fn:=z,pos:=pos',act:=.start}]=u;have K:∀j,Deaf ((t++MemOp.ofEvents 0 fn pos es)++u) j=Deaf (t++MemOp.ofEvents 0 fn pos es) j:=fun j=>by have:=Deaf_append (t++MemOp.ofEvents 0 fn pos es) j u.toList;rw[Array.toArray_toList]at this;rw[this,<-N];rfl
 have R:Deaf (t++MemOp.ofEvents 0 fn pos es) rs.length=0:=Deaf_absent fun i op hi e=>by have:=D.gs i op hi;grind[jk]
 refine⟨E++[rc],?_,⟨fun j s f=>?_,?_,a.mt,fun j s f=>?_,fun j s f=>?_,fun j k s s' f hk Y b We aC1=>?_,hD,fun j s f h0 F0=>?_,?_,Aa⟩⟩
 ·rw[<-F];unfold kN;rw[List.setIfInBounds_toArray,List.push_toArray,List.map_append,List.map_set];rfl
 ·rw[K];rcases v j s f with⟨A,c⟩|⟨rfl,rfl⟩
  ·by_cases h0:j=0
   ·grind
   ·obtain⟨q,B,rfl⟩:=o.other h0 c;rw[Deaf_other t (g':=0) (Ne.symm h0) _ YD];exact(h.sits j q B).k5 G (V j q.l h0 AU) (a.IG q.l)
  ·rw[R];have:(rs.length==0)=false:=by grind
   rw[this];have P:=I;rw[a.deaf.2.2.2]at P;exact P
 ·rw[List.map_append,o.aU];grind
 ·rcases v j s f with⟨A,c⟩|⟨rfl,rfl⟩
  ·by_cases h0:j=0
   ·subst h0;rw[o.e9]at c;cases c;exact⟨⟨fun _ _=>rfl,Nat.le_refl _,rfl⟩,.refl _,rfl,rfl⟩
   ·obtain⟨q,B,rfl⟩:=o.other h0 c;obtain⟨L,U,T,S⟩:=h.rely j q B;refine⟨⟨fun b W=>?_,Nat.le_trans L.size a.keep.size,?_⟩,U.trans a.keep.os,a.keep.output.trans T,a.keep.tape.trans S⟩
    ·rw[<-L.heap b W];grind
    ·rw[<-L.env];obtain⟨d,hd⟩:=a.keep.os;rw[hd]
  ·exact⟨⟨fun _ _=>rfl,Nat.le_refl _,rfl⟩,.refl _,rfl,rfl⟩
 ·grind
 ·grind
 ·rcases v j s f with⟨A,c⟩|⟨rfl,rfl⟩
  ·obtain⟨q,B,rfl⟩:=o.other h0 c;exact h.old j q B h0 F0
  ·omega
 ·have J:Deaf (t++MemOp.ofEvents 0 fn pos es) 0=0:=by rw[C_];exact a.deaf.2.2.1
  have akC:(jk Z base E w1.heap.size a2).n=rs.length:=ly;have O:=D.akc (x:={g:=0,fn,pos,act:=.go rs.length}) (y:={g:=rs.length,fn:=z,pos:=pos',act:=.start}) AU AU J AU
   (fun b⟨s,p,_⟩=>AU)
  rw[N]at O;refine⟨a2,fun j s f=>?_,O.conv (by simp[jk]) rfl Jr rfl ?_ rfl rfl rfl rfl rfl ?_⟩
  ·rcases v j s f with⟨_,c⟩|⟨rfl,rfl⟩
   ·grind
   ·rw[show rc.l=lc from rfl,a.cD.2];refine⟨AU,fun e=>?_⟩;have:=(D.xl _ e).1.1;grind
  ·rintro j b ⟨s,p,C⟩;rcases v j s p with⟨_,c⟩|⟨rfl,rfl⟩
   ·exact .inl ⟨s,c,C⟩
   grind
  ·rintro j ⟨s,p,C⟩;rcases v j s p with⟨_,c⟩|⟨rfl,rfl⟩
   ·exact⟨s,c,C⟩
   ·rw[show rc.l=lc from rfl,a.past.2]at C;cases C
end
end
section
section
variable {Z:fG} {Q:Program} {Stop:Bool->Z.av->a6->Prop} {base:Nat} {rs cO:List (cK Z)} {γ bA:Z.aT} {w w1:World} {t:Trace}
theorem akD{n d:Nat}(h:QuitsD Q n d g):awake g:=fun x e=>by rcases h.status with h|h<;>rw[h]at e<;>cases e
theorem Inv.awake(h:Inv Z Q Stop base rs γ w t):∀g∈kN Z rs,awake g:=by intro g a;obtain⟨j,b⟩:=Array.mem_iff_getElem?.1 a;rw[C9]at b;obtain⟨r,d,rfl⟩:=Option.map_eq_some_iff.1 b;cases h.sits j r d with|runs a f _ _ _ _ _=>intro x e;grind|waits a _ _ _ _ _ _ _ _=>intro x e;grind|leaves _ c _ _=>exact akD c
theorem Inv.rel(h:Inv Z Q Stop base rs γ w t){j:Nat}{r:cK Z}(a:rs[j]?=some r):dX Z r.l γ r.X w:=
 let⟨e,d,c,b⟩:=h.rely j r a
 ⟨e,h.mt,⟨rs.map (·.l),j,AU,h.vZ⟩,d,c,b⟩
theorem Inv.step(G:Z.Good)(F:∀l X,Stop false l X->Z.Left l/\∃n,QuitsD Q n (Z.deaf l) X.g)(h:Inv Z Q Stop base rs γ w t)(yh:base<=rs.length)(sl:Option (Nat×Nat)):
 Rf Z Stop rs\/∃cO Y w' sl' ops,stepT Q (crowd (kN Z rs) w sl)=(.next (crowd (kN Z cO) w' sl'),ops)/\C5 (Mi Z Q Stop) (A9 cO Y) (A9 rs γ)/\Inv Z Q Stop base cO Y w' (t++ops)/\base<=cO.length:=by
 by_cases dF:Rf Z Stop rs
 ·grind
 refine .inr ?_;obtain⟨j,l,V,aC3,aC4⟩:=G.pq γ _ h.vZ;rw[List.getElem?_map]at V;obtain⟨R,Rh,rfl⟩:=Option.map_eq_some_iff.1 V;have O:R.g.status=.running:=by cases h.sits j R Rh with|runs f I _ _ _ _ _=>grind|waits _ _ _ _ _ C _ _ _=>grind|leaves _ _ hl _=>grind
 obtain⟨i,g,d,sl',hi,aC5,H⟩:=crowd_pick (P:=Q) (w:=w) (sl:=sl) h.awake ⟨j,R.g,by grind[C9],O⟩;rw[C9]at hi;obtain⟨r,a,rfl⟩:=Option.map_eq_some_iff.1 hi;have FG:i<rs.length:=(List.getElem?_eq_some_iff.1 a).1;have m:=h.at G d;rw[H];have S:(kN Z rs)[i]?=some r.g:=by grind[C9]
 have aC6:zJ r.g=1:=by grind[zJ]
 cases h.sits i r a with
 |runs f I ht aj hd h0 hl=>
  rcases ht.next with v|⟨_,d_⟩
  ·exfalso;rcases Nat.eq_zero_or_pos i with e|e
   ·subst e;exact dF ⟨r,a,v,f⟩
   grind
  ·cases d_ (w.at d) γ (G.refl _ _) (m.rel a)with
   |quiet u c y=>
    rename_i g1 w1 es;rw[<-f]at u;have qt:Z.wb γ w1:=by refine G.mt γ (w.at d) w1 (fun b z=>?_) m.mt;exact c.kp b (m.low b (.inr z)) z
    have II:xn Z r.l r.l (grown r.X.mine (w.at d) w1) es:=by
     refine .inl ⟨rfl,rfl,?_,c.evs⟩;have:∀(l:List Event)(d:Nat),(∀e∈l,¬yy Z e)->deafBehind d l.toArray=d:=by intro l;induction l with|nil=>intro d _;rfl|cons e l ih=>intro d hl;have he:=hl e Aa;have h1:=ih d (fun fQ m=>hl fQ AU);grind[deafBehind,yy]
     exact(this es.toList (Z.deaf r.l) (fun e he C=>c.low (.inl AU))).symm
    have N:(rs.map (·.l)).set i r.l=rs.map (·.l):=by apply List.ext_getElem?;grind
    obtain⟨cO,B,A,W⟩:=m.goes G F a hl hd c.keep qt (by rw[N];exact h.vZ) (fun _ s _ _=>G.refl _ _) c.run II AU y AU r.g.frame.fn r.g.frame.place;refine⟨cO,γ,w1,sl',_,by grind[runT_crowd_go],?_,A,?_⟩
    ·refine .inr ⟨rfl,.inl ⟨⟨i,(i==0,r.l,γ,r.X),(i==0,r.l,γ,⟨g1,w1,grown r.X.mine (w.at d) w1⟩),by grind[A9,FZ],?_,W⟩,h.akp G⟩⟩;refine⟨?_,rfl,rfl,rfl,w.at d,g1,w1,es,m.rel a,AU,c.run,c.low,rfl⟩;intro v;rcases Nat.eq_zero_or_pos i with e|e
     ·subst e;exact dF ⟨r,a,v,f⟩
     grind
    ·have:=congrArg Array.size B;grind[kN]
   |turn u c i8 y=>rename_i g1 w1 es l1 bA;obtain⟨k1,bE⟩:=akq a m.vZ c.A8;obtain⟨cO,B,A,W⟩:=m.goes G F a hl hd c.keep c.mt k1 bE c.run c.says (by rw[f];exact c.IG) y i8 r.g.frame.fn r.g.frame.place;rw[<-f]at u;refine⟨cO,bA,w1,sl',_,by grind[runT_crowd_go],.inl c.A8.1,A,?_⟩;have:=congrArg Array.size B;grind[kN]
   |wait u T C _=>
    rw[<-f]at u;let r1:cK Z:={r with g:={r.X.g with status:=.blocked}}
    have q:=Mk rs a r1 id;have YE:¬Stop (i==0) r.l r.X:=by
     intro v;rcases Nat.eq_zero_or_pos i with e|e
     ·subst e;exact dF ⟨r,a,v,f⟩
     grind
    refine⟨_,γ,w.at d,sl',_,by rw[runT_crowd_go S u,akv (by rw[f]),Rc rs i r1 id,f],?_,?_,?_⟩
    ·refine .inr ⟨rfl,.inr ⟨YC a q rfl rfl,.inr ⟨?_,?_⟩⟩⟩
     ·have:=YB a q;simp only[A9];grind
     ·have:=aku a q;simp only[A9];have e:zJ r1.g=0:=rfl;omega
    ·have L:∀fn pos,MemOp.ofEvents i fn pos #[]=#[]:=fun _ _=>by rw[ofEvents_eq];simp
     rw[L,Array.append_empty];refine m.record a q rfl rfl (fun k s D v=>?_) (.waits rfl I T ht YE C hd h0 hl) (fun _ _ x=>x);obtain⟨K,J,rfl⟩:=q.other D v;exact h.sits k K J
    grind
   |born U u z y hc=>rename_i g1 child w1 es l1 bA lc;have L:i=0:=AU;subst L;rw[<-f]at u;obtain⟨cO,B,A⟩:=m.akw G F yh a hl hd z y hc r.g.frame.fn child.frame.fn r.g.frame.place r.g.frame.place;refine⟨cO,bA,w1,sl',_,by grind[runT_crowd_spawn,kN],.inl z.be,A,?_⟩;have:=congrArg Array.size B;grind[kN]
 |waits f I T ht aj C hd h0 hl=>grind
 |leaves U c hl v=>
  obtain⟨g,l,X,n⟩:=r;cases n with
  |zero=>have:=c.1;grind
  |succ n=>
   rcases c with⟨hf,_⟩|⟨_,g',es,aC7,u,Mp⟩
   ·grind
   ·let r1:cK Z:=⟨g',l,X,n⟩
    have M:stepG Q (i==0) g (w.at d)=.go g' (w.at d) es:=AU;have q:=Mk rs a r1 (woken Q g g' (w.at d));have ql:i≠0:=AU;refine⟨_,γ,w.at d,sl',_,by rw[runT_crowd_go S M,Rc rs i r1],?_,?_,?_⟩
    ·refine .inr ⟨rfl,.inr ⟨YC a q rfl rfl,.inl ?_⟩⟩;have:=YB a q;simp only[A9];grind
    ·refine m.record a q rfl rfl (fun k s D nA=>?_) (.leaves U (by grind[Deaf_own]) hl v) (fun size a2 hT=>?_)
     ·obtain⟨K,J,rfl⟩:=q.other D nA;rw[Deaf_other t (g':=i) (Ne.symm D) _ YD];have E:g'.status=.running\/g'.status=.finished:=Mp.status;have key:=h.sits k K J;rcases E with E|E
      ·exact key.woken G E (G.refl _ _) (.inr id)
      ·have eqv:∀o,woken Q g g' (w.at d) o=woken Q g {g' with status:=.running} (w.at d) o:=fun o=>by grind[woken]
       rw[eqv];exact key.woken G (g1:={g' with status:=.running}) rfl (G.refl _ _) (.inr id)
     ·have:=eJ.mute (p:=jk Z base rs size a2) (i:=i) FG g.frame.fn g.frame.place es.toList hT AU;omega
    grind
theorem phase(G:Z.Good)(c:∀l X,Stop false l X->Z.Left l/\∃n,QuitsD Q n (Z.deaf l) X.g)(h:Inv Z Q Stop base rs γ w t)(g:base<=rs.length)(sl:Option (Nat×Nat)):
 xo Q (crowd (kN Z rs) w sl) t fun d cM=>∃cO b w' sl',d=crowd (kN Z cO) w' sl'/\Rf Z Stop cO/\Inv Z Q Stop base cO b w' cM/\base<=cO.length:=by
 refine ake (akf (Mi Z Q Stop)) (fun a m t=>∃rs γ w sl,m=crowd (kN Z rs) w sl/\a=A9 rs γ/\Inv Z Q Stop base rs γ w t/\base<=rs.length) _ ?_ (A9 rs γ) _ _ AU;rintro a m t ⟨rs,γ,w,sl,rfl,rfl,f,e⟩;rcases f.step G c e sl with i|⟨cO,b,w',sl',ops,p,o,k,j⟩
 ·grind
 grind
end
end
end bu
end Go.Proofs.YtoehnnefaeoeoaaGreat
