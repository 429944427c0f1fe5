import Derived.RangeFuncNested
import Derived.Conc.HoldsTime
import Derived.Test.YtncomcmfgmojkaaGreatPAB
set_option linter.all false
set_option maxRecDepth 100000
set_option maxHeartbeats 16000000
namespace Go.Proofs.YtncomcmfgmojkaaGreat
namespace av
def rL:Option Code->Bool
 |none=>true
 |some .ret=>true
 | _=>false
variable{aP fr:Frame}{a7 b0 cs:List Frame}{w w' w1:aO}{g1:Goroutine}{lH:Array Event}
section
variable{C:cO}{S:Sync}{ρ:Ren}
theorem ahr{main main':Bool}{base:List Frame}{l a:Nat}(jump:Option Code)(z:∀c,jump=some c->C.lG c)(s:ek C ρ fr aP)(m:iy C ρ cs a7)(q:iz fr cs)(y:ew C S ρ w w')(E:fr.roundOf=some l)(o:aP.roundOf=some a)(h:GStep.after (seen C.P fr.fn ((Instr.endRound l jump).events C.P w #[])) (match(Instr.endRound l jump).run C.P w with
  | .ok v w=>doReturn C.P main fr (cs++b0) none v w
  | .halt _ w=>.ended (.stuck "range over a function: no such loop" (fr.pos C.P)) w)=.go g1 w1 lH)(f:(ig (match(Instr.endRound a jump).run C.Q w' with
  | .ok v w=>doReturn C.Q main' aP (a7++base) none v w
  | .halt _ w=>.ended (.stuck "range over a function: no such loop" (aP.pos C.Q)) w)).drawn<=S.bound):
 ii C S ρ b0 base w' g1 w1 (GStep.after (seen C.Q aP.fn ((Instr.endRound a jump).events C.Q w' #[])) (match(Instr.endRound a jump).run C.Q w' with
  | .ok v w=>doReturn C.Q main' aP (a7++base) none v w
  | .halt _ w=>.ended (.stuck "range over a function: no such loop" (aP.pos C.Q)) w)):=by
 have t:ρ.rel l a:=by have:=s.roundOf;rw[E,o]at this;cases this;grind
 obtain⟨I,i⟩:=y9 h;have ln:Good ((Instr.endRound l jump).run C.P w):=by cases b:(Instr.endRound l jump).run C.P w with|ok v j=>trivial|halt x j=>grind
 have D:(kH ((Instr.endRound a jump).run C.Q w')).drawn<=S.bound:=by cases b:(Instr.endRound a jump).run C.Q w' with|ok v j=>rw[b]at f;simp only[WK]at f;exact f|halt x j=>rw[b]at f;exact f
 obtain⟨σ,H,k,g,F⟩:=agV t jump z S w w' y ln D;obtain⟨d,hd,u⟩:=F #[];rw[Array.empty_append]at hd;rw[hd];refine ii.after g (λe A=>u e (wS A)) ?_;generalize(Instr.endRound l jump).run C.P w=r at k i;generalize(Instr.endRound a jump).run C.Q w'=r' at k;cases k with
 |ok p n=>cases m with|nil=>have:=q.2;grind|cons B b=>exact WQ (s.mono g.le) (B.mono g.le) (iy.mono g.le b) q.P3 n p i
 |panic p n=>cases i
 |goexit n=>cases i
def K3{main main':Bool}{base:List Frame}(jump:Option Code)(p:∀c,jump=some c->C.lG c)(f:ek C ρ fr aP)(e:iy C ρ cs a7)(j:iz fr cs)(i:ew C S ρ w w')(L d:GStep)(k:fr.roundOf=none->L=(if rL jump=true then .go {frame:={fr with mode:=.returning},callers:=cs++b0,status:=.running,dying:=none} w else .ended (.stuck "exit, goto: no such block or label" (fr.pos C.P)) w))(r:∀l,fr.roundOf=some l->L=GStep.after (seen C.P fr.fn ((Instr.endRound l jump).events C.P w #[])) (match(Instr.endRound l jump).run C.P w with
  | .ok v w=>doReturn C.P main fr (cs++b0) none v w
  | .halt _ w=>.ended (.stuck "range over a function: no such loop" (fr.pos C.P)) w))(n:aP.roundOf=none->d=(if rL jump=true then .go {frame:={aP with mode:=.returning},callers:=a7++base,status:=.running,dying:=none} w' else .ended (.stuck "exit, goto: no such block or label" (aP.pos C.Q)) w'))(m:∀l,aP.roundOf=some l->d=GStep.after (seen C.Q aP.fn ((Instr.endRound l jump).events C.Q w' #[])) (match(Instr.endRound l jump).run C.Q w' with
  | .ok v w=>doReturn C.Q main' aP (a7++base) none v w
  | .halt _ w=>.ended (.stuck "range over a function: no such loop" (aP.pos C.Q)) w))(h:L=.go g1 w1 lH)(q:(ig d).drawn<=S.bound):ii C S ρ b0 base w' g1 w1 d:=by
 have b:=f.roundOf;cases h0:fr.roundOf with
 |none=>
  cases a:aP.roundOf with
  |some l=>rw[h0,a]at b;cases b
  |none=>
   rw[k h0]at h;rw[n a];split at h
   .rename_i g;rw[if_pos g];cases h;exact rK (fr:=fr) e j i Y Y (f.tB .returning)
   grind
 |some l=>cases a:aP.roundOf with|none=>rw[h0,a]at b;cases b|some o=>grind[y7,ahr]
theorem aht(j:C.Good){main':Bool}{base:List Frame}(z:ek C ρ fr aP)(p:iy C ρ cs a7)(F:iz fr cs)(E:ew C S ρ w w')(h:stepG.exec C.P true true fr (cs++b0) none w=.go g1 w1 lH)(hrun:g1.status=.running)(W:g1.dying=none)(g:(ig (stepG.exec C.Q main' true aP (a7++base) none w')).drawn<=S.bound):
 ii C S ρ b0 base w' g1 w1 (stepG.exec C.Q main' true aP (a7++base) none w'):=by
 have ht:=z.todo;have nG:=z.eval E.m3;have aU:∀{t cA:List Item},mE C ρ t cA->ii C S ρ b0 base w' (aZ {fr with todo:=t} (cs++b0)) w (.go (aZ {aP with todo:=cA} (a7++base)) w'):=λu=>rK (fr:=fr) p F E Y Y (z.wT u);cases m:fr.todo with
 |nil=>
  cases q:aP.todo with
  |cons a l=>rw[m,q]at ht;cases ht
  |nil=>
   refine K3 (main:=true) (main':=main') none (λc e=>Dv) z p F E (stepG.exec C.P true true fr (cs++b0) none w) _ ?_ ?_ ?_ ?_ h g
   .grind[stepG.exec,rL]
   .grind[stepG.exec,Sem.runT_eq]
   .grind[stepG.exec,rL]
   grind[stepG.exec,Sem.runT_eq]
 |cons i k=>
  cases q:aP.todo with
  |nil=>rw[m,q]at ht;cases ht
  |cons i' k'=>
   rw[m,q]at ht;cases ht with
   |cons hi hk=>
    cases hi with
    |@code c hok=>
     have A:=(j.oe c).1 hok;cases c with
     |skip=>unfold stepG.exec at h⊢;simp only[m]at h;simp only[q];cases h;exact aU hk
     |label l=>unfold stepG.exec at h⊢;simp only[m]at h;simp only[q];cases h;exact aU hk
     |seq a b=>simp only[ji,Bool.and_eq_true]at A;unfold stepG.exec at h⊢;simp only[m]at h;simp only[q];cases h;exact aU (.cons (.code ((j.oe _).2 A.1)) (.cons (.code ((j.oe _).2 A.2)) hk))
     |cond c a b=>
      simp only[ji,Bool.and_eq_true]at A;unfold stepG.exec at h⊢;simp only[m]at h;simp only[q];have U:=nG c A.1.1;generalize fr.eval c=v at h U;generalize aP.eval c=v' at U;cases U with
      |bool b=>
       cases h;refine aU (.cons (.code ?_) hk);cases b
       .exact(j.oe _).2 A.2
       .exact(j.oe _).2 A.1.2
      | _=>cases h
     |block id b=>unfold stepG.exec at h⊢;simp only[m]at h;simp only[q];cases h;exact aU (.cons (.code ((j.oe _).2 A)) (.cons (.inBlock id) hk))
     |loop b=>unfold stepG.exec at h⊢;simp only[m]at h;simp only[q];cases h;exact aU (.cons (.code ((j.oe _).2 A)) (.cons (.inLoop ((j.oe _).2 A)) hk))
     |scope b=>unfold stepG.exec at h⊢;simp only[m]at h;simp only[q];cases h;exact aU (.cons (.code ((j.oe _).2 A)) (.cons (.inScope ((j.oe _).2 A)) hk))
     |refuse s=>grind[stepG.exec]
     |ret=>
      refine K3 (main:=true) (main':=main') (some .ret) (λc e=>AA) z p F E (stepG.exec C.P true true fr (cs++b0) none w) _ ?_ ?_ ?_ ?_ h g
      .grind[stepG.exec,rL]
      .grind[stepG.exec,Sem.runT_eq]
      .grind[stepG.exec,rL]
      grind[stepG.exec,Sem.runT_eq]
     |exit id=>
      have u:=ahk id hk;cases O:exitTo id k with
      |some t=>cases L:exitTo id k' with|none=>rw[O,L]at u;cases u|some cA=>rw[O,L]at u;cases u with|some u=>unfold stepG.exec at h⊢;simp only[m,O,Option.elim_some]at h;simp only[q,L,Option.elim_some];cases h;exact aU u
      |none=>
       cases L:exitTo id k' with
       |some t=>rw[O,L]at u;cases u
       |none=>
        refine K3 (main:=true) (main':=main') (some (.exit id)) (λc e=>AA) z p F E (stepG.exec C.P true true fr (cs++b0) none w) _ ?_ ?_ ?_ ?_ h g
        .grind[stepG.exec]
        .grind[stepG.exec,Sem.runT_eq]
        .grind[stepG.exec,rL]
        grind[stepG.exec,Sem.runT_eq]
     |goto id=>
      have u:=ahn j.oe id hk;cases O:gotoIn id k with
      |some t=>cases L:gotoIn id k' with|none=>rw[O,L]at u;cases u|some cA=>rw[O,L]at u;cases u with|some u=>unfold stepG.exec at h⊢;simp only[m,O,Option.elim_some]at h;simp only[q,L,Option.elim_some];cases h;exact aU u
      |none=>
       cases L:gotoIn id k' with
       |some t=>rw[O,L]at u;cases u
       |none=>
        refine K3 (main:=true) (main':=main') (some (.goto id)) (λc e=>AA) z p F E (stepG.exec C.P true true fr (cs++b0) none w) _ ?_ ?_ ?_ ?_ h g
        .grind[stepG.exec]
        .grind[stepG.exec,Sem.runT_eq]
        .grind[stepG.exec,rL]
        grind[stepG.exec,Sem.runT_eq]
     |region id ops draw=>
      simp only[ji,Array.all_eq_true_iff_forall_mem]at A;unfold stepG.exec at h g⊢;simp only[m]at h;simp only[q]at g⊢;cases draw with
      |false=>simp only[Bool.not_false,if_true]at h⊢;cases h;exact aU (.cons (.inRegion A _) hk)
      |true=>
       simp only[Bool.not_true,Bool.false_eq_true,if_false]at h g⊢;have eq:(Question.order aP.fn id)=.order fr.fn id:=by rw[z.fn]
       rw[eq]at g⊢;rw[j.follows];have V:(kH ((Go.choose (.order fr.fn id)).run C.Q w')).drawn<=S.bound:=by cases I:(Go.choose (.order fr.fn id)).run C.Q w' with|ok v H=>rw[I]at g;exact g|halt x H=>rw[I]at g;exact g
       have hch:=ap.choose (C:=C) (ρ:=ρ) (.order fr.fn id) S w w' E (by unfold Go.choose;simp only[Sem.run,Question.forced];trivial) V;obtain⟨σ,sK,D,B,_⟩:=hch;generalize(Go.choose (.order fr.fn id)).run C.P w=r at D h;generalize(Go.choose (.order fr.fn id)).run C.Q w'=r' at D;cases D with|ok ht Q=>subst ht;cases h;refine⟨σ,_,cs,_,a7,_,_,Y,Y,?_,iy.mono B.le p,F.same Y Y,Q,B,A_⟩;exact(z.mono B.le).wT (.cons (.inRegion A _) (mE.mono B.le hk))|panic=>cases h|goexit=>cases h
     |rangeFunc f params assign body=>
      simp only[ji,Bool.and_eq_true]at A;unfold stepG.exec at h g⊢;simp only[m,Sem.runT_eq]at h;simp only[q,Sem.runT_eq]at g⊢;obtain⟨sJ,J⟩:=y9 h;rw[y7]at g;have P8:=WB (C:=C) (ρ:=ρ) fr.fn z.known z.tmps params ((j.oe _).2 A.1.2) ((j.oe _).2 A.2) z.roundOf;have P9:Instr.enterLoop aP.fn aP.tmps params assign body aP.roundOf=Instr.enterLoop fr.fn aP.tmps params assign body aP.roundOf:=by rw[z.fn]
      rw[P9]at g⊢;have V:(kH ((Instr.enterLoop fr.fn aP.tmps params assign body aP.roundOf).run C.Q w')).drawn<=S.bound:=by cases I:(Instr.enterLoop fr.fn aP.tmps params assign body aP.roundOf).run C.Q w' with|ok v H=>rw[I]at g;exact Nat.le_trans (Nat.le_trans (AJ C.Q _ H).1 (EF C.Q _ _ none _ H)) g|halt x H=>rw[I]at g;exact g
      have ln:Good ((Instr.enterLoop fr.fn fr.tmps params assign body fr.roundOf).run C.P w):=by cases I:(Instr.enterLoop fr.fn fr.tmps params assign body fr.roundOf).run C.P w with|ok v H=>trivial|halt x H=>grind
      obtain⟨σ,sK,D,B,cS⟩:=P8 S w w' E ln V;obtain⟨d,hd,X⟩:=cS #[];rw[Array.empty_append]at hd;rw[hd];refine ii.after B (λe m=>X e (wS m)) ?_;generalize(Instr.enterLoop fr.fn fr.tmps params assign body fr.roundOf).run C.P w=r at D J;generalize(Instr.enterLoop fr.fn aP.tmps params assign body aP.roundOf).run C.Q w'=r' at D g;cases D with
      |@ok a b vk _ eN Q=>
       obtain⟨l,mark⟩:=a;obtain⟨N,Hs⟩:=b;obtain⟨P,sL⟩:=eN;have K:=z.mono B.le;have m6:ek C σ {fr with todo:=.inRangeFunc l::k,defers:=mark++fr.defers} {aP with todo:=.inRangeFunc N::k',defers:=Hs++aP.defers}:=
        ⟨K.fn,K.known,K.tmps,.cons (.inRangeFunc P) (mE.mono B.le hk),dy.append sL K.defers,K.mode,K.kind,K.plain,K.roundOf⟩
       have P_:=m6.eval Q.m3;refine P5 j.funcs m6 (iy.mono B.le p) (F.same Y Y) Q ?_ (.inl j.P6) (j.follows _) J hrun W g;refine .bind (R:=y2) ?_ λcN x y _ hd=>Hp j.same j.EH j.funcs hd.target hd.args;have hf:=P_ f A.1.1;simp only[resolve];revert hf;generalize Frame.eval _ f=v;generalize Frame.eval _ f=v';intro hf;unfold Deferred.ofValue;have hy:aS σ #[Value.func (.yield l) #[] #[]] #[Value.func (.yield N) #[] #[]]:=.one (.Hb (.yield P) (.nil σ) (.nil σ));have mc:aS σ ((#[Operand.const (.func (.yield l) #[] #[])]:Array Operand).map (Frame.eval {fr with todo:=.inRangeFunc l::k,defers:=mark++fr.defers})) ((#[Operand.const (.func (.yield N) #[] #[])]:Array Operand).map (Frame.eval {aP with todo:=.inRangeFunc N::k',defers:=Hs++aP.defers})):=by grind[Frame.eval]
       cases hf with|func ix h1 h3 h4 a4=>exact .pure ⟨.fn ix ⟨h3,a4⟩,aS.append ⟨h1,h4⟩ mc⟩|nilFunc=>exact .pure ⟨.nil,mc⟩| _=>exact .stuck
      |panic=>cases J
      |goexit=>cases J
    |inBlock id=>unfold stepG.exec at h⊢;simp only[m]at h;simp only[q];cases h;exact aU hk
    |inScope g=>unfold stepG.exec at h⊢;simp only[m]at h;simp only[q];cases h;exact aU hk
    |inLoop g=>unfold stepG.exec at h⊢;simp only[m]at h;simp only[q];cases h;exact aU (.cons (.code g) (.cons (.inLoop g) hk))
    |@inRegion ops AW todo=>
     cases todo with
     |nil=>unfold stepG.exec at h⊢;simp only[m]at h;simp only[q];cases h;exact aU hk
     |cons n rest=>
      unfold stepG.exec at h g⊢;simp only[m]at h;simp only[q]at g⊢;rw[<-WP z.tmps ops]at g⊢;split at h
      .rename_i Ht;rw[if_pos Ht]at g⊢;have Z:∃o,ops[n]?=some o:=by grind
       obtain⟨o,D⟩:=Z;have AX:=AW o (Array.mem_of_getElem? D);have h1:fr.oper?=some o:=HW;have jj:aP.oper?=some o:=HW;have M:=z.roundOf;unfold stepG.oper at h g⊢;simp only[h1]at h;simp only[jj]at g⊢;have plain:stepG.apply C.P true fr (cs++b0) none (execOp fr.eval o) w=.go g1 w1 lH->(ig (stepG.apply C.Q true aP (a7++base) none (execOp aP.eval o) w')).drawn<=S.bound->ii C S ρ b0 base w' g1 w1 (stepG.apply C.Q true aP (a7++base) none (execOp aP.eval o) w'):=λu hy=>
        P5 j.funcs z p F E (WJ j.same j.EH j.funcs nG AX) (.inl j.P6) (j.follows _) u hrun W hy
       cases h0:fr.roundOf with
       |none=>cases T:aP.roundOf with|some l=>rw[h0,T]at M;cases M|none=>grind
       |some l=>cases T:aP.roundOf with|none=>rw[h0,T]at M;cases M|some N=>rw[h0,T]at M;cases M with|some P=>cases hc:o.op with|defer c=>rw[hc]at AX;cases AX| _=>simp only[h0,hc]at h;simp only[T,hc]at g;exact plain h g
      .rename_i Ht;rw[if_neg Ht];cases h;exact rK (fr:=fr) p F E (y8 _ _).1 (y8 _ _).2 (z.finish (.undef ρ))
    |inRangeFunc P=>grind[stepG.exec]
    |@endRangeFunc l N P=>
     unfold stepG.exec at h g⊢;simp only[m,Sem.runT_eq]at h;simp only[q,Sem.runT_eq]at g⊢;obtain⟨sJ,J⟩:=y9 h;rw[y7]at g;have V:(kH ((Instr.endLoop N).run C.Q w')).drawn<=S.bound:=by cases I:(Instr.endLoop N).run C.Q w' with|ok v H=>rw[I]at g;exact g|halt x H=>rw[I]at g;cases x<;>exact g
     have ln:Good ((Instr.endLoop l).run C.P w):=by cases I:(Instr.endLoop l).run C.P w with|ok v H=>trivial|halt x H=>rw[I]at J;cases x with|panic v=>trivial| _=>cases J
     obtain⟨σ,sK,D,B,cS⟩:=agW P j.same S w w' E ln V;obtain⟨d,hd,X⟩:=cS #[];rw[Array.empty_append]at hd;rw[hd];refine ii.after B (λe m=>X e (wS m)) ?_;generalize(Instr.endLoop l).run C.P w=r at D J;generalize(Instr.endLoop N).run C.Q w'=r' at D;have K:=z.mono B.le;have pZ:=iy.mono B.le p;cases D with
     |@ok a b vk _ eN Q=>obtain⟨e,hj⟩:=eN;subst e;cases J;refine rK (fr:=fr) pZ F Q Y Y (K.wT (dy.append ?_ (mE.mono B.le hk)));cases a with|none=>exact .nil|some c=>exact .cons (.code (hj c Y)) .nil
     |panic U Q=>cases J;exact rK (fr:=fr) pZ F Q (sI _ _).1 (sI _ _).2 (K.raise (.cons ⟨U,Y,Y⟩ .nil))
     |goexit=>cases J
    |beginRound=>unfold stepG.exec at h g⊢;simp only[m]at h;simp only[q]at g⊢;refine P5 j.funcs z p F E (.bind (R:=λ_(_ _:Unit)=>True) ?_ λ_ _ _ _ _=>.pure .skip) (.inl j.P6) (j.follows _) h hrun W g;have M:=z.roundOf;generalize fr.roundOf=a at M;generalize aP.roundOf=b at M;cases M with|none=>exact .stuck|some P=>exact WC P j.same
end
variable{g:Goroutine}{es:Array Event}{cA t:Array Value}{a b:GStep}
section
section
variable{C:cO}{S:Sync}{ρ:Ren}
def ahu(c:C.co):∀(l:List ResultVar)(ρ:Ren),aS ρ t cA->ap C ρ (λσ a b=>dy (ay σ) a b)
 (l.mapM λ| .tmp x=>pure (t.getD x undef)| .cell a ty=>do Go.loadVar ty (<-Go.asAddr (t.getD a undef))) (l.mapM λ| .tmp x=>pure (cA.getD x undef)| .cell a ty=>do Go.loadVar ty (<-Go.asAddr (cA.getD a undef))):=by
 intro l;induction l with|nil=>intro ρ _;simp only[List.mapM_nil];exact .pure .nil|cons r l d=>intro ρ h;simp only[List.mapM_cons];refine .bind (R:=ay) ?_ λσ v i l1 e=>.bind (d σ (h.mono l1)) λk a b l2 g=>.pure (.cons (e.mono l2) g);cases r with|tmp x=>exact .pure (h.getD (.undef ρ) x)|cell a ty=>exact .bind (ap.asAddr c (h.getD (.undef ρ) a)) λσ p j _ f=>ap.loadVar c ty f
def ahv(e:C.co)(fn:Func)(h:aS ρ t cA):ap C ρ ay (results fn t) (results fn cA):=by
 unfold results;refine .bind (R:=aS) ?_ λσ a b _ c=>.pure ?_
 .rw[Array.mapM_eq_mapM_toList,Array.mapM_eq_mapM_toList];exact .bind (f:=λl=>Pure.pure l.toArray) (f':=λl=>Pure.pure l.toArray) (ahu e fn.results.toList ρ h) λσ a b _ c=>.pure (aS.KO c)
 .by_cases h1:a.size=1
  .have d:b.size=1:=c.size▸h1;rw[dif_pos h1,dif_pos d];exact c.get 0 _ _ AA AA
  .have d:¬b.size=1:=c.size▸h1;rw[dif_neg h1,dif_neg d];exact .PI c
def ahw{c:Prop}[Decidable c](h:(if c then a else b)=.go g w es)(d:∀g w es,a≠ .go g w es):¬c/\b=.go g w es:=by grind
def ii.ite{c:Prop}[Decidable c]{base:List Frame}(hn:¬c)(h:ii C S ρ b0 base w' g1 w1 b):ii C S ρ b0 base w' g1 w1 (if c then a else b):=by grind
def ahx(p:C.Good){base:List Frame}{d i:Deferred}(E:ek C ρ fr aP)(s:iy C ρ cs a7)(n:iz fr cs)(N:ew C S ρ w w')(hd:y2 ρ d i)(h:callDeferred C.P fr (cs++b0) none d w=.go g1 w1 lH)(hrun:g1.status=.running)(J:g1.dying=none)(l:(ig (callDeferred C.Q aP (a7++base) none i w')).drawn<=S.bound):ii C S ρ b0 base w' g1 w1 (callDeferred C.Q aP (a7++base) none i w'):=by
 have V:∀{t cA:Target}{m A:FrameMode},tw ρ t cA->tA ρ m A->((t matches .nil)&&(m matches .panicking _))=((cA matches .nil)&&(A matches .panicking _)):=λht Q=>by cases ht<;>cases Q<;>rfl
 have F:=V hd.target E.mode;have z:=WM C.Q aP (a7++base) none i w';unfold callDeferred at h⊢;simp only[Sem.runT_eq]at h⊢;obtain⟨D,h⟩:=ahw h (λ_ _ _=>A_);refine ii.ite (λb=>D (Eq.trans F b)) ?_;have z:=Nat.le_trans (z.resolve_left λb=>D (Eq.trans F b)) l;obtain⟨X,a⟩:=y9 h;clear h;have ln:Good ((invoke d.target d.args).run C.P w):=by cases O:(invoke d.target d.args).run C.P w with|ok W I=>trivial|halt x I=>rw[O]at a;cases x with|panic v=>trivial|goexit=>trivial|blocked=>grind|waiting=>grind|unsupported u=>cases a|exit c=>cases a|fatal m=>grind[WN]|throw m=>exact absurd J (P4 a)|stuck m=>cases a
 obtain⟨σ,L,q,f,U⟩:=Hp p.same p.EH p.funcs hd.target hd.args S w w' N ln z;obtain⟨dd,k,M⟩:=U #[];rw[Array.empty_append]at k;rw[k];have o:=E.mono f.le;have j:=iy.mono f.le s;generalize(invoke d.target d.args).run C.P w=r at q a;generalize(invoke i.target i.args).run C.Q w'=r' at q;have evs:∀e∈seen C.Q aP.fn dd,vj σ e:=λe T=>M e (wS T);cases q with
 |@ok _ _ K _ hn g=>have keep:ii C S ρ b0 base w' (aZ fr (cs++b0)) K (GStep.after (seen C.Q aP.fn dd) (.go (aZ aP (a7++base)) L)):=ii.after f evs (rK j n g Y Y o);cases hn with|value B=>cases a;exact keep|skip=>cases a;exact keep|enter y P l=>cases a;refine ii.after f evs ?_;exact⟨σ,_,fr::cs,_,aP::a7,_,_,Y,Y,.enter p.funcs y P l K1,.cons o j,n.push,g,.refl _ _,A_⟩|round R H ht y l=>cases a;refine ii.after f evs ?_;exact⟨σ,_,fr::cs,_,aP::a7,_,_,Y,Y,.round R H ht y l K1,.cons o j,n.push,g,.refl _ _,A_⟩
 |panic B g=>cases a;exact ii.after f evs (rK (fr:=fr) j n g (sI _ _).1 (sI _ _).2 (o.raise (.cons ⟨B,Y,Y⟩ .nil)))
 |goexit g=>cases a;exact ii.after f evs (rK (fr:=fr) j n g (sI _ _).1 (sI _ _).2 (o.raise (.cons ⟨.undef σ,Y,Y⟩ .nil)))
def EJ(fr:Frame)(cs:List Frame):Prop:=cs=[]/\fr.defers=[]/\(fr.mode=.returning\/∃l,fr.mode=.panicking l)
theorem WS(J:C.Good){main':Bool}{base:List Frame}(k:ek C ρ fr aP)(u:iy C ρ cs a7)(D:iz fr cs)(B:ew C S ρ w w')(ahy:fr.mode≠ .run)(Z:¬EJ fr cs)(h:unwind C.P true fr (cs++b0) none w=.go g1 w1 lH)(hrun:g1.status=.running)(T:g1.dying=none)(b:(ig (unwind C.Q main' aP (a7++base) none w')).drawn<=S.bound):ii C S ρ b0 base w' g1 w1 (unwind C.Q main' aP (a7++base) none w'):=by
 have n:=k.defers;cases hd:fr.defers with
 |cons d ds=>
  cases A:aP.defers with
  |nil=>rw[hd,A]at n;cases n
  |cons L ij=>
   rw[hd,A]at n;cases n with
   |cons p z=>
    have plain:(∀r,d.target≠ .collected r)->ii C S ρ b0 base w' g1 w1 (unwind C.Q main' aP (a7++base) none w'):=by
     intro hn;have kN:∀r,L.target≠ .collected r:=by intro r e;have:=p.target;rw[e]at this;generalize hq:d.target=q at this;cases this;grind
     have e1:unwind C.P true fr (cs++b0) none w=callDeferred C.P {fr with defers:=ds} (cs++b0) none d w:=by unfold unwind;grind
     have e2:unwind C.Q main' aP (a7++base) none w'=callDeferred C.Q {aP with defers:=ij} (a7++base) none L w':=by unfold unwind;grind
     rw[e1]at h;rw[e2]at b⊢;exact ahx J (k.AU z) u (D.same Y Y) B p h hrun T b
    obtain⟨t,a⟩:=d;obtain⟨cA,a'⟩:=L;cases t with
    |collected r=>
     have N:=p.target;cases N with
     |collected O=>
      rename_i P;unfold unwind at h b⊢;simp only[hd,Sem.runT_eq]at h;simp only[A,Sem.runT_eq]at b⊢;obtain⟨V,j⟩:=y9 h;rw[y7]at b;have I:(kH ((Instr.takeDeferred P).run C.Q w')).drawn<=S.bound:=by cases hq:(Instr.takeDeferred P).run C.Q w' with|ok v m=>rw[hq]at b;exact b|halt x m=>rw[hq]at b;exact b
      have ln:Good ((Instr.takeDeferred r).run C.P w):=by cases hq:(Instr.takeDeferred r).run C.P w with|ok v m=>trivial|halt x m=>grind
      obtain⟨σ,U,s,i,M⟩:=agX O S w w' B ln I;obtain⟨dd,g,E⟩:=M #[];rw[Array.empty_append]at g;rw[g];refine ii.after i (λe H=>E e (wS H)) ?_;generalize(Instr.takeDeferred r).run C.P w=q at s j;generalize(Instr.takeDeferred _).run C.Q w'=q' at s;cases s with|ok F K=>cases j;exact rK (fr:=fr) (iy.mono i.le u) D K Y Y ((k.mono i.le).AU (dy.append F (qQ.mono i.le z)))|panic=>cases j|goexit=>cases j
    | _=>grind
 |nil=>
  have A:aP.defers=[]:=by rw[hd]at n;generalize aP.defers=q at n;cases n;rfl
  have f:=k.mode;obtain⟨fn,c,Q,AY⟩:=k.known;obtain⟨hq,_,_⟩:=J.funcs.body _ _ _ Q AY;rw[k.fn]at hq;cases u with
  |nil=>exfalso;apply Z;refine⟨Y,hd,?_⟩;cases y:fr.mode with|run=>grind|returning=>grind|panicking l=>grind
  |@cons cX K5 cs a7 R z=>
   unfold unwind at h b⊢;simp only[hd]at h;simp only[A]at b⊢;cases y:fr.mode with
   |run=>grind
   |returning=>
    rw[y]at f;cases o:aP.mode with
    |run=>rw[o]at f;cases f
    |panicking l=>rw[o]at f;cases f
    |returning=>
     simp only[y,Q,Sem.runT_eq]at h;simp only[o,hq,Sem.runT_eq]at b⊢;obtain⟨V,j⟩:=y9 h;rw[y7]at b;have I:(kH ((results fn aP.tmps).run C.Q w')).drawn<=S.bound:=by cases p:(results fn aP.tmps).run C.Q w' with|ok v m=>rw[p]at b;simp only[WK]at b;exact b|halt x m=>rw[p]at b;cases x<;>exact b
     have ln:Good ((results fn fr.tmps).run C.P w):=by cases p:(results fn fr.tmps).run C.P w with|ok v m=>trivial|halt x m=>grind
     obtain⟨σ,U,s,i,M⟩:=ahv J.same fn k.tmps S w w' B ln I;obtain⟨dd,g,E⟩:=M #[];rw[Array.empty_append]at g;rw[g];refine ii.after i (λe H=>E e (wS H)) ?_;generalize(results fn fr.tmps).run C.P w=q at s j;generalize(results fn aP.tmps).run C.Q w'=q' at s;cases s with|ok F K=>exact WQ (k.mono i.le) (R.mono i.le) (iy.mono i.le z) D.P3 K F j|panic=>cases j|goexit=>cases j
   |panicking l=>
    rw[y]at f;cases o:aP.mode with
    |run=>rw[o]at f;cases f
    |returning=>rw[o]at f;cases f
    |panicking l'=>
     rw[o]at f;cases f with
     |panicking hl=>
      have X:fr.catches C.P=false:=AA;have W:aP.catches C.Q=false:=by grind[Frame.catches]
      simp only[y,X]at h;simp only[W];cases h;exact rK (fr:=cX) z D.P3 B (sI _ _).1 (sI _ _).2 (R.raise hl)
theorem ahB(m:C.Good){main':Bool}{base:List Frame}(e:ek C ρ fr aP)(d:iy C ρ cs a7)(n:iz fr cs)(j:ew C S ρ w w')(i:¬EJ fr cs)(h:stepG C.P true (aZ fr (cs++b0)) w=.go g1 w1 lH)(hrun:g1.status=.running)(f:g1.dying=none)(k:(ig (stepG C.Q main' (aZ aP (a7++base)) w')).drawn<=S.bound):ii C S ρ b0 base w' g1 w1 (stepG C.Q main' (aZ aP (a7++base)) w'):=by
 have a:=e.mode;cases c:fr.mode with
 |run=>rw[c]at a;cases b:aP.mode with|run=>grind[stepG,aZ,aht]| _=>rw[b]at a;cases a
 |returning=>rw[c]at a;cases b:aP.mode with|returning=>grind[stepG,aZ,WS]| _=>rw[b]at a;cases a
 |panicking l=>rw[c]at a;cases b:aP.mode with|panicking g=>grind[stepG,aZ,WS]| _=>rw[b]at a;cases a
end
end
def Hu(g:Goroutine):Prop:=(g.dying=none/\(g.status=.blocked\/g.status=.waiting))\/∃d f,g.dying=some d/\d.fatal=some f/\d.calling=false/\(g.status=.running\/g.status=.blocked)
def Kind:GStep->Prop
 | .go g _ _=>(g.status=.running/\g.dying=none)\/Hu g
 | .ended .. =>True
 | _=>False
variable{s:GStep}
theorem Kind.after(h:Kind s):Kind (GStep.after es s):=by cases s<;>exact h
def Kind.ite{c:Prop}[Decidable c](e:Kind a)(d:Kind b):Kind (if c then a else b):=by grind
def Kind.pos{c:Prop}[Decidable c](h:c)(d:Kind a):Kind (if c then a else b):=by grind
def Qa{ps:List ByteArray}{m:String}{b:Bool}:Kind (dieOf fr ps m b w):=.inr (.inr ⟨_,_,Y,Y,Y,.inl Y⟩)
def WT{P:cg}{d:Option Dying}{m:String}:Kind (endFatal P fr cs d m w):=by
 unfold endFatal;simp only[];split
 .exact Qa
 .trivial
 .trivial
def Qb:Result Next->Prop
 | .ok (.value _) _ | .ok .skip _ | .ok (.enter ..) _ | .ok (.round ..) _=>True
 | .ok _ _=>False
 | .halt (.unsupported (.initOrder _)) _=>False
 | .halt _ _=>True
section
variable{C:cO}{S:Sync}{ρ:Ren}
def K6{s s':Sem Next}(hs:ap C ρ (pa C) s s')(c:ew C S ρ w w')(d:(kH (s'.run C.Q w')).drawn<=S.bound):Qb (s.run C.P w):=by
 by_cases hg:Good (s.run C.P w)
 .obtain⟨σ,w1,a,_,_⟩:=hs S w w' c hg d;generalize s.run C.P w=r at a;generalize s'.run C.Q w'=r' at a;cases a with|ok h _=>cases h<;>trivial|panic=>trivial|goexit=>trivial
 .cases b:s.run C.P w with
  |ok v w1=>rw[b]at hg;exact absurd trivial hg
  |halt x w1=>
   rw[b]at hg;cases x with
   |unsupported u=>cases u<;>first|trivial|exact absurd trivial hg
   | _=>trivial
def Qc{P:cg}{s:Sem Next}(h:Qb (s.run P w)):Kind (stepG.apply P true fr cs none s w):=by
 unfold stepG.apply;simp only[Sem.runT_eq,if_true];refine Kind.after ?_;cases d:s.run P w with
 |ok e w1=>rw[d]at h;cases e with|value v=>exact .inl ⟨Y,Y⟩|skip=>exact .inl ⟨Y,Y⟩|enter f a=>exact .inl ⟨Y,Y⟩|round l f t a b=>exact .inl ⟨Y,Y⟩| _=>exact absurd h id
 |halt x w1=>
  rw[d]at h;cases x with
  |panic v=>exact .inl ⟨Y,Y⟩
  |goexit=>exact .inl ⟨Y,Y⟩
  |blocked=>exact .inr (.inl ⟨Y,.inl Y⟩)
  |waiting=>exact .inr (.inl ⟨Y,.inr Y⟩)
  |unsupported u=>cases u<;>first|trivial|exact absurd h id
  |exit c=>trivial
  |fatal m=>exact WT
  |throw m=>exact Qa
  |stuck m=>trivial
def ahC{P:cg}{d:Deferred}(h:Qb ((invoke d.target d.args).run P w)):Kind (callDeferred P fr cs none d w):=by
 unfold callDeferred;refine Kind.ite trivial ?_;simp only[Sem.runT_eq];refine Kind.after ?_;cases e:(invoke d.target d.args).run P w with
 |ok g w1=>rw[e]at h;cases g with|value v=>exact .inl ⟨Y,Y⟩|skip=>exact .inl ⟨Y,Y⟩|enter f a=>exact .inl ⟨Y,Y⟩|round l f t a b=>exact .inl ⟨Y,Y⟩| _=>exact absurd h id
 |halt x w1=>rw[e]at h;cases x with|panic v=>exact .inl ⟨Y,Y⟩|goexit=>exact .inl ⟨Y,Y⟩|blocked=>exact .inr (.inl ⟨Y,.inl Y⟩)|waiting=>exact .inr (.inl ⟨Y,.inr Y⟩)|unsupported u=>trivial|exit c=>trivial|fatal m=>exact WT|throw m=>exact Qa|stuck m=>trivial
def WU{P:cg}{main:Bool}{c:Frame}{v:Value}:Kind (doReturn P main fr (c::cs) none v w):=by unfold doReturn;simp only[];split<;>exact .inl ⟨Y,Y⟩
theorem ahD{P:cg}{main:Bool}{r:Result Value}(a:iz fr cs){l:Nat}(b:fr.roundOf=some l):
 Kind (GStep.after es (match r with| .ok v w=>doReturn P main fr (cs++b0) none v w| .halt _ w=>.ended (.stuck "range over a function: no such loop" (fr.pos P)) w)):=by
 refine Kind.after ?_;cases r with|halt x w=>trivial|ok v w=>cases cs with|nil=>have:=a.2;grind|cons c cs=>exact WU
def K7{P:cg}{main:Bool}(jump:Option Code)(b:iz fr cs)(L:GStep)(a:fr.roundOf=none->L=(if rL jump=true then .go {frame:={fr with mode:=.returning},callers:=cs++b0,status:=.running,dying:=none} w else .ended (.stuck "exit, goto: no such block or label" (fr.pos P)) w))(c:∀l,fr.roundOf=some l->L=GStep.after (seen P fr.fn ((Instr.endRound l jump).events P w #[])) (match(Instr.endRound l jump).run P w with
  | .ok v w=>doReturn P main fr (cs++b0) none v w
  | .halt _ w=>.ended (.stuck "range over a function: no such loop" (fr.pos P)) w)):Kind L:=by
 cases h0:fr.roundOf with
 |none=>
  rw[a h0];split
  .exact .inl ⟨Y,Y⟩
  .trivial
 |some l=>grind[ahD]
theorem WV(i:C.Good){main':Bool}{base:List Frame}(j:ek C ρ fr aP)(h:iy C ρ cs a7)(B:ew C S ρ w w')(J:fr.mode≠ .run)(y:¬EJ fr cs)(p:(ig (unwind C.Q main' aP (a7++base) none w')).drawn<=S.bound):Kind (unwind C.P true fr (cs++b0) none w):=by
 have b:=j.defers;cases hd:fr.defers with
 |cons d ds=>
  cases s:aP.defers with
  |nil=>rw[hd,s]at b;cases b
  |cons g n=>
   rw[hd,s]at b;cases b with
   |cons f D=>
    have plain:(∀r,d.target≠ .collected r)->Kind (unwind C.P true fr (cs++b0) none w):=by
     intro hn;have L:∀r,g.target≠ .collected r:=by intro r e;have:=f.target;rw[e]at this;generalize hq:d.target=q at this;cases this;grind
     have I:unwind C.P true fr (cs++b0) none w=callDeferred C.P {fr with defers:=ds} (cs++b0) none d w:=by unfold unwind;grind
     have H:unwind C.Q main' aP (a7++base) none w'=callDeferred C.Q {aP with defers:=n} (a7++base) none g w':=by unfold unwind;grind
     rw[I];rw[H]at p;rcases WM C.Q {aP with defers:=n} (a7++base) none g w' with o|F
     .have K:∀{t cA:Target}{m k:FrameMode},tw ρ t cA->tA ρ m k->((t matches .nil)&&(m matches .panicking _))=((cA matches .nil)&&(k matches .panicking _)):=λht E=>by cases ht<;>cases E<;>rfl
      have u:=Eq.trans (K f.target j.mode) o;unfold callDeferred;exact Kind.pos u trivial
     .exact ahC (K6 (Hp i.same i.EH i.funcs f.target f.args) B (Nat.le_trans F p))
    obtain⟨t,a⟩:=d;obtain⟨cA,a'⟩:=g;cases t with
    |collected r=>unfold unwind;simp only[hd,Sem.runT_eq];refine Kind.after ?_;cases(Instr.takeDeferred r).run C.P w with|ok v w1=>exact .inl ⟨Y,Y⟩|halt x w1=>trivial
    | _=>grind
 |nil=>
  obtain⟨fn,c,z,N⟩:=j.known;cases h with
  |nil=>exfalso;apply y;refine⟨Y,hd,?_⟩;cases A:fr.mode with|run=>grind|returning=>grind|panicking l=>grind
  |@cons cX M cs a7 o D=>
   unfold unwind;simp only[hd];cases A:fr.mode with
   |run=>grind
   |returning=>simp only[z,Sem.runT_eq];refine Kind.after ?_;cases(results fn fr.tmps).run C.P w with|ok v w1=>exact WU|halt x w1=>cases x<;>trivial
   |panicking l=>
    simp only[];split
    .trivial
    .exact .inl ⟨Y,Y⟩
theorem ahE(h:C.Good){main':Bool}{base:List Frame}(j:ek C ρ fr aP)(H:iz fr cs)(E:ew C S ρ w w')(d:(ig (stepG.exec C.Q main' true aP (a7++base) none w')).drawn<=S.bound):Kind (stepG.exec C.P true true fr (cs++b0) none w):=by
 have ht:=j.todo;have W:=j.eval E.m3;cases e:fr.todo with
 |nil=>
  refine K7 (main:=true) (P:=C.P) (w:=w) (b0:=b0) none H (stepG.exec C.P true true fr (cs++b0) none w) ?_ ?_
  .grind[stepG.exec,rL]
  grind[stepG.exec,Sem.runT_eq]
 |cons i k=>
  cases B:aP.todo with
  |nil=>rw[e,B]at ht;cases ht
  |cons i' k'=>
   rw[e,B]at ht;cases ht with
   |cons hi hk=>
    cases hi with
    |@code c hok=>
     have D:=(h.oe c).1 hok;cases c with
     |skip=>unfold stepG.exec;simp only[e];exact .inl ⟨Y,Y⟩
     |label l=>unfold stepG.exec;simp only[e];exact .inl ⟨Y,Y⟩
     |seq a b=>unfold stepG.exec;simp only[e];exact .inl ⟨Y,Y⟩
     |cond c a b=>unfold stepG.exec;simp only[e];cases fr.eval c with|bool b=>exact .inl ⟨Y,Y⟩| _=>trivial
     |block id b=>unfold stepG.exec;simp only[e];exact .inl ⟨Y,Y⟩
     |loop b=>unfold stepG.exec;simp only[e];exact .inl ⟨Y,Y⟩
     |scope b=>unfold stepG.exec;simp only[e];exact .inl ⟨Y,Y⟩
     |refuse s=>unfold stepG.exec;simp only[e];trivial
     |ret=>
      refine K7 (main:=true) (P:=C.P) (w:=w) (b0:=b0) (some .ret) H (stepG.exec C.P true true fr (cs++b0) none w) ?_ ?_
      .grind[stepG.exec,rL]
      grind[stepG.exec,Sem.runT_eq]
     |exit id=>
      cases K:exitTo id k with
      |some t=>unfold stepG.exec;simp only[e,K,Option.elim_some];exact .inl ⟨Y,Y⟩
      |none=>
       refine K7 (main:=true) (P:=C.P) (w:=w) (b0:=b0) (some (.exit id)) H (stepG.exec C.P true true fr (cs++b0) none w) ?_ ?_
       .grind[stepG.exec,rL]
       grind[stepG.exec,Sem.runT_eq]
     |goto id=>
      cases K:gotoIn id k with
      |some t=>unfold stepG.exec;simp only[e,K,Option.elim_some];exact .inl ⟨Y,Y⟩
      |none=>
       refine K7 (main:=true) (P:=C.P) (w:=w) (b0:=b0) (some (.goto id)) H (stepG.exec C.P true true fr (cs++b0) none w) ?_ ?_
       .grind[stepG.exec,rL]
       grind[stepG.exec,Sem.runT_eq]
     |region id ops draw=>unfold stepG.exec;simp only[e];cases draw with|false=>exact .inl ⟨Y,Y⟩|true=>simp only[Bool.not_true,Bool.false_eq_true,if_false];cases(Go.choose (.order fr.fn id)).run C.P w with|ok v w1=>exact .inl ⟨Y,Y⟩|halt x w1=>trivial
     |rangeFunc f params assign body=>
      simp only[ji,Bool.and_eq_true]at D;unfold stepG.exec at d⊢;simp only[e,Sem.runT_eq];simp only[B,Sem.runT_eq]at d;refine Kind.after ?_;rw[y7]at d;have P8:=WB (C:=C) (ρ:=ρ) fr.fn j.known j.tmps params ((h.oe _).2 D.1.2) ((h.oe _).2 D.2) j.roundOf;have P9:Instr.enterLoop aP.fn aP.tmps params assign body aP.roundOf=Instr.enterLoop fr.fn aP.tmps params assign body aP.roundOf:=by rw[j.fn]
      rw[P9]at d;have hV:(kH ((Instr.enterLoop fr.fn aP.tmps params assign body aP.roundOf).run C.Q w')).drawn<=S.bound:=by cases F:(Instr.enterLoop fr.fn aP.tmps params assign body aP.roundOf).run C.Q w' with|ok v u=>rw[F]at d;exact Nat.le_trans (Nat.le_trans (AJ C.Q _ u).1 (EF C.Q _ _ none _ u)) d|halt x u=>rw[F]at d;exact d
      by_cases ln:Good ((Instr.enterLoop fr.fn fr.tmps params assign body fr.roundOf).run C.P w)
      .obtain⟨σ,sK,A,Q,cS⟩:=P8 S w w' E ln hV;generalize(Instr.enterLoop fr.fn fr.tmps params assign body fr.roundOf).run C.P w=r at A;generalize(Instr.enterLoop fr.fn aP.tmps params assign body aP.roundOf).run C.Q w'=r' at A d;cases A with
       |@ok a b vk _ eN T=>
        obtain⟨l,mark⟩:=a;obtain⟨q,U⟩:=b;obtain⟨p,V⟩:=eN;have m:=j.mono Q.le;have X:ek C σ {fr with todo:=.inRangeFunc l::k,defers:=mark++fr.defers} {aP with todo:=.inRangeFunc q::k',defers:=U++aP.defers}:=
         ⟨m.fn,m.known,m.tmps,.cons (.inRangeFunc p) (mE.mono Q.le hk),dy.append V m.defers,m.mode,m.kind,m.plain,m.roundOf⟩
        have P_:=X.eval T.m3;refine Qc (K6 ?_ T (Nat.le_trans (EF C.Q _ _ none _ _) d));refine .bind (R:=y2) ?_ λcN x y _ hd=>Hp h.same h.EH h.funcs hd.target hd.args;have J:=P_ f D.1.1;simp only[resolve];revert J;generalize Frame.eval _ f=v;generalize Frame.eval _ f=v';intro J;unfold Deferred.ofValue;have N:aS σ #[Value.func (.yield l) #[] #[]] #[Value.func (.yield q) #[] #[]]:=.one (.Hb (.yield p) (.nil σ) (.nil σ));have M:aS σ ((#[Operand.const (.func (.yield l) #[] #[])]:Array Operand).map (Frame.eval {fr with todo:=.inRangeFunc l::k,defers:=mark++fr.defers})) ((#[Operand.const (.func (.yield q) #[] #[])]:Array Operand).map (Frame.eval {aP with todo:=.inRangeFunc q::k',defers:=U++aP.defers})):=by grind[Frame.eval]
        cases J with|func ix h1 h3 h4 a4=>exact .pure ⟨.fn ix ⟨h3,a4⟩,aS.append ⟨h1,h4⟩ M⟩|nilFunc=>exact .pure ⟨.nil,M⟩| _=>exact .stuck
       |panic=>trivial
       |goexit=>trivial
      .cases F:(Instr.enterLoop fr.fn fr.tmps params assign body fr.roundOf).run C.P w with|ok v u=>rw[F]at ln;exact absurd trivial ln|halt x u=>trivial
    |inBlock id=>unfold stepG.exec;simp only[e];exact .inl ⟨Y,Y⟩
    |inScope d=>unfold stepG.exec;simp only[e];exact .inl ⟨Y,Y⟩
    |inLoop d=>unfold stepG.exec;simp only[e];exact .inl ⟨Y,Y⟩
    |@inRegion ops AW todo=>
     cases todo with
     |nil=>unfold stepG.exec;simp only[e];exact .inl ⟨Y,Y⟩
     |cons n rest=>
      unfold stepG.exec at d⊢;simp only[e];simp only[B]at d;rw[<-WP j.tmps ops]at d;split
      .rename_i Ht;rw[if_pos Ht]at d;have I:∃o,ops[n]?=some o:=by grind
       obtain⟨o,A⟩:=I;have L:=AW o (Array.mem_of_getElem? A);have h1:fr.oper?=some o:=HW;have Z:aP.oper?=some o:=HW;have g:=j.roundOf;unfold stepG.oper at d⊢;simp only[h1];simp only[Z]at d;have plain:(ig (stepG.apply C.Q true aP (a7++base) none (execOp aP.eval o) w')).drawn<=S.bound->Kind (stepG.apply C.P true fr (cs++b0) none (execOp fr.eval o) w):=λN=>
        Qc (K6 (WJ h.same h.EH h.funcs W L) E (Nat.le_trans (EF C.Q _ _ none _ _) N))
       cases h0:fr.roundOf with
       |none=>cases z:aP.roundOf with|some l=>rw[h0,z]at g;cases g|none=>grind
       |some l=>cases z:aP.roundOf with|none=>rw[h0,z]at g;cases g|some q=>rw[h0,z]at g;cases g with|some p=>cases O:o.op with|defer c=>rw[O]at L;cases L| _=>simp only[z,O]at d;exact plain d
      .exact .inl ⟨Y,Y⟩
    |inRangeFunc p=>unfold stepG.exec;simp only[e];trivial
    |@endRangeFunc l q p=>unfold stepG.exec;simp only[e,Sem.runT_eq];refine Kind.after ?_;cases(Instr.endLoop l).run C.P w with|ok v w1=>exact .inl ⟨Y,Y⟩|halt x w1=>cases x with|panic v=>exact .inl ⟨Y,Y⟩| _=>trivial
    |beginRound=>unfold stepG.exec at d⊢;simp only[e];simp only[B]at d;refine Qc (K6 (.bind (R:=λ_(_ _:Unit)=>True) ?_ λ_ _ _ _ _=>.pure .skip) E (Nat.le_trans (EF C.Q _ _ none _ _) d));have g:=j.roundOf;generalize fr.roundOf=a at g;generalize aP.roundOf=b at g;cases g with|none=>exact .stuck|some p=>exact WC p h.same
def ahF(j:C.Good){main':Bool}{base:List Frame}(e:ek C ρ fr aP)(d:iy C ρ cs a7)(k:iz fr cs)(h:ew C S ρ w w')(g:¬EJ fr cs)(i:(ig (stepG C.Q main' (aZ aP (a7++base)) w')).drawn<=S.bound):Kind (stepG C.P true (aZ fr (cs++b0)) w):=by
 have a:=e.mode;cases c:fr.mode with
 |run=>rw[c]at a;cases b:aP.mode with|run=>grind[stepG,aZ,ahE]| _=>rw[b]at a;cases a
 |returning=>rw[c]at a;cases b:aP.mode with|returning=>grind[stepG,aZ,WV]| _=>rw[b]at a;cases a
 |panicking l=>rw[c]at a;cases b:aP.mode with|panicking f=>grind[stepG,aZ,WV]| _=>rw[b]at a;cases a
end
def lp(g:Goroutine)(w:aO):Machine:={world:=w,gs:=#[g],rest:={timers:=#[],alone:=none,slice:=none}}
theorem ahG(fr:Frame)(cs:List Frame)(w:aO):lone fr cs w=lp (aZ fr cs) w:=rfl
def ahH{P:cg}(hs:g.status=.running):move P (lp g w)=.goroutine (lp g w) 0:=by simp[move,ask,askOn,lp,runnable_eq,due,ahead,Goroutine.canRun,List.range_succ,choose,pure,Sem.run,Question.forced,hs]
def AZ{P:cg}(a:g.status=.running)(h:stepG P true g w=s):
 (∀g1 w1 es,s=.go g1 w1 es->step P (lp g w)=.next (lp g1 w1))/\(∀o w1 es,s=.ended o w1 es->step P (lp g w)=.ended o w1):=by
 rw[step,stepT,ahH a];grind[runT,lp]
def WW{P:cg}{m1:Machine}(hs:g.status=.blocked\/g.status=.waiting)(h:step P (lp g w)=.next m1):m1=lp g w:=by
 rcases hs with hs|hs
 .exfalso;have eI:∀x:GStep,∃o w1,(match(motive:=GStep->Move) x with| .ended o w _=>Move.machine (.ended o w)| _=>.machine (.ended (.stuck "" "") default))=.machine (.ended o w1):=λx=>by cases x<;>exact⟨_,_,Y⟩
  have:∃o w1,move P (lp g w)=.machine (.ended o w1):=by simp only[move,ask,askOn,lp,runnable_eq,due,ahead];simp[Goroutine.canRun,List.range_succ,hs,pure];exact eI _
  grind[step,stepT]
 .have:move P (lp g w)=.machine (.next (lp g w)):=by simp[move,ask,askOn,lp,runnable_eq,due,ahead,Goroutine.canRun,List.range_succ,hs,pure]
  grind[step,stepT]
def ahI{P:cg}{d:Dying}{f:Fatal}(a:d.calling=false):(∃o w1 es,writeOn P fr d f w=.ended o w1 es)\/∃g1 w1 es,writeOn P fr d f w=.go g1 w1 es/\Hu g1:=by
 unfold writeOn;simp only[];split
 .grind
 .split
  .exact .inr ⟨_,_,_,Y,.inr ⟨_,_,Y,Y,a,.inl Y⟩⟩
  .exact .inr ⟨_,_,_,Y,.inr ⟨_,_,Y,Y,a,.inr Y⟩⟩
  .grind
  grind
theorem ahJ{P:cg}{m1:Machine}(hd:Hu g)(h:step P (lp g w)=.next m1):∃g1 w1,m1=lp g1 w1/\Hu g1:=by
 rcases hd with⟨h1,b⟩|⟨d,f,h1,b,h3,a⟩
 .exact⟨g,w,WW b h,.inl ⟨h1,b⟩⟩
 .rcases a with a|a
  .have e:stepG P true g w=writeOn P g.frame d f w:=by obtain⟨fr,cs,st,i,off⟩:=g;simp only at h1;subst h1;obtain⟨todo,texts,calling,pending,zb,hand,fatal⟩:=d;simp only at b h3;subst b;subst h3;rfl
   rcases ahI (P:=P) (fr:=g.frame) (f:=f) (w:=w) h3 with⟨o,w1,es,c⟩|⟨g1,w1,es,c,j⟩
   .rw[(AZ a (e.trans c)).2 _ _ _ Y]at h;cases h
   .rw[(AZ a (e.trans c)).1 _ _ _ Y]at h;grind
  .exact⟨g,w,WW (.inl a) h,.inr ⟨d,f,h1,b,h3,.inr a⟩⟩
variable{dk:Frame}{cse:List Frame}{bH:aO}
theorem ahK{P:cg}:∀(n:Nat)(g:Goroutine)(w:aO),Hu g->runN P n (lp g w)≠ .next (lone dk cse bH):=by
 intro n;induction n with
 |zero=>
  intro g w hd h;simp only[runN,Stepped.next.injEq,ahG]at h;have:g=aZ dk cse:=by simp_all[lp]
  subst this;rcases hd with⟨_,a⟩|⟨d,f,h1,_⟩
  .rcases a with a|a<;>cases a
  .cases h1
 |succ n b=>intro g w hd h;rw[runN]at h;grind[ahJ]
def ey(f:FuncId):Frame:={fn:=f,tmps:=#[],todo:=[.code (.refuse "")],defers:=[{target:=.nil,args:=#[]}],mode:=.run,kind:=.normal,roundOf:=none}
variable{f:FuncId}
def WX{P:cg}:∀(n:Nat)(w:aO),(∀v,runN P n (lone ((ey f).finish v) [] w)≠ .next (lone dk (cs++[ey f]) bH))/\∀l,runN P n (lone ((ey f).raise l) [] w)≠ .next (lone dk (cs++[ey f]) bH):=by
 intro n w;have short:∀{fr:Frame}{w:aO},lone fr [] w≠lone dk (cs++[ey f]) bH:=by simp_all[lone]
 cases n with
 |zero=>grind[runN]
 |succ n=>
  refine⟨λv h=>?_,λl h=>?_⟩
  .rw[runN]at h;have e:∃o w1,(stepG P true (aZ ((ey f).finish v) []) w).bare=.ended o w1:=⟨_,_,Y⟩;obtain⟨o,w1,e⟩:=e;rw[step_lone_ended e]at h;cases h
  .rw[runN]at h;have e:∃o w1,(stepG P true (aZ ((ey f).raise l) []) w).bare=.ended o w1:=⟨_,_,Y⟩;obtain⟨o,w1,e⟩:=e;rw[step_lone_ended e]at h;cases h
section
variable{C:cO}{S:Sync}{ρ:Ren}
theorem WY{a:Frame}{cs1:List Frame}(h:lone fr cs w=lone a cs1 w1):fr=a/\cs=cs1/\w=w1:=by simp_all[lone]
def ahL{P:cg}{fn:Func}{n:Nat}(k:P.funcs[fr.fn]?=some fn)(hk:fr.kind=.normal)(i:EJ fr []):
 runN P (n+1) (lone fr [ey f] w)≠ .next (lone dk (cse++[ey f]) bH):=by
 intro h;rw[runN]at h;obtain⟨_,hd,c|⟨l,c⟩⟩:=i
 .have e:stepG P true (aZ fr [ey f]) w=GStep.after (seen P fr.fn ((results fn fr.tmps).events P w #[])) (match(results fn fr.tmps).run P w with
   | .ok v w=>doReturn P true fr [ey f] none v w
   | .halt (.stuck s) w=>.ended (.stuck s (fr.pos P)) w
   | .halt _ w=>.ended (.stuck "return: the result variables cannot be read" (fr.pos P)) w):=by
   grind[stepG,aZ,unwind,Sem.runT_eq]
  cases b:(results fn fr.tmps).run P w with
  |ok v w1=>rw[b]at e;simp only[doReturn,hk,GStep.after]at e;rw[show step P (lone fr [ey f] w)=.next (lp (aZ ((ey f).finish v) []) w1)from(AZ (g:=aZ fr [ey f]) Y e).1 _ _ _ Y]at h;exact(WX (cs:=cse) n w1).1 v h
  |halt x w1=>
   have:∃o a es,stepG P true (aZ fr [ey f]) w=.ended o a es:=by rw[e,b];cases x<;>exact⟨_,_,_,Y⟩
   obtain⟨o,a,es,d⟩:=this;rw[show step P (lone fr [ey f] w)=.ended o a from(AZ (g:=aZ fr [ey f]) Y d).2 _ _ _ Y]at h;cases h
 .have j:fr.catches P=false:=by grind[Frame.catches]
  have e:stepG P true (aZ fr [ey f]) w=.go (aZ ((ey f).raise l) []) w:=by grind[stepG,aZ,unwind]
  rw[show step P (lone fr [ey f] w)=.next (lp (aZ ((ey f).raise l) []) w)from(AZ (g:=aZ fr [ey f]) Y e).1 _ _ _ Y]at h;exact(WX (cs:=cse) n w).2 l h
def ahM(l:C.Good){main':Bool}{base:List Frame}{n:Nat}(e:ek C ρ fr aP)(a:iy C ρ cs a7)(d:iz fr cs)(i:ew C S ρ w w')(j:(ig (stepG C.Q main' (aZ aP (a7++base)) w')).drawn<=S.bound)(hrun:runN C.P n (lone fr (cs++[ey f]) w)=.next (lone dk (cse++[ey f]) bH)):
 (cs=cse/\fr=dk/\w=bH)\/∃k g1 w1,n=k+1/\ii C S ρ [ey f] base w' g1 w1 (stepG C.Q main' (aZ aP (a7++base)) w')/\runN C.P k (lp g1 w1)=.next (lone dk (cse++[ey f]) bH):=by
 cases n with
 |zero=>grind[runN,WY,List.append_cancel_right]
 |succ k=>
  obtain⟨fn,c,h,r⟩:=e.known;by_cases b:EJ fr cs
  .obtain⟨h1,m⟩:=b;subst h1;exact absurd hrun (ahL h d.1 ⟨Y,m⟩)
  .right;have hk:=ahF l (b0:=[ey f]) e a d i b j;rw[runN]at hrun;cases hs:stepG C.P true (aZ fr (cs++[ey f])) w with
   |go g1 w1 es=>
    rw[hs]at hk;rw[show step C.P (lone fr (cs++[ey f]) w)=.next (lp g1 w1)from(AZ (g:=aZ fr (cs++[ey f])) Y hs).1 _ _ _ Y]at hrun;rcases hk with⟨q,hd⟩|p
    .grind[ahB]
    grind[ahK]
   |ended o w1 es=>rw[show step C.P (lone fr (cs++[ey f]) w)=.ended o w1 from(AZ (g:=aZ fr (cs++[ey f])) Y hs).2 _ _ _ Y]at hrun;grind
   | _=>rw[hs]at hk;exact absurd hk id
end
structure aV where
 g:Goroutine
 w:aO
 mine:Nat->Prop
structure jB(K:Nat->Prop)(X:aV)(w':aO):Prop where
 heap:∀b,K b\/X.mine b->w'.heap[b]?=X.w.heap[b]?
 size:X.w.heap.size<=w'.heap.size
 env:w'.os.env=X.w.os.env
def grown(mine:Nat->Prop)(w' w1:aO):Nat->Prop:=λb=>mine b\/(w'.heap.size<=b/\b<w1.heap.size)
def wU(K mine:Nat->Prop)(e:Event):Prop:=
 match e.loc with
 | .cell a=>(K a.block\/mine a.block)/\(e.write=true->mine a.block)/\e.sync=false
 | .obj r=>(K r\/mine r)/\(e.write=true->mine r)/\e.sync=false
 | .mark .noRoom| .mark (.extern _)| .output=>True
 | _=>False
structure Qd(K mine:Nat->Prop)(w':aO)(g1:Goroutine)(w1:aO)(es:Array Event):Prop where
 run:g1.status=.running
 nI:g1.dying=none
 kept:∀b,b<w'.heap.size->¬mine b->w1.heap[b]?=w'.heap[b]?
 size:w'.heap.size<=w1.heap.size
 os:w1.os=w'.os
 output:w1.output=w'.output
 tape:w1.tape=w'.tape
 drawn:w'.drawn<=w1.drawn
 evs:∀e∈es,wU K (grown mine w' w1) e
def K8(K mine:Nat->Prop)(w':aO)(s:GStep):Prop:=∃g1 w1 es,s=.go g1 w1 es/\Qd K mine w' g1 w1 es
inductive iZ(Q:cg)(main:Bool)(K:Nat->Prop)(post:aV->Prop):aV->Prop
 |done {X:aV} (h:post X):iZ Q main K post X
 |step {X:aV} (ok:∀w',jB K X w'->K8 K X.mine w' (stepG Q main X.g w'))
  (h:∀w' g1 w1 es,jB K X w'->stepG Q main X.g w'=.go g1 w1 es->iZ Q main K post ⟨g1,w1,grown X.mine w' w1⟩):iZ Q main K post X
inductive oh(Q:cg)(main:Bool)(K:Nat->Prop)(Inv post:aV->Prop):aV->Prop
 |done {X:aV} (h:post X):oh Q main K Inv post X
 |step {X:aV} (inv:Inv X) (ok:∀w',jB K X w'->K8 K X.mine w' (stepG Q main X.g w'))
  (h:∀w' g1 w1 es,jB K X w'->stepG Q main X.g w'=.go g1 w1 es->oh Q main K Inv post ⟨g1,w1,grown X.mine w' w1⟩):oh Q main K Inv post X
section
variable{Q:cg}{main:Bool}{K:Nat->Prop}{Inv post:aV->Prop}
def oh.nJ{X:aV}(h:oh Q main K Inv post X):iZ Q main K post X:=by induction h with|done h=>exact .done h|step _ ok _ a=>exact .step ok a
def Qe(Q:cg)(main:Bool)(K:Nat->Prop)(Inv post:aV->Prop)(X:aV)(w':aO):Prop:=
 jB K X w'/\¬(K8 K X.mine w' (stepG Q main X.g w')/\∀g1 w1 es,stepG Q main X.g w'=.go g1 w1 es->oh Q main K Inv post ⟨g1,w1,grown X.mine w' w1⟩)
theorem Qf{X:aV}(h:¬oh Q main K Inv post X):¬post X/\∃w',Inv X->Qe Q main K Inv post X w':=by
 refine⟨λc=>h (.done c),Classical.byContradiction λhn=>h ?_⟩;have key:Inv X/\∀w',jB K X w'->K8 K X.mine w' (stepG Q main X.g w')/\∀g1 w1 es,stepG Q main X.g w'=.go g1 w1 es->oh Q main K Inv post ⟨g1,w1,grown X.mine w' w1⟩:=
  ⟨Classical.byContradiction λb=>hn ⟨X.w,λh=>absurd h b⟩,λw' a=>Classical.byContradiction λb=>hn ⟨w',λ_=>⟨a,b⟩⟩⟩
 exact .step key.1 (λw' a=>(key.2 w' a).1) (λw' g1 w1 es a hs=>(key.2 w' a).2 g1 w1 es hs)
def ahN(Q:cg)(main:Bool)(K:Nat->Prop)(Inv post:aV->Prop)(a:aV):∃(X:Nat->aV)(v:Nat->aO),X 0=a/\(∀k,¬oh Q main K Inv post (X k)->Inv (X k)->Qe Q main K Inv post (X k) (v k))/\
 ∀k g1 w1 es,stepG Q main (X k).g (v k)=.go g1 w1 es->X (k+1)=⟨g1,w1,grown (X k).mine (v k) w1⟩:=by
 have pick:∀X:aV,∃w':aO,¬oh Q main K Inv post X->Inv X->Qe Q main K Inv post X w':=by
  intro X;by_cases h:oh Q main K Inv post X
  .simp_all
  simp_all[Qf]
 obtain⟨p,b⟩:=Classical.skolem.1 pick;refine⟨λk=>Nat.rec a (λ_ X=>match stepG Q main X.g (p X)with| .go g1 w1 _=>⟨g1,w1,grown X.mine (p X) w1⟩| _=>X) k,λk=>p _,Y,λk=>b _,λk g1 w1 es h=>?_⟩;grind
end
def Hv(base:List Frame)(X:aV):Prop:=∃fr cs,X.g=aZ fr (cs++base)
def pd(cX:Nat)(B E:Nat->Nat):Nat->Nat
 |0=>cX
 |k+1=>pd cX B E k+(E k-B k)
def WZ(cX:Nat)(B E:Nat->Nat){k l:Nat}(h:k<=l):pd cX B E k<=pd cX B E l:=by induction h with|refl=>grind|step _ a=>exact Nat.le_trans a (Nat.le_add_right _ _)
open Classical in
def ahO(cX:Nat)(B E:Nat->Nat)(c:Nat->Nat->Question->Nat):∃T:Nat->Question->Nat,∀k j q,B k+j<E k->T (pd cX B E k+j) q=c k (B k+j) q:=by
 refine⟨λi q=>if h:∃k,pd cX B E k<=i/\i<pd cX B E (k+1)then c (Classical.choose h) (B (Classical.choose h)+(i-pd cX B E (Classical.choose h))) q else 0,λk j q f=>?_⟩;have b:∃k',pd cX B E k'<=pd cX B E k+j/\pd cX B E k+j<pd cX B E (k'+1):=⟨k,Nat.le_add_right _ _,by grind[pd]⟩;simp only[dif_pos b];have e:=Classical.choose_spec b;generalize Classical.choose b=k' at e;have hk:k'=k:=by
  rcases Nat.lt_trichotomy k' k with a|d|a
  .have:=WZ cX B E (Nat.succ_le_of_lt a);grind
  .exact d
  .have:=WZ cX B E (Nat.succ_le_of_lt a);grind[pd]
 grind
variable{EK nK:Frame}{cs0 wW:List Frame}{mg w0:aO}
section
variable{C:cO}{S:Sync}{ρ:Ren}
def ew.rely{K:Nat->Prop}{X:aV}{bound:Nat}(h:ew C S ρ w X.w)(d:jB K X w')(hd:∀a b,ρ.rel a b->K b\/X.mine b)(ht:∀j q,w'.drawn+j<bound->w.tape (w.drawn+j) q=w'.tape (w'.drawn+j) q):ew C ⟨w.drawn,w'.drawn,bound,S.T⟩ ρ w w':=
 ⟨λb c e=>by
  obtain⟨o,o',h1,f,h3⟩:=h.obj b c e;exact⟨o,o',h1,(d.heap c (hd b c e)).trans f,h3⟩,
  h.one,h.inj,h.m3,Nat.add_comm _ _,ht,h.env.trans d.env.symm,h.lone,h.still⟩
structure wV(C:cO)(K:Nat->Prop)(T:Nat->Question->Nat)(jl:Ren)(n0:Nat)(base:List Frame)(ρ:Ren)(fr:Frame)(cs:List Frame)(w:aO)(X:aV):Prop where
 frames:∃aP a7,X.g=aZ aP (a7++base)/\ek C ρ fr aP/\iy C ρ cs a7
 bottom:iz fr cs
 world:ew C ⟨w.drawn,X.w.drawn,0,T⟩ ρ w X.w
 le:Ren.le jl ρ
 mine:∀b,ρ.mine b->X.mine b
 dom:∀a b,ρ.rel a b->K b\/X.mine b
 old:∀a b,ρ.rel a b->jl.rel a b\/n0<=b
 size:n0<=X.w.heap.size
def W0(hC:C.Good){base:List Frame}{d:Ren}(Qg:ek C d nK EK)(Qh:iy C d cs0 wW)(V:iz nK cs0){K qT:Nat->Prop}(Z:∀T,ew C ⟨w0.drawn,mg.drawn,0,T⟩ d {w0 with tape:=T} mg)(u:∀b,d.mine b->qT b)(hK:∀a b,d.rel a b->K b\/qT b){R:Frame->List Frame->aO->Prop}(hrun:∀T,∃n dk cse bH,runN C.P n (lone nK (cs0++[ey f]) {w0 with tape:=T})=.next (lone dk (cse++[ey f]) bH)/\R dk cse bH)(main:Bool):
 oh C.Q main K (Hv base) (λX=>∃ρ fr cs w T,R fr cs w/\wV C K T d mg.heap.size base ρ fr cs w X) ⟨aZ EK (wW++base),mg,qT⟩:=by
 generalize Hw:(λX=>∃ρ fr cs w T,R fr cs w/\wV C K T d mg.heap.size base ρ fr cs w X)=post
 have aBf:∀X,(∃ρ fr cs w T,R fr cs w/\wV C K T d mg.heap.size base ρ fr cs w X)->post X:=AA
 clear Hw
 apply Classical.byContradiction
 intro hn
 generalize Qi:(⟨aZ EK (wW++base),mg,qT⟩:aV)=K9 at hn
 obtain⟨X,v,J,I,cT⟩:=ahN C.Q main K (Hv base) post K9
 let B:Nat->Nat:=λk=>(v k).drawn
 let E:Nat->Nat:=λk=>(ig (stepG C.Q main (X k).g (v k))).drawn
 obtain⟨T,hT⟩:=ahO w0.drawn B E λk=>(v k).tape
 obtain⟨n,dk,cse,bH,hrun,ahR⟩:=hrun T
 have main:∀(n k:Nat)(ρ:Ren)(fr:Frame)(cs:List Frame)(w:aO),wV C K T d mg.heap.size base ρ fr cs w (X k)->w.drawn=pd w0.drawn B E k->¬oh C.Q main K (Hv base) post (X k)->
  runN C.P n (lone fr (cs++[ey f]) w)=.next (lone dk (cse++[ey f]) bH)->False:=by
  intro n;induction n with
  |zero=>grind[runN,WY,List.append_cancel_right,Qf]
  |succ n W=>
   intro k ρ fr cs w ht hd M hr;obtain⟨i,m⟩:=I k M (by obtain⟨aP,a7,hg,_⟩:=ht.frames;exact⟨aP,a7,hg⟩);have p:=cT k;have P:=hT k;have O:B k=(v k).drawn:=rfl;have o:E k=(ig (stepG C.Q main (X k).g (v k))).drawn:=rfl;generalize hv:v k=g at i m p P O o;generalize aBg:X k=Y at ht M i m p o;obtain⟨aP,a7,hg,bQ,x⟩:=ht.frames;have fk:ew C ⟨w.drawn,g.drawn,E k,T⟩ ρ w g:=ht.world.rely i ht.dom λj q N=>by have:=P j q AA;rw[O,<-hd]at this;rw[ht.world.lone];grind
   rw[hg]at o m p;rcases ahM hC bQ x ht.bottom fk (Nat.le_of_eq o.symm) hr with⟨h1,h2,h3⟩|⟨n',g1,w1,Q,hst,EL⟩
   .grind[Qf]
   .cases Q;obtain⟨σ,S,cs1,t,L,l,es',Qj,hs,H,F,fR,e,c,nG⟩:=hst;subst Qj;rw[hs]at o m p;have D:=p _ _ _ rfl;have hsz:∀b,σ.mine b->grown Y.mine g l b:=λb r=>by
     rcases c.back b r with h|h
     .exact .inl (ht.mine b h)
     .rcases c.low b r with y|y
      .exact .inl (ht.mine b y)
      .exact .inr ⟨h,y⟩
    have A:∀a b,σ.rel a b->K b\/grown Y.mine g l b:=λa b s=>by
     rcases c.old a b s with h|h
     .exact(ht.dom a b h).imp id .inl
     .obtain⟨_,o',_,h2,_⟩:=e.obj a b s;exact .inr (.inr ⟨h,by
       grind⟩)
    have z:Qd K Y.mine g (aZ t (L++base)) l es':=by refine⟨rfl,rfl,λb r u=>c.kept b r λh=>u (ht.mine b h),c.size,c.os,c.output,c.tape,c.drawn,λev aBh=>?_⟩;grind[vj,wU]
    have aBi:¬oh C.Q main K (Hv base) post ⟨aZ t (L++base),l,grown Y.mine g l⟩:=λhc=>m ⟨⟨_,_,_,rfl,z⟩,λg2 w2 sJ e2=>AA⟩;have U:w1.drawn=pd w0.drawn B E (k+1):=by have sM:=e.sync;have aBj:=c.drawn;grind[pd,ig]
    refine W (k+1) σ S cs1 w1 ?_ U AA EL;rw[D];refine⟨⟨t,L,rfl,H,F⟩,fR,?_,Ren.le_trans ht.le c.le,hsz,A,λa b s=>?_,Nat.le_trans ht.size (Nat.le_trans i.size c.size)⟩
    .exact⟨e.obj,e.one,e.inj,e.m3,Nat.add_comm _ _,λj q N=>absurd N (Nat.not_lt_zero _),e.env,e.lone,e.still⟩
    .rcases c.old a b s with h|h
     .exact ht.old a b h
     .exact .inr (Nat.le_trans ht.size (Nat.le_trans i.size h))
 refine main n 0 d nK cs0 {w0 with tape:=T} ?_ rfl ?_ hrun
 .rw[J];subst Qi;exact⟨⟨_,wW,rfl,Qg,Qh⟩,V,Z T,Ren.le_refl _,u,hK,λa b h=>.inl h,Nat.le_refl _⟩
 grind
def W5(h:C.Good){base:List Frame}{c:Ren}(j:ek C c nK EK)(i:iy C c cs0 wW)(d:iz nK cs0){K qT:Nat->Prop}(e:∀T,ew C ⟨w0.drawn,mg.drawn,0,T⟩ c {w0 with tape:=T} mg)(g:∀b,c.mine b->qT b)(hK:∀a b,c.rel a b->K b\/qT b){R:Frame->List Frame->aO->Prop}(hrun:∀T,∃n dk cse bH,runN C.P n (lone nK (cs0++[ey f]) {w0 with tape:=T})=.next (lone dk (cse++[ey f]) bH)/\R dk cse bH)(main:Bool):
 iZ C.Q main K (λX=>∃ρ fr cs w T,R fr cs w/\wV C K T c mg.heap.size base ρ fr cs w X) ⟨aZ EK (wW++base),mg,qT⟩:=(W0 (f:=f) h j i d e g hK hrun main).nJ
theorem iZ.mono{Q:cg}{main:Bool}{K:Nat->Prop}{post a:aV->Prop}{X:aV}(h:iZ Q main K post X)(c:∀Y,post Y->a Y):iZ Q main K a X:=by induction h with|done h=>exact .done (c _ h)|step ok _ b=>exact .step ok b
def ahX(h:C.Good){fn:Func}{c:Code}(o:C.P.funcs[f]?=some fn)(q:fn.body=some c){args g:Array Value}{d:Ren}(k:aS d args g){K qT:Nat->Prop}(m:∀T,ew C ⟨w0.drawn,mg.drawn,0,T⟩ d {w0 with tape:=T} mg)(p:∀b,d.mine b->qT b)(hK:∀a b,d.rel a b->K b\/qT b){R:Ending->aO->Prop}(y:∀e w,R e w->e≠ .outgrown)(j:∀T,Calls C.P f args {w0 with tape:=T} R)(main:Bool)(base:List Frame):
 iZ C.Q main K (λX=>∃ρ fr w T e,R e w/\fr.fn=f/\fr.leaving C.P w e/\wV C K T d mg.heap.size base ρ fr [] w X) ⟨aZ (Frame.enter C.Q f g .normal) base,mg,qT⟩:=by
 have r:iz (Frame.enter C.P f args .normal) []:=by unfold Frame.enter;exact⟨Y,Y⟩
 refine(W5 (f:=f) (base:=base) (R:=λfr cs w=>cs=[]/\∃e,R e w/\fr.fn=f/\fr.leaving C.P w e) h (.enter h.funcs k o q Kg) .nil r m p hK (λT=>?_) main).mono ?_
 .obtain⟨e,bH,dk,t,i,x,s⟩:=j T [ey f];have u:Steps C.P (lone (Frame.enter C.P f args .normal) [ey f] {w0 with tape:=T}) (lone dk [ey f] bH):=by cases e with|outgrown=>grind|returned v=>exact i|panicked l=>exact i
  obtain⟨n,hn⟩:=u;grind
 grind
end
variable{al:Type}
def La:∀(l:List (String×al)),l.all (λp=> !("" ==p.1))=true->l.lookup "" =none:=by grind
theorem ah0:Extern.allNextRows.lookup "" =none:=La _ AV
theorem ah1:Extern.allRows.lookup "" =none:=La _ AV
theorem ah2:Extern.allTypedRows.lookup "" =none:=La _ AV
theorem ah3:Extern.allGenericRows.lookup "" =none:=La _ AV
def hX(P:cg)(upd:Bool)(fn:Func):Bool:=fn.body.any (ji P upd)&&fn.name != "runtime.NumGoroutine"
def HA(P:cg)(upd:Bool)(fn:Func):Func:=if hX P upd fn then fn else{fn with name:= "",origin:= "",body:=none}
def ae(P:cg)(upd:Bool):cg:={P with funcs:=P.funcs.map (HA P upd)}
def ed(P:cg)(upd:Bool):cO:={P:=ae P upd,Q:=P,lG:=λc=>ji (ae P upd) upd c=true,upd:=upd}
theorem W7(P:cg)(u:Bool)(t:TypeId):(ae P u).underlying t=P.underlying t:=rfl
def ah4(P:cg)(u:Bool):∀(n:Nat)(t:TypeId),wP (ae P u) n t=wP P n t:=by intro n;induction n with|zero=>intro t;rfl|succ n a=>grind[wP,W7]
theorem Qk(P:cg)(u:Bool)(x:Operand):ie (ae P u) x=ie P x:=by cases x<;>rfl
theorem Ql(P:cg)(u:Bool):ie (ae P u)=ie P:=funext (Qk P u)
def ah5(P:cg)(u:Bool)(op:BinOp)(t:TypeId):AR (ae P u) op t=AR P op t:=by simp_all[AR,ah4,W7]
theorem ah6(P:cg)(u:Bool)(t:TypeId):y4 (ae P u) t=y4 P t:=rfl
def ah7(P:cg)(u:Bool)(c:Call):EE (ae P u) c=EE P c:=by grind[EE,Ql]
def ah8(P:cg)(u:Bool)(c:Call):Ho (ae P u) c=Ho P c:=by grind[Ho,Ql]
def W8(P:cg)(upd u:Bool)(o:Op):pb (ae P u) upd o=pb P upd o:=by simp_all[pb,Ql,ah5,ah6,ah7,ah8]
def W9(P:cg)(upd u:Bool)(c:Code):ji (ae P u) upd c=ji P upd c:=by induction c with|region id ops d=>simp only[ji,W8]|seq a b h g=>grind[ji]|cond c a b h g=>grind[ji,Qk]|block id b e=>grind[ji]|loop b e=>grind[ji]|scope b e=>grind[ji]|rangeFunc f p a b h g=>grind[ji,Qk]| _=>rfl
def W_{P:cg}{upd:Bool}{fn:Func}(h:(ae P upd).funcs[f]?=some fn):∃a,P.funcs[f]?=some a/\fn=HA P upd a:=by simp only[ae,Array.getElem?_map]at h;grind
def a6{P:cg}{upd:Bool}{fn:Func}(h:P.funcs[f]?=some fn)(hk:hX P upd fn=true):(ae P upd).funcs[f]?=some fn:=by simp_all[ae,HA]
def ah9(P:cg)(upd:Bool):(ed P upd).AS:=by
 refine⟨λf fn c h b=>?_,λf fn h b ρ a a' m=>?_⟩
 .obtain⟨d,h0,rfl⟩:=W_ h;unfold HA at b⊢;by_cases hk:hX P upd d=true
  .rw[if_pos hk]at b⊢;simp only[hX,Bool.and_eq_true,bne_iff_ne,b,Option.any_some]at hk;exact⟨h0,(W9 P upd upd c).trans hk.1,hk.2⟩
  grind
 .obtain⟨d,h0,e⟩:=W_ h;have g:fn.name= "" /\fn.origin= "" :=by
   unfold HA at e;by_cases hk:hX P upd d=true
   .simp_all[hX]
   grind
  intro S w w' l hg _;exfalso;have k:Extern.findNext fn=none:=by grind[Extern.findNext,ah0]
  have j:Extern.find fn=none:=by grind[Extern.find,ah1,ah2,ah3]
  have:∃u w1,(callFunc f a).run (ae P upd) w=.halt (.unsupported (.extern u)) w1:=by unfold callFunc;refine⟨ "",w,?_⟩;have i:(ae P upd).funcs[f]?=some fn:=h;simp only[mC,Go.program,Sem.run,i,g.1,b,k,j];rfl
  obtain⟨u,w1,n⟩:=this;simp_all[Good,callFunc,ae]
def zd(i:TypeInfo):Prop:=∀v,i.zero=some v->iu v
def EN{d:TypeDesc}{s:String}{z:Value}{c:Bool}{n:Nat}(h:iu z):zd (Made.word d s z c n):=by intro v a;grind[Made.word]
theorem jU.append{a b:Array Value}(d:jU a)(c:jU b):jU (a++b):=by
 intro i v h;rw[Array.getElem?_append]at h;split at h
 .exact d _ _ h
 .exact c _ _ h
def jU.ah_{z:Array Value}(b:jU z)(n:Nat):jU (Array.replicate n z).flatten:=by induction n with|zero=>intro i v h;grind|succ n a=>rw[Array.replicate_succ];simp only[Array.flatten_push];exact a.append b
variable{aJ:Type}
def aia(I:aJ->Prop)(f:al->aJ->Option (ForInStep aJ))(hstep:∀a b r,I b->f a b=some r->∃c,r=.yield c/\I c):
 ∀(l:List al)(b r:aJ),I b->forIn l b f=some r->I r:=by
 intro l;induction l with|nil=>grind|cons a l d=>intro b r g h;simp only[List.forIn_cons]at h;cases e:f a b with|none=>grind|some s=>grind
variable{info:TypeId->Option TypeInfo}
def aib(hi:∀t i,info t=some i->zd i){fs:Array Field}{i:TypeInfo}(h:Made.reckonStruct info fs=some i):zd i:=by
 unfold Made.reckonStruct at h;simp only[bind,Option.bind_eq_some_iff]at h;obtain⟨s,hs,h⟩:=h;have o:∀z,s.2.2.2.2.2.2.2.1=some z->jU z:=by
  rw[<-Array.forIn_toList]at hs;refine aia (λs:Array Field×Nat×Nat×Nat×Nat×Bool×Bool×Option (Array Value)×String=>∀z,s.2.2.2.2.2.2.2.1=some z->jU z) _ ?_ _ _ _ ?_ hs
  .intro f b r m d;simp only[Option.bind_eq_some_iff]at d;obtain⟨j,l,d⟩:=d;have key:∀(c:Prop)[Decidable c](z:Array Value),(if c then none else b.2.2.2.2.2.2.2.1.bind λa=>j.zero.bind λv=>pure (a++v.cells))=some z->jU z:=by
    intro c _ z e;split at e
    .cases e
    .simp only[Option.bind_eq_some_iff,pure,Option.some.injEq]at e;obtain⟨a,n,v,g,rfl⟩:=e;exact(m a n).append (hi _ _ l v g).cells
   have leaf:∀{x:Array Field×Nat×Nat×Nat×Nat×Bool×Bool×Option (Array Value)×String},(pure (ForInStep.yield x):Option (ForInStep _))=some r->(∀z,x.2.2.2.2.2.2.2.1=some z->jU z)->∃k,r=.yield k/\∀z,k.2.2.2.2.2.2.2.1=some z->jU z:=
    λh1 p=>⟨_,(Option.some.inj h1).symm,p⟩
   split at d
   .cases d
   split at d
   .cases d
   split at d
   all_goals
    simp only[Option.bind_eq_some_iff]at d;obtain⟨_,_,d⟩:=d;split at d
    .exact leaf d λz e=>key _ z e
    .exact leaf d λz e=>key _ z e
  .intro z e;cases e;intro i v h;grind
 have eI:∀v,Option.map Value.agg s.2.2.2.2.2.2.2.1=some v->iu v:=by intro v g;rw[Option.map_eq_some_iff]at g;obtain⟨z,e,rfl⟩:=g;exact .agg (o z e)
 split at h
 .cases h;exact eI
 .cases h;exact eI
def aic(hi:∀t i,info t=some i->zd i){d:TypeDesc}{i:TypeInfo}(h:Made.reckon info d=some i):zd i:=by
 cases d with
 |pointer e=>
  simp only[Made.reckon,bind,Option.bind_eq_some_iff]at h;obtain⟨j,_,h⟩:=h;split at h
  .cases h
  .split at h
   .cases h
   .simp only[Option.bind_eq_some_iff,pure,Option.some.injEq]at h;obtain⟨_,_,rfl⟩:=h;exact EN .lj
  .simp only[Option.bind_eq_some_iff,pure,Option.some.injEq]at h;obtain⟨_,_,rfl⟩:=h;exact EN .lj
 |slice e=>simp only[Made.reckon,bind,Option.bind_eq_some_iff,pure,Option.some.injEq]at h;obtain⟨_,_,_,_,rfl⟩:=h;exact EN (.jy _ _)
 |map k e=>simp only[Made.reckon,bind,Option.bind_eq_some_iff,pure,Option.some.injEq]at h;obtain⟨_,_,_,_,_,_,_,_,rfl⟩:=h;exact EN .pT
 |chan dir e=>simp only[Made.reckon,bind,Option.bind_eq_some_iff,pure,Option.some.injEq]at h;obtain⟨_,_,_,_,rfl⟩:=h;exact EN .o7
 |func ps rs v=>simp only[Made.reckon,bind,Option.bind_eq_some_iff,pure,Option.some.injEq]at h;obtain⟨_,_,rfl⟩:=h;exact EN .nilFunc
 |array n e=>
  simp only[Made.reckon,bind,Option.bind_eq_some_iff,pure,Option.some.injEq]at h;obtain⟨j,c,_,_,rfl⟩:=h;intro v a;simp only at a;split at a
  .cases a
  .split at a
   .cases a;exact .agg λi v h=>AA
   .simp only[Option.map_eq_some_iff]at a;obtain⟨z,b,rfl⟩:=a;exact .agg ((hi e j c z b).cells.ah_ n)
 |struct fs=>exact aib hi h
 | _=>cases h
def aid{T:Tables}(h:∀i∈T.types,zd i):∀(n:Nat)(t:TypeId)(i:TypeInfo),Made.infoAt T n t=some i->zd i:=by
 intro n;induction n with
 |zero=>intro t i hi;cases hi
 |succ n a=>
  intro t i hi;simp only[Made.infoAt]at hi;split at hi
  .exact h i (Array.mem_of_getElem? hi)
  .simp only[Option.bind_eq_some_iff]at hi;obtain⟨d,_,hd⟩:=hi;exact aic a hd
def aie{P:cg}{upd:Bool}(h:(P.types.all λi=>i.zero.all (hR 8))=true):(ed P upd).tz:=by
 have ht:∀i∈P.types,zd i:=by intro i hi v a;grind[Array.all_eq_true_iff_forall_mem,WE]
 intro t i v hi a;have hi:P.info? t=some i:=hi;unfold Tables.info? at hi;split at hi
 .exact ht i (Array.mem_of_getElem? hi) v a
 .exact aid ht _ t i hi v a
def Xa{P:cg}(upd:Bool)(h:(P.types.all λi=>i.zero.all (hR 8))=true)(a:P.follows .rangeFuncRecover=true):(ed P upd).Good:=
 ⟨Y,aie h,ah9 P upd,λ_=>Iff.rfl,a⟩
def e6(D M:Nat->Prop):Ren:=⟨λa b=>a=b/\D b,M⟩
def aif{a:Array al}{b:Array aJ}(h:a.size=b.size){i:Nat}{y:aJ}(c:b[i]?=some y):∃x,a[i]?=some x:=by
 have hi:i<b.size:=by grind
 simp_all
section
variable{ρ σ:Ren}
def dt.right(h:∀a b,ρ.rel a b->σ.rel b b){a a':Addr}(k:dt ρ a a'):dt σ a' a':=⟨h _ _ k.1,Y,Y⟩
def sG.right(h:∀a b,ρ.rel a b->σ.rel b b){f f':Fn}(k:sG ρ f f'):sG σ f' f':=by cases k with|func f=>exact .func f|yield c=>exact .yield (h _ _ c)
theorem ay.right(h:∀a b,ρ.rel a b->σ.rel b b){v d:Value}(k:ay ρ v d):ay σ d d:=by
 have all:∀{a a':Array Value},a.size=a'.size->(∀(i:Nat)(v d:Value),a[i]?=some v->a'[i]?=some d->ay σ d d)->∀(i:Nat)(x y:Value),a'[i]?=some x->a'[i]?=some y->ay σ x y:=by grind
 induction k with|bool b=>exact .bool b|int k n=>exact .int k n|string s=>exact .string s|lj=>exact .lj|ptr r=>exact .ptr (r.right h)|jy l c=>exact .jy l c|slice l c r=>exact .slice l c (r.right h)|pT=>exact .pT|map r=>exact .map (h _ _ r)|o7=>exact .o7|func j o m _ _ g f=>exact .func (j.right h) Y Y (all o g) (all m f)|nilFunc=>exact .nilFunc|iface t _ e=>exact .iface t e|nilIface=>exact .nilIface|agg hs _ e=>exact .agg Y (all hs e)|tuple hs _ e=>exact .tuple Y (all hs e)
theorem aS.right(h:∀a b,ρ.rel a b->σ.rel b b){a a':Array Value}(k:aS ρ a a'):aS σ a' a':=by refine⟨Y,λi x y c d=>?_⟩;rw[c]at d;cases d;obtain⟨z,e⟩:=aif k.size c;exact(k.get i z x e c).right h
def dy.right{R:al->aJ->Prop}{c:aJ->aJ->Prop}(h:∀a b,R a b->c b b){l:List al}{m:List aJ}(k:dy R l m):dy c m m:=by induction k with|nil=>exact .nil|cons x _ d=>exact .cons (h _ _ x) d
theorem g7.right{C:cO}(h:∀a b,ρ.rel a b->σ.rel b b){o o':Obj}(k:g7 C ρ o o'):g7 C σ o' o'\/KQ o':=by cases k with|cells e f g=>exact .inl (.cells e (f.right h) ⟨λ_ x=>x,λ_=>Y⟩)|map c d=>exact .inl (.map c (d.right λa b x=>⟨x.key.right h,x.val.right h,Y⟩))|stringIter s p=>exact .inr trivial|AK a b c=>exact .inr trivial|mapIter h a b c=>exact .inr trivial|loop h=>exact .inr trivial|deferred h=>exact .inr trivial|taken=>exact .inr trivial|number hn l=>exact .inl (.number (hn.right h) l)|shut h=>grind
end
def ik(C:cO)(D M:Nat->Prop)(w:aO):Prop:=∀b,D b->∃o,w.heap[b]?=some o/\(g7 C (e6 D M) o o\/KQ o)
def ew.closed{C:cO}{S:Sync}{ρ:Ren}(h:ew C S ρ w w')(M:Nat->Prop):ik C (λb=>∃a,ρ.rel a b) M w':=by rintro b ⟨a,d⟩;obtain⟨o,o',_,c,h3⟩:=h.obj a b d;exact⟨o',c,h3.right (σ:=e6 (λb=>∃a,ρ.rel a b) M) λx y e=>⟨Y,x,e⟩⟩
def EO(C:cO)(D M:Nat->Prop)(b:Nat)(o fE:Obj):Prop:=
 (g7 C (e6 D M) o o/\M b/\fE=o)\/
 (g7 C (e6 D M) o o/\¬M b/\((∃c e fr,o=.cells c e fr/\fE=.cells c e (0,c.size+fr.2))\/(∃a l,o=.number a l/\fE=o)\/(∃es k,o=.map es k/\C.upd=false/\fE=o)\/
  ((∀c e fr,o≠ .cells c e fr)/\(∀a l,o≠ .number a l)/\(C.upd=true\/∀es k,o≠ .map es k)/\fE=.coro none)))\/
 (¬g7 C (e6 D M) o o/\fE=.coro none)
def aig(C:cO)(D M:Nat->Prop)(b:Nat)(o:Obj):∃h,EO C D M b o h:=by
 by_cases d:g7 C (e6 D M) o o
 .by_cases f:M b
  .exact⟨o,.inl ⟨d,f,Y⟩⟩
  .cases o with
   |cells c e fr=>exact⟨_,.inr (.inl ⟨d,f,.inl ⟨c,e,fr,Y,Y⟩⟩)⟩
   |number a l=>exact⟨_,.inr (.inl ⟨d,f,.inr (.inl ⟨a,l,Y,Y⟩)⟩)⟩
   |map es k=>cases g:C.upd with|true=>exact⟨.coro none,.inr (.inl ⟨d,f,.inr (.inr (.inr ⟨A_,A_,.inl g,Y⟩))⟩)⟩|false=>exact⟨_,.inr (.inl ⟨d,f,.inr (.inr (.inl ⟨es,k,Y,g,Y⟩))⟩)⟩
   | _=>exact⟨.coro none,.inr (.inl ⟨d,f,.inr (.inr (.inr ⟨A_,A_,.inr A_,Y⟩))⟩)⟩
 .exact⟨_,.inr (.inr ⟨d,Y⟩)⟩
def EO.rel{C:cO}{D M:Nat->Prop}{b:Nat}{o f:Obj}(k:EO C D M b o f)(g:C.upd=true->M b\/¬g7 C (e6 D M) o o)(h:g7 C (e6 D M) o o\/KQ o):g7 C (e6 D M) f o:=by
 rcases k with⟨d,_,rfl⟩|⟨d,n,⟨c,e,fr,rfl,rfl⟩|⟨a,l,rfl,rfl⟩|⟨es,k,rfl,_,rfl⟩|⟨p,iv,_,rfl⟩⟩|⟨d,rfl⟩
 .exact d
 .have m:=d;cases d with|cells _ j q=>exact .cells e j ⟨λi x=>⟨Nat.zero_le _,Nat.lt_of_lt_of_le x.2 (Nat.le_add_left _ _)⟩,λx=>(g x).elim (λy=>absurd y n) (λy=>absurd m y)⟩
 .exact d
 .exact d
 .refine .shut ?_;cases d with|cells e _ _=>grind|number _ _=>grind|shut h=>exact h| _=>trivial
 .exact .shut (h.resolve_left d)
def EO.still{C:cO}{D M:Nat->Prop}{b:Nat}{o d:Obj}(k:EO C D M b o d)(f:C.upd=true->M b\/¬g7 C (e6 D M) o o)(j:¬M b):(C.upd=false/\∃c e fr,d=.cells c e fr/\∀i,i<c.size->wO fr i)\/(C.upd=false/\∃es k,d=.map es k)\/Eu d:=by
 rcases k with⟨_,h,_⟩|⟨g,_,⟨c,e,fr,rfl,rfl⟩|⟨a,l,rfl,rfl⟩|⟨es,k,rfl,f,rfl⟩|⟨_,_,_,rfl⟩⟩|⟨_,rfl⟩
 .grind
 .exact .inl ⟨by
   grind,c,e,_,Y,λi hi=>⟨Nat.zero_le _,Nat.lt_of_lt_of_le hi (Nat.le_add_right _ _)⟩⟩
 .exact .inr (.inr (.number a l))
 .grind
 .exact .inr (.inr .coro)
 .exact .inr (.inr .coro)
structure gA(C:cO)(D M:Nat->Prop)(w w0:aO):Prop where
 size:w0.heap.size=w.heap.size
 drawn:w0.drawn=w.drawn
 os:w0.os=w.os
 obj:∀b o,w.heap[b]?=some o->∃fE,w0.heap[b]?=some fE/\EO C D M b o fE
def HB(C:cO)(D M:Nat->Prop)(w:aO):∃w0,gA C D M w w0:=by obtain⟨f,a⟩:=Classical.skolem.1 λb=>Classical.skolem.1 λo=>aig C D M b o;refine⟨{w with heap:=w.heap.mapIdx f},A_,Y,Y,λb o h=>⟨f b o,?_,a b o⟩⟩;grind
theorem gA.rel{C:cO}{D M:Nat->Prop}(h:gA C D M w w0)(m:ik C D M w)(hg:∀g,g<=C.P.globals.size->D g)(i:C.upd=true->∀b,D b->M b\/∀o,w.heap[b]?=some o->¬g7 C (e6 D M) o o)(T:Nat->Question->Nat):
 ew C ⟨w0.drawn,w.drawn,0,T⟩ (e6 D M) {w0 with tape:=T} w:=by
 refine⟨?_,?_,?_,λg h=>⟨Y,hg g h⟩,Nat.add_comm _ _,λj q s=>absurd s (Nat.not_lt_zero _),by show w0.os.env=_;rw[h.os],Y,?_⟩
 .rintro b n ⟨rfl,hd⟩;obtain⟨o,h1,l⟩:=m b hd;obtain⟨f,h3,d⟩:=h.obj b o h1;exact⟨f,o,h3,h1,d.rel (λe=>(i e b hd).imp id λy=>y o h1) l⟩
 .rintro a b n ⟨rfl,_⟩ ⟨rfl,_⟩;rfl
 .rintro a a' b ⟨rfl,_⟩ ⟨h,_⟩;grind
 .rintro b n ⟨rfl,hd⟩ r;obtain⟨o,h1,l⟩:=m b hd;obtain⟨f,h3,d⟩:=h.obj b o h1;have h3:({w0 with tape:=T}:aO).heap[b]?=some f:=h3;rw[h3];rcases d.still (λe=>(i e b hd).imp id λy=>y o h1) r with⟨p,c,e,fr,rfl,t⟩|⟨p,es,k,rfl⟩|hd
  .grind
  .grind
  grind
theorem gA.cells{C:cO}{D M:Nat->Prop}{w w0:aO}(h:gA C D M w w0)(p:ik C D M w){b:Nat}(hd:D b){c:Array Value}{e:TypeId}{fr:Nat×Nat}(f:w.heap[b]?=some (.cells c e fr)):
 ∃nK,w0.heap[b]?=some (.cells c e nK)/\(M b->nK=fr):=by
 obtain⟨o,h1,n⟩:=p b hd;rw[f]at h1;cases h1;have i:g7 C (e6 D M) (.cells c e fr) (.cells c e fr):=n.resolve_right λx=>x;obtain⟨q,h3,m⟩:=h.obj b _ f;rcases m with⟨_,_,rfl⟩|⟨_,j,⟨c',r,aP,d,rfl⟩|⟨a,l,d,_⟩|⟨es,k,d,_,_⟩|⟨g,_,_,_⟩⟩|⟨hn,_⟩
 .exact⟨fr,h3,λ_=>Y⟩
 .cases d;exact⟨_,h3,λx=>absurd x j⟩
 .cases d
 .cases d
 .exact absurd Y (g _ _ _)
 .exact absurd i hn
def aih{P:cg}{upd:Bool}(o:(ed P upd).Good){fn:Func}{c:Code}(l:P.funcs[f]?=some fn)(hk:hX P upd fn=true)(m:fn.body=some c){D M:Nat->Prop}(p:ik (ed P upd) D M w)(hg:∀g,g<=P.globals.size->D g){args:Array Value}(k:upd=true->∀b,D b->M b)(n:aS (e6 D M) args args){R:Ending->aO->Prop}(q:∀e w,R e w->e≠ .outgrown)(r:gA (ed P upd) D M w w0)(i:∀T,Calls (ae P upd) f args {w0 with tape:=T} R)(main:Bool)(base:List Frame):
 iZ P main (λb=>D b/\¬M b) (λX=>∃ρ fr w1 T e,R e w1/\fr.fn=f/\fr.leaving (ae P upd) w1 e/\wV (ed P upd) (λb=>D b/\¬M b) T (e6 D M) w.heap.size base ρ fr [] w1 X)
  ⟨aZ (Frame.enter P f args .normal) base,w,M⟩:=by
 have j:(ed P upd).P.funcs[f]?=some fn:=a6 l hk;exact ahX (C:=ed P upd) (w0:=w0) (mg:=w) o j m n (r.rel p hg λe b hd=>.inl (k e b hd)) (λb h=>h)
  (λa b h=>by by_cases d:M b;exact .inr d;exact .inl ⟨h.2,d⟩) q i main base
theorem wV.closed{C:cO}{K:Nat->Prop}{T:Nat->Question->Nat}{c ρ:Ren}{n0:Nat}{base:List Frame}{X:aV}(h:wV C K T c n0 base ρ fr cs w X)(M:Nat->Prop):
 ik C (λb=>∃a,ρ.rel a b) M X.w:=h.world.closed M
end av
open RowKit
def QQ{P:cg}{t e:TypeId}{z:Value}{size bytes:Nat}(E:oi P t e z size bytes)(w:aO){ops:Array Oper}{rest:List Oper}{o:Oper}{a:Act}{Q:Exit->Act->aO->Prop}(hg:o.guard=none)(l c:Operand)(d:o.op=Op.makeSlice t l c)(h kc:IntKind)(n:Nat)(p:a.eval l=.int h n)(q:a.eval c=.int kc n)(u:bytes*n<=281474976710656)(hn:n<=9223372036854775807)(hK:∀w' be,ag w' w.heap.size be e->be.size=n*size->Below w.heap.size w w'->wpList P ops Q rest (a.put o.dst (.slice (some ⟨w.heap.size,0,none⟩) n n)) w'):
 wpList P ops Q (o::rest) a w:=by
 obtain⟨i,hi,m,hsz,s⟩:=info_parts E.hi;refine wpList_make_full w hg l c t d w.heap.size e i z size E.ht hi m hsz h kc _ _ n p q Y Y AA Hx J1 ?_;intro w' r b;rcases r.2 with⟨h0,_⟩|⟨g,cap,be,f,_,j,_,_,hs,_⟩
 .grind
 .simp at f;obtain⟨rfl,rfl⟩:=f;exact hK w' be j hs ⟨b.os,b.tape,b.output,b.size,λk hk=>b.block k hk A_⟩
variable{w:aO}{v:Value}
theorem a8.shape{al:Type}{b:Nat}{R:aO->(Nat->Option Value)->al->Prop}{xs:List al}(h:a8 w b R v xs):∃a cap,v=.slice a xs.length cap/\xs.length<=9223372036854775807:=by obtain⟨a,cap,c,d,-⟩:=h;grind
def e7(T:TypeId)(w:aO)(v:Value):Prop:=∀b off n c,v=.slice (some ⟨b,off,none⟩) n c->∃k,w.shape? b=some (T,k)
variable{T:TypeId}
def e7.box{b:Nat}{cs:Array Value}(h:ag w b cs T)(off n c:Nat):e7 T w (.slice (some ⟨b,off,none⟩) n c):=by intro d f a c' e;simp at e;simp_all[ag,World.shape?]
def e7.ER{base size n:Nat}{xs:List Value}(h:w.ownsRow base T size v n xs):e7 T w v:=by
 rcases h.2 with⟨rfl,_⟩|⟨g,cap,be,rfl,_,hg,_⟩
 .intro b off n c e;grind
 simp_all[e7.box,ag]
variable{w':aO}
def e7.call(h:e7 T w v)(d:Below w.heap.size w w'):e7 T w' v:=by
 intro b off n c e;obtain⟨k,hk⟩:=h b off n c e;refine⟨k,?_⟩;have a:b<w.heap.size:=by grind[World.shape?]
 simp[World.shape?]at hk⊢;rw[d.block b a];exact hk
def e7.set(h:e7 T w v)(a:Addr)(u:Value):e7 T (w.setCell a u) v:=by intro b off n c e;obtain⟨k,hk⟩:=h b off n c e;refine⟨k,?_⟩;simp[World.shape?,World.setCell,Array.getElem?_modify]at hk⊢;grind
theorem e7.grown(h:e7 T w v){row:Option Nat}(hg:w.grownBy w' row)(d:∀b off n c,v=.slice (some ⟨b,off,none⟩) n c->row≠some b):e7 T w' v:=by
 intro b off n c e;obtain⟨k,hk⟩:=h b off n c e;refine⟨k,?_⟩;have a:b<w.heap.size:=by grind[World.shape?]
 simp[World.shape?]at hk⊢;rw[hg.block b a AA];exact hk
def EZ(cs:Array Value)(l:List (Int×Int))(k:Nat):Prop:=∀j(h:j<l.length),j<k->cs[j*2]?=some (.int .i64 l[j].1)/\cs[j*2+1]?=some (.int .i64 l[j].2)
theorem EZ.step{cs:Array Value}{l:List (Int×Int)}{k:Nat}(h:EZ cs l k)(hk:k<l.length)(hs:cs.size=l.length*2):
 EZ ((cs.setIfInBounds (k*2) (.int .i64 l[k].1)).setIfInBounds (k*2+1) (.int .i64 l[k].2)) l (k+1):=by
 intro j a b;by_cases e:j=k
 .grind
 .have:=h j a As;grind
def eP.QR{b:Nat}{cs:Array Value}{l:List (Int×Int)}(h:ag w b cs T)(c:l.length<=9223372036854775807)(a:EZ cs l l.length)(cap:Nat):eP w (.slice (some ⟨b,0,none⟩) l.length cap) l:=by
 refine⟨_,cap,Y,c,λi hi=>⟨b,0,Y,?_,?_⟩⟩
 .simp;rw[h.rules.1];exact(a i hi hi).1
 .simp;rw[h.rules.1];exact(a i hi hi).2
namespace bZ
open RowKit
structure jG(W W':aO):Prop where
 size:W.heap.size<=W'.heap.size
 cells:∀(b:Nat)(c:Array Value)(e:TypeId)(z:Nat×Nat),W.heap[b]?=some (Obj.cells c e z)->W'.heap[b]?=some (Obj.cells c e z)
variable{w:aO}
def nd{b:Nat}{o:Obj}(h:w.heap[b]?=some o):b<w.heap.size:=(Array.getElem?_eq_some_iff.1 h).1
variable{W:aO}
def jG.below{W':aO}(h:Below W.heap.size W W'):jG W W':=⟨h.size,λb _ _ _ e=>(h.block b (nd e)).trans e⟩
theorem jG.trans{A B C:aO}(h:jG A B)(k:jG B C):jG A C:=⟨Nat.le_trans h.size k.size,λb c e z x=>k.cells b c e z (h.cells b c e z x)⟩
theorem jG.put{l:Nat}{r a:Loop}(h:W.heap[l]?=some (.loop r)):jG W (W.putObj l (.loop a)):=
 ⟨A_,λb c e z x=>by
  grind[World.putObj_heap_other]⟩
def xd{nZ:Nat}{l:Nat}(o:Obj)(h:nZ<=l):Below nZ W (W.putObj l o):=
 ⟨Y,Y,Y,A_,λk hk=>World.putObj_heap_other As⟩
def E9(n:Nat)(P:cg)(g:Nat)(lb:Array Value)(Row:Nat->aO->Value->Prop)(N nZ:Nat)(w0:aO):Prop:=
 ∀(l:Nat)(S:Nat->Prop)(J:Nat->aO->Prop)(W:aO),Below nZ w0 W->(∀t W,J t W->∀b,S b->b<W.heap.size)->(∀t W W',J t W->jG W W'->(∀b,S b->W'.heap[b]?=W.heap[b]?)->J t W')->
  (∀t x W1,J t W1->t<N->Row t W1 x->YieldAt Fence.wide (n-1) P l #[x] W1 λe W'=>e=.returned (.bool true)/\J (t+1) W'/\Below nZ W1 W')->
  J 0 W->CallsIn Fence.wide n P g (#[.func (.yield l) #[] #[]]++lb) W λe W'=>(∃v,e=.returned v)/\J N W'/\Below nZ W W'
def Q0{S:Nat->Prop}{J:Nat->aO->Prop}(a:∀t W,J t W->∀b,S b->b<W.heap.size)(d:∀t W W',J t W->jG W W'->(∀b,S b->W'.heap[b]?=W.heap[b]?)->J t W'):∀t W W',J t W->Below W.heap.size W W'->J t W':=
 λt W W' h c=>d t W W' h (.below c) λb hs=>c.block b (a t W h b hs)
def X0{n:Nat}{P:cg}{g:Operand}{p:Tmp}{assign body:Code}{Q:Exit->Act->aO->Prop}{a:Act}{gf:Nat}{lb:Array Value}{Row:Nat->aO->Value->Prop}{N nZ:Nat}{w0:aO}(hg:a.eval g=.func (.func gf) #[] lb)(za:∀args w,(callFunc gf args).run P w=.ok (.enter gf args) w)(E:E9 (n-1) P gf lb Row N nZ w0)(F:Below nZ w0 w)(hn:nZ<=w.heap.size)(S:Nat->Prop)(hS:∀b,S b->b<w.heap.size)(I:Nat->aO->Prop)(j:∀t W W',I t W->jG W W'->(∀b,S b->W'.heap[b]?=W.heap[b]?)->I t W')(h0:I 0 w)(m:Nat->Value->Act->aO->Prop)(Q1:∀t x a' W W',m t x a' W->jG W W'->(∀b,S b->W'.heap[b]?=W.heap[b]?)->m t x a' W')(Q2:∀(l t:Nat)(x:Value)(W:aO)(K:Act->aO->Prop),I t W->t<N->Row t W x->(∀a' W',Below W.heap.size W W'->m t x a' W'->K a' W')->
  assign.wpIn (Fence.wide.inRound l) (n-1-1) P (Exit.then K (λ_ _ _=>False)) {tmps:=a.tmps.setIfInBounds p x,defers:=[]} W)(AY:∀(l t:Nat)(x:Value)(a':Act)(W:aO),I t W->t<N->m t x a' W->nZ<=W.heap.size->body.wpIn (Fence.wide.inRound l) (n-1-1) P (λe _ W'=>e=.normal/\KeepsOthers W W'/\Below nZ W W'/\I (t+1) W') a' W)(hdone:∀W,I N W->Below nZ w W->W.heap[w.heap.size]?=some (.deferred (some []))->Q .normal {a with defers:={target:=.collected w.heap.size,args:=#[]}::a.defers} W):
 (Code.rangeFunc g #[p] assign body).wpIn Fence.wide n P Q a w:=by
 refine wpIn_rangeFunc ?_;intro fn M;obtain⟨rec,C⟩:∃rec:LoopState->Loop,rec=λst=>{state:=st,pending:=none,fn,tmps:=a.tmps,params:=#[p],assign,body,defers:=w.heap.size}:=⟨_,Y⟩;obtain⟨c,Q3⟩:∃c,(w.alloc (.deferred (some []))).alloc (.loop (rec .ready))=c:=⟨_,Y⟩;have Hr:c.heap[w.heap.size+1]?=some (.loop (rec .ready)):=by grind[World.alloc_heap_new,World.size_alloc]
 have Q4:c.heap[w.heap.size]?=some (.deferred (some [])):=by grind[Below.heap_alloc,World.alloc_heap_new]
 have k:Below w.heap.size w c:=by rw[<-Q3];exact((Below.refl _ w).alloc J1 _).alloc A_ _
 refine⟨w.heap.size+1,[{target:=.collected w.heap.size,args:=#[]}],c,{target:=.fn (.func gf) lb,args:=#[.func (.yield (w.heap.size+1)) #[] #[]]},c,gf,#[.func (.yield (w.heap.size+1)) #[] #[]]++lb,c,?_,?_,λ_ _=>trivial,?_,λh=>DT,?_⟩
 .simp_all[run_enterLoop_outer]
 .simp only[resolve,hg];simp[go_sem]
 .grind[invoke]
 .refine(E (w.heap.size+1) (λb=>S b\/b=w.heap.size\/b=w.heap.size+1) (λt W=>(I t W/\nZ<=W.heap.size/\w.heap.size<=W.heap.size)/\W.heap[w.heap.size+1]?=some (.loop (rec .ready))/\W.heap[w.heap.size]?=some (.deferred (some []))) c (F.trans (k.mono hn)) ?_ ?_ ?_ ⟨⟨j _ _ _ h0 (.below k) (λb hs=>k.block b (hS b hs)),AA,k.size⟩,Hr,Q4⟩).mono ?_
  .grind
  .grind
  .rintro t x W ⟨⟨hi,J,A0⟩,f,hk⟩ i X;have y:∀(W:aO)(o:Obj) b,S b->(W.putObj (w.heap.size+1) o).heap[b]?=W.heap[b]?:=λW o b hs=>World.putObj_heap_other AA;have s:=run_yield (P:=P) (args:=#[x]) f AA;rw[C]at s;refine⟨fn,_,assign,body,s,roundIn_of_wpIn M ?_⟩;clear s;have V:(#[p].zip #[x]).foldl (λtmps(u:Tmp×Value)=>tmps.setIfInBounds u.1 u.2) a.tmps=a.tmps.setIfInBounds p x:=A_;refine Eq.mp (congrArg (λT=>Code.wpIn (Fence.wide.inRound (w.heap.size+1)) (n-1-1) P assign _ {tmps:=T,defers:=[]} W) V.symm) ?_;refine Q2 _ t x W _ hi i X ?_;intro a' B d Z;have q:=(d.block _ (nd f)).trans f;have U:=(d.block _ (nd hk)).trans hk;refine⟨_,run_beginRound q AA,?_⟩;have L:(B.putObj (w.heap.size+1) (.loop {rec .ready with state:=.busy})).heap[w.heap.size+1]?=some (.loop {rec .ready with state:=.busy}):=World.putObj_heap_same (nd q);have H:(B.putObj (w.heap.size+1) (.loop {rec .ready with state:=.busy})).heap[w.heap.size]?=some (.deferred (some [])):=(World.putObj_heap_other As).trans U;refine wpIn_mono (AY _ t x a' _ (j _ _ _ (j _ _ _ hi (.below d) (λb hs=>d.block b AA)) (.put q) (y _ _)) i (Q1 _ _ _ _ _ Z (.put q) (y _ _)) AA) ?_;rintro e bX q2 ⟨rfl,z,r,D⟩;have A:=z.same _ _ L Y;have H9:=z.same _ _ H Y;have O:=run_endRound (P:=P) none A;refine⟨_,_,O,Y,⟨⟨j _ _ _ D (.put A) (y _ _),by have:=d.size;have:=r.size;simp at this⊢;omega,by have:=d.size;have:=r.size;simp at this⊢;omega⟩,?_,(World.putObj_heap_other As).trans H9⟩,?_⟩
   .grind[World.putObj_heap_same]
   .exact((d.mono J).trans ((xd _ As).trans r)).trans (xd _ As)
  .rintro e W2 ⟨⟨v,rfl⟩,⟨⟨hi,-⟩,f,hk⟩,R⟩;refine⟨none,_,by have:=run_endLoop (P:=P) f AA;rw[C]at this;exact this,hdone _ (j _ _ _ hi (.put f) λb hs=>World.putObj_heap_other AA) ?_ ((World.putObj_heap_other As).trans hk)⟩;exact((k.mono hn).trans R).trans (xd _ As)
end bZ
namespace av
def aj2(Q:cg)(main:Bool)(K:Nat->Prop)(post:aV->Prop)(Y X:aV):Prop:=
 ¬post X/\∃w' g1 w1 es,jB K X w'/\stepG Q main X.g w'=.go g1 w1 es/\Y=⟨g1,w1,grown X.mine w' w1⟩
variable{K:Nat->Prop}
def iZ.acc{Q:cg}{main:Bool}{post:aV->Prop}{X:aV}(h:iZ Q main K post X):Acc (aj2 Q main K post) X:=by induction h with|done h=>exact⟨_,λY a=>absurd h a.1⟩|step _ _ b=>refine⟨_,λY a=>?_⟩;obtain⟨_,w',g1,w1,es,c,hs,rfl⟩:=a;grind
def iZ.next{Q:cg}{main:Bool}{post:aV->Prop}{X:aV}(h:iZ Q main K post X):
 post X\/∀w',jB K X w'->∃g1 w1 es,stepG Q main X.g w'=.go g1 w1 es/\Qd K X.mine w' g1 w1 es/\iZ Q main K post ⟨g1,w1,grown X.mine w' w1⟩:=by
 cases h with|done h=>grind|step ok h=>refine .inr λw' a=>?_;obtain⟨g1,w1,es,hs,hg⟩:=ok w' a;grind
def jB.others{X:aV}{w w1:aO}(h:jB K X w)(hk:∀b,K b\/X.mine b->w1.heap[b]?=w.heap[b]?)(hs:w.heap.size<=w1.heap.size)(c:w1.os.env=w.os.env):jB K X w1:=
 ⟨λb a=>(hk b a).trans (h.heap b a),Nat.le_trans h.size hs,c.trans h.env⟩
theorem jB.refl(K:Nat->Prop)(X:aV):jB K X X.w:=⟨λ_ _=>Y,Nat.le_refl _,Y⟩
def xk{al:Type}(r:al->al->Prop)(l' l:List al):Prop:=∃i x y,l[i]?=some x/\r y x/\l'=l.set i y
theorem aj3{al:Type}{r:al->al->Prop}{a:al}(e:Acc r a):∀{l:List al},Acc (xk r) l->Acc (xk r) (a::l):=by induction e with|intro a _ f=>intro l d;induction d with|intro l c ihl=>refine⟨_,?_⟩;rintro g ⟨i,x,y,hi,b,rfl⟩;cases i with|zero=>simp at hi;subst hi;exact f y b ⟨l,c⟩|succ i=>simp at hi;exact ihl _ ⟨i,x,y,hi,b,Y⟩
def aj4{al:Type}{r:al->al->Prop}:∀(l:List al),(∀x∈l,Acc r x)->Acc (xk r) l:=by intro l;induction l with|nil=>intro _;exact⟨_,λb⟨i,x,y,hi,_⟩=>AA⟩|cons a l c=>grind[aj3]
end av
namespace bn
open Conc ConcM av
structure eY where
 Lo:Type
 aN:Type
 a_:aN->Nat
 pj:aN->List Lo->Prop
 dY:Lo->aN->aN->Prop
 K:Nat->Prop
 gG:Nat->Prop
 sY:aN->aO->Prop
 tok:Lo->Bool
 deaf:Lo->Nat
 past:Lo->Bool
 Left:Lo->Prop
 zero:Lo->Prop
 nU:Lo->aN->Prop
 gF:Loc->Prop
 eK:Loc->Prop
 mu:Addr
 wg:Addr
 ox:Lo->Goroutine->Goroutine->Prop
structure eY.Good(Z:eY):Prop where
 refl:∀ ℓ γ,Z.dY ℓ γ γ
 trans:∀ ℓ a b c,Z.dY ℓ a b->Z.dY ℓ b c->Z.dY ℓ a c
 less:∀ ℓ γ aj,Z.dY ℓ γ aj->aj=γ\/Z.a_ aj<Z.a_ γ
 mt:∀γ w w',(∀b,Z.gG b->w'.heap[b]?=w.heap[b]?)->Z.sY γ w->Z.sY γ w'
 nh:∀b,Z.K b->¬Z.gG b
 one:∀γ(ls:List Z.Lo)(i j:Nat) a b,Z.pj γ ls->ls[i]?=some a->ls[j]?=some b->Z.tok a=true->Z.tok b=true->i=j
 nI:∀γ ls,Z.pj γ ls->∃(j:Nat)(l:Z.Lo),ls[j]?=some l/\¬Z.Left l/\¬Z.nU l γ
 zero:∀γ(ls:List Z.Lo)(j:Nat) l,Z.pj γ ls->ls[j]?=some l->Z.zero l->j=0
 Fs:∀l,Z.gF l->∃b,e8 l=some b/\Z.gG b
 Bl:∀l,Z.eK l->∃b,e8 l=some b/\Z.gG b
 sX:∀l,Z.gF l->¬Z.eK l
section
variable(Z:eY)
def gH(l:Z.Lo)(γ:Z.aN):Prop:=∃(ls:List Z.Lo)(i:Nat),ls[i]?=some l/\Z.pj γ ls
structure dO(l:Z.Lo)(γ:Z.aN)(X:aV)(w:aO):Prop where
 rely:jB Z.K X w
 mt:Z.sY γ w
 sees:gH Z l γ
 later:OsLater X.w.os w.os
 output:w.output=X.w.output
 tape:w.tape=X.w.tape
def vN(e:Event):Prop:=e.loc=.mark .disable\/e.loc=.mark .enable\/(∃a,e.loc=.mark (.acquire a))\/(∃a,e.loc=.mark (.releaseMerge a))\/(e.write=true/\∃b,e8 e.loc=some b/\Z.gG b)
def Bm(l:Z.Lo)(g g1:Goroutine)(es:Array Event):Prop:=(∃e∈es,vN Z e)\/Z.ox l g g1
def sZ(l:Z.Lo)(mine:Nat->Prop)(d:Nat)(e:Event):Prop:=
 match e.loc with
 | .cell a=>(e.sync=false/\((Z.K a.block/\e.write=false)\/mine a.block\/(Z.gF (.cell a)/\Z.tok l=true))/\Z.past l=false)\/(e.sync=true/\Z.eK (.cell a)/\0<d)
 | .obj r=>e.sync=false/\((Z.K r/\e.write=false)\/mine r)/\Z.past l=false
 | .mark m=>zu m\/(Z.zero l/\∃a,Z.eK (.cell a)/\(m=.read a\/m=.write a))
 | .output=>True
 | .goroutines=>False
def oy(l:Z.Lo)(mine:Nat->Prop):Nat->List Event->Prop
 | _,[]=>True
 |d,e::r=>sZ Z l mine d e/\oy l mine (zv d e) r
structure kW(mine:Nat->Prop)(w' w1:aO):Prop where
 kept:∀b,b<w'.heap.size->¬mine b->¬Z.gG b->w1.heap[b]?=w'.heap[b]?
 size:w'.heap.size<=w1.heap.size
 os:OsLater w'.os w1.os
 output:w1.output=w'.output
 tape:w1.tape=w'.tape
structure Quiet(l:Z.Lo)(X:aV)(w':aO)(g1:Goroutine)(w1:aO)(es:Array Event):Prop where
 run:g1.status=.running
 keep:kW Z X.mine w' w1
 sh:∀b,b<w'.heap.size->Z.gG b->w1.heap[b]?=w'.heap[b]?
 evs:oy Z l (grown X.mine w' w1) (Z.deaf l) es.toList
 low:¬Bm Z l X.g g1 es
def Bn(l:Z.Lo)(γ:Z.aN)(l1:Z.Lo)(bx:Z.aN):Prop:=
 Z.a_ bx<Z.a_ γ/\∀(ls:List Z.Lo)(i:Nat),ls[i]?=some l->Z.pj γ ls->Z.pj bx (ls.set i l1)/\∀(j:Nat)(kl:Z.Lo),j≠i->ls[j]?=some kl->Z.dY kl γ bx
def Ft(m:Mark):Event:=⟨.mark m,false,true⟩
def Says(l l1:Z.Lo)(mine:Nat->Prop)(es:Array Event):Prop:=
 (Z.tok l1=Z.tok l/\Z.past l1=Z.past l/\Z.deaf l1=deafBehind (Z.deaf l) es/\oy Z l mine (Z.deaf l) es.toList)\/
 (es=#[Ft (.acquire Z.mu)]/\Z.deaf l=0/\Z.deaf l1=0/\Z.tok l=false/\Z.tok l1=true/\Z.past l1=Z.past l)\/
 (es=#[Ft (.releaseMerge Z.mu)]/\Z.deaf l=0/\Z.deaf l1=0/\Z.tok l=true/\Z.tok l1=false/\Z.past l1=Z.past l)\/
 (es=#[Ft (.releaseMerge Z.wg)]/\Z.deaf l=0/\Z.deaf l1=0/\Z.tok l1=Z.tok l/\Z.past l1=true)
structure Yo(Q:cg)(l:Z.Lo)(γ:Z.aN)(X:aV)(w':aO)(g1:Goroutine)(w1:aO)(es:Array Event)(l1:Z.Lo)(bx:Z.aN):Prop where
 run:g1.status=.running
 LP:Bm Z l X.g g1 es
 keep:kW Z X.mine w' w1
 mt:Z.sY bx w1
 zx:Bn Z l γ l1 bx
 says:Says Z l l1 (grown X.mine w' w1) es
 Im:mayWake Q X.g=true\/∀kl,Z.nU kl γ->Z.nU kl bx
structure Rq(l:Z.Lo)(γ:Z.aN)(X:aV)(w':aO)(g1 child:Goroutine)(w1:aO)(es:Array Event)(l1:Z.Lo)(bx:Z.aN)(lc:Z.Lo):Prop where
 run:g1.status=.running
 Yp:child.status=.running
 keep:kW Z X.mine w' w1
 mt:Z.sY bx w1
 a_:Z.a_ bx<Z.a_ γ
 zx:∀(ls:List Z.Lo),ls[0]?=some l->Z.pj γ ls->Z.pj bx (ls.set 0 l1++[lc])/\∀(j:Nat)(kl:Z.Lo),j≠0->ls[j]?=some kl->Z.dY kl γ bx
 evs:oy Z l (grown X.mine w' w1) 0 es.toList
 deaf:Z.deaf l=0/\deafBehind 0 es=0/\Z.deaf l1=0/\Z.deaf lc=0
 tok:Z.tok l1=Z.tok l/\Z.tok lc=false
 past:Z.past l1=Z.past l/\Z.past lc=false
 Im:∀kl,Z.nU kl γ->Z.nU kl bx
 stays:¬Z.Left l1/\¬Z.Left lc
def Comes(Q:cg)(Stop:Bool->Z.Lo->aV->Prop)(m:Bool)(l:Z.Lo)(γ:Z.aN)(X:aV)(w':aO)(c:Z.Lo×Z.aN×Z.Lo):Prop:=
 (∃g1 w1 es,stepG Q m X.g w'=.go g1 w1 es/\Quiet Z l X w' g1 w1 es)\/
 (∃g1 w1 es,stepG Q m X.g w'=.go g1 w1 es/\Yo Z Q l γ X w' g1 w1 es c.1 c.2.1/\(Z.Left c.1->m=false/\Stop m c.1 ⟨g1,w1,grown X.mine w' w1⟩))\/
 (stepG Q m X.g w'=.go {X.g with status:=.blocked} w' #[]/\X.g.offers=none/\Z.nU l γ/\¬Z.ox l X.g {X.g with status:=.blocked})\/
 (m=true/\∃g1 child w1 es,stepG Q m X.g w'=.spawn g1 child w1 es/\Rq Z l γ X w' g1 child w1 es c.1 c.2.1 c.2.2)
inductive bh(Q:cg)(Stop:Bool->Z.Lo->aV->Prop):Bool->Z.Lo->Z.aN->aV->Prop
 |stop {m:Bool} {l:Z.Lo} {γ:Z.aN} {X:aV} (h:Stop m l X):bh Q Stop m l γ X
 |step {m:Bool} {l:Z.Lo} {γ:Z.aN} {X:aV} (hs:X.g.status=.running) (ch:aO->Z.aN->Z.Lo×Z.aN×Z.Lo)
  (ok:∀w' aj,Z.dY l γ aj->dO Z l aj X w'->Comes Z Q Stop m l aj X w' (ch w' aj))
  (hq:∀w' aj g1 w1 es,Z.dY l γ aj->dO Z l aj X w'->stepG Q m X.g w'=.go g1 w1 es->g1.status=.running->¬Bm Z l X.g g1 es->bh Q Stop m l aj ⟨g1,w1,grown X.mine w' w1⟩)
  (he:∀w' aj g1 w1 es,Z.dY l γ aj->dO Z l aj X w'->stepG Q m X.g w'=.go g1 w1 es->Bm Z l X.g g1 es->bh Q Stop m (ch w' aj).1 (ch w' aj).2.1 ⟨g1,w1,grown X.mine w' w1⟩)
  (hm:∀w' aj g1 child w1 es,Z.dY l γ aj->dO Z l aj X w'->stepG Q m X.g w'=.spawn g1 child w1 es->bh Q Stop m (ch w' aj).1 (ch w' aj).2.1 ⟨g1,w1,grown X.mine w' w1⟩)
  (hc:∀w' aj g1 child w1 es,Z.dY l γ aj->dO Z l aj X w'->stepG Q m X.g w'=.spawn g1 child w1 es->bh Q Stop false (ch w' aj).2.2 (ch w' aj).2.1 ⟨child,w1,λ_=>False⟩):bh Q Stop m l γ X
end
section
variable{Z:eY}{Q:cg}{Stop:Bool->Z.Lo->aV->Prop}{m:Bool}{l:Z.Lo}{γ:Z.aN}{X:aV}
inductive Then(Q:cg)(Stop:Bool->Z.Lo->aV->Prop)(m:Bool)(l:Z.Lo)(γ:Z.aN)(X:aV)(w':aO):Prop
 |quiet {g1:Goroutine} {w1:aO} {es:Array Event} (hs:stepG Q m X.g w'=.go g1 w1 es) (hq:Quiet Z l X w' g1 w1 es) (h:bh Z Q Stop m l γ ⟨g1,w1,grown X.mine w' w1⟩)
 |turn {g1:Goroutine} {w1:aO} {es:Array Event} {l1:Z.Lo} {bx:Z.aN} (hs:stepG Q m X.g w'=.go g1 w1 es) (ht:Yo Z Q l γ X w' g1 w1 es l1 bx) (hl:Z.Left l1->m=false/\Stop m l1 ⟨g1,w1,grown X.mine w' w1⟩) (h:bh Z Q Stop m l1 bx ⟨g1,w1,grown X.mine w' w1⟩)
 |wait (hs:stepG Q m X.g w'=.go {X.g with status:=.blocked} w' #[]) (ho:X.g.offers=none) (hw:Z.nU l γ) (hp:¬Z.ox l X.g {X.g with status:=.blocked})
 |born {g1 child:Goroutine} {w1:aO} {es:Array Event} {l1:Z.Lo} {bx:Z.aN} {lc:Z.Lo} (hm:m=true) (hs:stepG Q m X.g w'=.spawn g1 child w1 es) (hb:Rq Z l γ X w' g1 child w1 es l1 bx lc)
  (h:bh Z Q Stop m l1 bx ⟨g1,w1,grown X.mine w' w1⟩) (hc:bh Z Q Stop false lc bx ⟨child,w1,λ_=>False⟩)
open Classical in
def bh.mk(hs:X.g.status=.running)(h:∀w' a,Z.dY l γ a->dO Z l a X w'->Then Q Stop m l a X w'):bh Z Q Stop m l γ X:=by
 have pick:∀w' a,∃c:Z.Lo×Z.aN×Z.Lo,Z.dY l γ a->dO Z l a X w'->Comes Z Q Stop m l a X w' c/\
  (∀g1 w1 es,stepG Q m X.g w'=.go g1 w1 es->g1.status=.running->¬Bm Z l X.g g1 es->bh Z Q Stop m l a ⟨g1,w1,grown X.mine w' w1⟩)/\
  (∀g1 w1 es,stepG Q m X.g w'=.go g1 w1 es->Bm Z l X.g g1 es->bh Z Q Stop m c.1 c.2.1 ⟨g1,w1,grown X.mine w' w1⟩)/\
  (∀g1 child w1 es,stepG Q m X.g w'=.spawn g1 child w1 es->bh Z Q Stop m c.1 c.2.1 ⟨g1,w1,grown X.mine w' w1⟩/\bh Z Q Stop false c.2.2 c.2.1 ⟨child,w1,λ_=>False⟩):=by
  intro w' a;by_cases g:Z.dY l γ a/\dO Z l a X w'
  .cases h w' a g.1 g.2 with|quiet hs hq h=>exact⟨(l,a,l),λ_ _=>⟨.inl AA,AA,AA,AA⟩⟩|turn hs ht f h=>exact⟨(_,_,l),λ_ _=>⟨.inr (.inl ⟨_,_,_,hs,ht,f⟩),λg1 w1 es e _ hn=>(by rw[hs]at e;cases e;exact absurd ht.LP hn),AA,AA⟩⟩|wait hs o n k=>exact⟨(l,a,l),λ_ _=>⟨.inr AA,AA,λg1 w1 es e f=>(by rw[hs]at e;cases e;exact f.elim AA AA),AA⟩⟩|born i hs j h p=>exact⟨(_,_,_),λ_ _=>⟨.inr (.inr (.inr ⟨i,_,_,_,_,hs,j⟩)),AA,AA,AA⟩⟩
  .exact⟨(l,a,l),AA⟩
 obtain⟨ch,b⟩:=Classical.skolem.1 λx:aO×Z.aN=>pick x.1 x.2;exact .step hs (λw' a=>ch (w',a)) AA (λw' a g1 w1 es h1 d=>(b (w',a) h1 d).2.1 g1 w1 es) (λw' a g1 w1 es h1 d=>(b (w',a) h1 d).2.2.1 g1 w1 es)
  (λw' a g1 c w1 es h1 d e=>((b (w',a) h1 d).2.2.2 g1 c w1 es e).1) AA
def bh.next(h:bh Z Q Stop m l γ X):Stop m l X\/(X.g.status=.running/\∀w' a,Z.dY l γ a->dO Z l a X w'->Then Q Stop m l a X w'):=by
 cases h with
 |stop h=>grind
 |step hs ch ok hq g j k=>
  refine .inr ⟨hs,λw' a h1 b=>?_⟩;rcases ok w' a h1 b with⟨g1,w1,es,e,q⟩|⟨g1,w1,es,e,q,f⟩|⟨e,d,q,i⟩|⟨em,g1,c,w1,es,e,q⟩
  .exact .quiet e q (hq w' a g1 w1 es h1 b e q.run q.low)
  .exact .turn e q f (g w' a g1 w1 es h1 b e q.LP)
  .exact .wait e d q i
  .exact .born em e q AA AA
def bh.km(G:Z.Good)(h:bh Z Q Stop m l γ X){d:Z.aN}(b:Z.dY l γ d):bh Z Q Stop m l d X:=by
 cases h with
 |stop h=>exact .stop h
 |step hs ch ok hq f e g=>
  exact .step hs ch (λw' a h1=>ok w' a (G.trans _ _ _ _ b h1)) (λw' a g1 w1 es h1=>hq w' a g1 w1 es (G.trans _ _ _ _ b h1)) (λw' a g1 w1 es h1=>f w' a g1 w1 es (G.trans _ _ _ _ b h1))
   (λw' a g1 c w1 es h1=>e w' a g1 c w1 es (G.trans _ _ _ _ b h1)) (λw' a g1 c w1 es h1=>g w' a g1 c w1 es (G.trans _ _ _ _ b h1))
def LQ(Z:eY)(Q:cg)(Stop:Bool->Z.Lo->aV->Prop)(y x:Bool×Z.Lo×Z.aN×aV):Prop:=
 ¬Stop x.1 x.2.1 x.2.2.2/\y.1=x.1/\y.2.1=x.2.1/\y.2.2.1=x.2.2.1/\∃w' g1 w1 es,dO Z x.2.1 x.2.2.1 x.2.2.2 w'/\stepG Q x.1 x.2.2.2.g w'=.go g1 w1 es/\g1.status=.running/\¬Bm Z x.2.1 x.2.2.2.g g1 es/\y.2.2.2=⟨g1,w1,grown x.2.2.2.mine w' w1⟩
def bh.acc(G:Z.Good)(h:bh Z Q Stop m l γ X):Acc (LQ Z Q Stop) (m,l,γ,X):=by induction h with|stop h=>exact⟨_,λy a=>absurd h a.1⟩|step hs ch ok hq q p r o _ _ _=>refine⟨_,λy a=>?_⟩;obtain⟨_,e,d,c,w',g1,w1,es,f,hst,hrun,g,b⟩:=a;obtain⟨n,k,j,i⟩:=y;simp only at e d c b;subst e d c b;exact o w' _ g1 w1 es (G.refl _ _) f hst hrun g
end
open ConcN
def tQ(P:cg)(m:Machine)(t:Trace)(q:Machine->Trace->Prop):Prop:=∃n m' cA,runNT P n m t=(.next m',cA)/\q m' cA
theorem tQ.refl{P:cg}{m:Machine}{t:Trace}{q:Machine->Trace->Prop}(h:q m t):tQ P m t q:=⟨0,m,t,Y,h⟩
theorem tQ.step{P:cg}{m a:Machine}{t:Trace}{ops:Array MemOp}{q:Machine->Trace->Prop}(hs:stepT P m=(.next a,ops))(h:tQ P a (t++ops) q):tQ P m t q:=
 let⟨n,c,b,h1,d⟩:=h
 ⟨n+1,c,b,by grind[runNT_succ_next],d⟩
theorem Yq{P:cg}:∀(n:Nat){k:Nat}{m a:Machine}{t cA:Trace},runNT P n m t=(.next a,cA)->runNT P (n+k) m t=runNT P k a cA
 |0,k,m,a,t,cA,h=>by simp_all[runNT]
 |n+1,k,m,a,t,cA,h=>by rw[show n+1+k=(n+k)+1 from As];cases hs:stepT P m with|mk s ops=>cases s with|next m1=>rw[runNT_succ_next hs]at h⊢;exact Yq n h|ended o w=>simp[runNT,hs]at h
theorem tQ.bind{P:cg}{m:Machine}{t:Trace}{q a:Machine->Trace->Prop}(h:tQ P m t q)(hq:∀b cA,q b cA->tQ P b cA a):tQ P m t a:=by obtain⟨n,m1,d,h1,g⟩:=h;obtain⟨k,e,c,h3,f⟩:=hq m1 d g;exact⟨n+k,e,c,by grind[Yq],f⟩
def akg{P:cg}{al:Type}{r:al->al->Prop}(wf:WellFounded r)(Inv:al->Machine->Trace->Prop)(q:Machine->Trace->Prop)(h:∀a m t,Inv a m t->q m t\/∃b ops c,stepT P m=(.next b,ops)/\r c a/\Inv c b (t++ops)):∀a m t,Inv a m t->tQ P m t q:=by
 intro a;induction a using wf.induction with
 | _ a f=>
  intro m t e;rcases h a m t e with hq|⟨b,ops,c,hs,g,d⟩
  .exact .refl hq
  .exact .step hs AA
section
variable{al:Type}(R:al->al->Prop)
def Bp(y x:Nat×List al×Nat×Nat):Prop:=
 y.1<x.1\/(y.1=x.1/\((xk R y.2.1 x.2.1/\Acc (xk R) x.2.1)\/(y.2.1=x.2.1/\(y.2.2.1<x.2.2.1\/(y.2.2.1=x.2.2.1/\y.2.2.2<x.2.2.2)))))
def akh:WellFounded (Bp R):=by
 have key:∀b,(∀c,c<b->∀v s k,Acc (Bp R) (c,v,s,k))->∀v s k,Acc (Bp R) (b,v,s,k):=by
  intro b i;have core:∀v,(∀a,xk R a v->Acc (xk R) v->∀s k,Acc (Bp R) (b,a,s,k))->∀s k,Acc (Bp R) (b,v,s,k):=by intro v d s;induction s using Nat.strongRecOn with| _ s g=>intro k;induction k using Nat.strongRecOn with| _ k f=>refine⟨_,?_⟩;rintro⟨c,a,s',k'⟩ h;simp[Bp]at h;grind
  intro v;by_cases d:Acc (xk R) v
  .induction d with|intro v _ e=>grind
  grind
 refine⟨λ⟨b,v,s,k⟩=>?_⟩;induction b using Nat.strongRecOn generalizing v s k with| _ b e=>grind
end
structure cy(Z:eY) where
 g:Goroutine
 l:Z.Lo
 X:aV
 n:Nat
section
variable(Z:eY)(Q:cg)(Stop:Bool->Z.Lo->aV->Prop)
inductive s3(m:Bool)(γ:Z.aN)(d:Nat)(r:cy Z):Prop
 |runs (hg:r.g=r.X.g) (hr:r.X.g.status=.running) (ht:bh Z Q Stop m r.l γ r.X) (hn:m=false->¬Stop m r.l r.X) (hd:d=Z.deaf r.l) (h0:r.n=0) (hl:¬Z.Left r.l)
 |waits (hg:r.g={r.X.g with status:=.blocked}) (hr:r.X.g.status=.running) (ho:r.X.g.offers=none) (ht:bh Z Q Stop m r.l γ r.X) (hn:¬Stop m r.l r.X) (hw:Z.nU r.l γ) (hd:d=Z.deaf r.l) (h0:r.n=0) (hl:¬Z.Left r.l)
 |leaves (hm:m=false) (hq:QuitsD Q r.n d r.g) (hl:Z.Left r.l) (hs:Stop m r.l r.X)
def iC(base:Nat)(rs:List (cy Z))(size:Nat)(aQ:Option Nat):jq:=
 {n:=rs.length,base,size,K:=Z.K,mine:=λj b=>∃r,rs[j]?=some r/\r.X.mine b,gF:=Z.gF,eK:=Z.eK,tok:=aQ,mu:=Z.mu,wg:=Z.wg,past:=λj=>∃r,rs[j]?=some r/\Z.past r.l=true}
structure Inv(base:Nat)(rs:List (cy Z))(γ:Z.aN)(w:aO)(t:Trace):Prop where
 sits:∀(j:Nat)(r:cy Z),rs[j]?=some r->s3 Z Q Stop (j==0) γ (Deaf t j) r
 sV:Z.pj γ (rs.map (·.l))
 mt:Z.sY γ w
 rely:∀(j:Nat)(r:cy Z),rs[j]?=some r->jB Z.K r.X w/\OsLater r.X.w.os w.os/\w.output=r.X.w.output/\w.tape=r.X.w.tape
 sh:∀(j:Nat)(r:cy Z),rs[j]?=some r->∀b,r.X.mine b->¬Z.gG b/\¬Z.K b/\b<w.heap.size
 apart:∀(j k:Nat)(r s:cy Z),rs[j]?=some r->rs[k]?=some s->j≠k->∀b,r.X.mine b->¬s.X.mine b
 low:∀b,Z.K b\/Z.gG b->b<w.heap.size
 old:∀(j:Nat)(r:cy Z),rs[j]?=some r->j≠0->j<base->Z.Left r.l/\∀b,¬r.X.mine b
 aQ:∃aQ,(∀(j:Nat)(r:cy Z),rs[j]?=some r->(Z.tok r.l=true↔aQ=some j))/\eg (iC Z base rs w.heap.size aQ) t
 aki:0<rs.length
def jY(rs:List (cy Z)):Array Goroutine:=(rs.map (·.g)).toArray
end
def eg.conv{p c:jq}{t:Trace}(h:eg p t)(hn:c.n=p.n)(g:c.base=p.base)(hs:p.size<=c.size)(hK:c.K=p.K)(o:∀j b,c.mine j b->p.mine j b\/p.size<=b)(hg:c.gF=p.gF)(u:c.eK=p.eK)(ht:c.tok=p.tok)(n:c.mu=p.mu)(B:c.wg=p.wg)(w:∀j,c.past j->p.past j):eg c t:=by
 have q:∀j,c.be j->p.be j:=λj f=>by grind[jq.be]
 have y:∀j,p.be j->c.be j:=λj f=>by grind[jq.be]
 refine⟨λi a d s cQ=>?_,λi op hi=>by rw[hn];exact h.gs i op hi,λi a b d g=>Nat.lt_of_lt_of_le (h.low i a b d g) hs,λi a b d v g m j f=>h.still i a b d v g (hK▸m) j (q j f),λj i a b f d g C=>?_,λj f=>?_,λx i a d z=>?_,λi a d hs=>?_,h.qj,h.xl,λi j f A r=>?_⟩
 .refine(h.nT i a d s cQ).imp AA λl=>⟨by rw[hg];exact l.1,λb k=>⟨by rw[hK];exact(l.2 b k).1,λj f=>(o j b f).elim ((l.2 b k).2 j) (λe=>absurd (h.low i a b d k) As)⟩⟩
 .exact(o j b C).elim (λe=>h.own j i a b (q j f) d g e) (λe=>absurd (h.low i a b d g) As)
 .obtain⟨h1,D⟩:=h.sW j (ht▸f);grind
 .rw[n];exact(h.Bj (ht▸x) i a d (hg▸z)).imp AA id
 .exact(h.eK i a d (u▸hs)).imp id AA
 .rw[B];exact h.past i j f (w j A) r
variable{f:Goroutine->Goroutine}
section
variable{Z:eY}{Q:cg}{Stop:Bool->Z.Lo->aV->Prop}
structure Row(rs cF:List (cy Z))(i:Nat)(r1:cy Z)(f:Goroutine->Goroutine):Prop where
 len:cF.length=rs.length
 at_:cF[i]?=some r1
 km:∀j,j≠i->cF[j]?=(rs[j]?).map λs=>{s with g:=f s.g}
def LR(rs:List (cy Z)){i:Nat}{r:cy Z}(hi:rs[i]?=some r)(r1:cy Z)(f:Goroutine->Goroutine):Row rs ((rs.map λs=>{s with g:=f s.g}).set i r1) i r1 f:=by
 have a:i<rs.length:=by grind
 refine⟨A_,AA,λj b=>?_⟩;grind
def Rs(rs:List (cy Z))(i:Nat)(r1:cy Z)(f:Goroutine->Goroutine):jY Z ((rs.map λs=>{s with g:=f s.g}).set i r1)=((jY Z rs).map f).setIfInBounds i r1.g:=by grind[jY]
def Row.ls{rs cF:List (cy Z)}{i:Nat}{r1:cy Z}(h:Row rs cF i r1 f):cF.map (·.l)=(rs.map (·.l)).set i r1.l:=by
 apply List.ext_getElem?;intro j;by_cases b:j=i
 .subst b;have a:j<rs.length:=by obtain⟨x,_⟩:=List.getElem?_eq_some_iff.1 h.at_;rw[<-h.len];exact x
  simp[h.at_,a]
 .rw[List.getElem?_set_ne (Ne.symm b)];simp[h.km j b];rfl
def Row.other{rs cF:List (cy Z)}{i:Nat}{r1:cy Z}(h:Row rs cF i r1 f){j:Nat}{s:cy Z}(b:j≠i)(hs:cF[j]?=some s):∃a,rs[j]?=some a/\s={a with g:=f a.g}:=by rw[h.km j b]at hs;grind
theorem kW.at{mine:Nat->Prop}{w w1:aO}(d:Nat)(h:kW Z mine (w.at d) w1):kW Z mine w w1:=⟨h.kept,h.size,h.os,h.output,h.tape⟩
theorem jB.at{K:Nat->Prop}{X:aV}{w:aO}(h:jB K X w)(d:Nat):jB K X (w.at d):=⟨h.heap,h.size,h.env⟩
theorem Inv.kept{base:Nat}{rs:List (cy Z)}{γ:Z.aN}{w:aO}{t:Trace}(G:Z.Good)(h:Inv Z Q Stop base rs γ w t){i:Nat}{r:cy Z}(hi:rs[i]?=some r){w1:aO}(hk:kW Z r.X.mine w w1):
 (∀b,Z.K b->w1.heap[b]?=w.heap[b]?)/\∀(j:Nat)(s:cy Z),rs[j]?=some s->j≠i->∀b,s.X.mine b->w1.heap[b]?=w.heap[b]?:=by
 refine⟨λb a=>hk.kept b (h.low b (.inl a)) (λe=>(h.sh i r hi b e).2.1 a) (G.nh b a),λj s d c b a=>?_⟩;have:=h.sh j s d b a;exact hk.kept b this.2.2 (h.apart j i s r d hi c b a) this.1
def Inv.parts{base:Nat}{rs cF:List (cy Z)}{γ:Z.aN}{w:aO}{t:Trace}(G:Z.Good)(h:Inv Z Q Stop base rs γ w t){i:Nat}{r r1:cy Z}(hi:rs[i]?=some r)(v:Row rs cF i r1 f){w1:aO}(hk:kW Z r.X.mine w w1)(H:∀b,r1.X.mine b->r.X.mine b\/(w.heap.size<=b/\b<w1.heap.size)):
 (∀(j:Nat)(s:cy Z),cF[j]?=some s->∀b,s.X.mine b->¬Z.gG b/\¬Z.K b/\b<w1.heap.size)/\
 (∀(j k:Nat)(s s':cy Z),cF[j]?=some s->cF[k]?=some s'->j≠k->∀b,s.X.mine b->¬s'.X.mine b)/\
 (∀b,Z.K b\/Z.gG b->b<w1.heap.size)/\(∀aQ,Rl (iC Z base cF w1.heap.size aQ)):=by
 have A:∀(j:Nat)(s:cy Z),cF[j]?=some s->∀b,s.X.mine b->(∃g,rs[j]?=some g/\g.X.mine b)\/(j=i/\w.heap.size<=b/\b<w1.heap.size):=by
  intro j s m b c;by_cases u:j=i
  .subst u;rw[v.at_]at m;grind
  .obtain⟨g,h1,rfl⟩:=v.other u m;grind
 have B:∀(j:Nat)(s:cy Z),cF[j]?=some s->∀b,s.X.mine b->¬Z.gG b/\¬Z.K b/\b<w1.heap.size:=by
  intro j s m b c;rcases A j s m b c with⟨g,h1,a⟩|⟨_,h1,a⟩
  .have:=h.sh j g h1 b a;exact⟨this.1,this.2.1,Nat.lt_of_lt_of_le this.2.2 hk.size⟩
  .exact⟨λe=>absurd (h.low b (.inr e)) As,λe=>absurd (h.low b (.inl e)) As,a⟩
 have C:∀(j k:Nat)(s s':cy Z),cF[j]?=some s->cF[k]?=some s'->j≠k->∀b,s.X.mine b->¬s'.X.mine b:=by
  intro j k s s' m E p b c y;rcases A j s m b c with⟨g,h1,a⟩|⟨I,h1,a⟩<;>rcases A k s' E b y with⟨x,o,n⟩|⟨F,o,n⟩
  .exact h.apart j k g x h1 o p b a n
  .have:=(h.sh j g h1 b a).2.2;omega
  .have:=(h.sh k x o b n).2.2;omega
  grind
 have D:∀b,Z.K b\/Z.gG b->b<w1.heap.size:=λb c=>Nat.lt_of_lt_of_le (h.low b c) hk.size;refine⟨B,C,D,λaQ=>⟨?_,?_,?_,?_,G.sX,?_,λb c=>D b (.inl c),?_⟩⟩
 .rintro j k b ⟨s,h1,a⟩ ⟨s',o,n⟩;grind
 .rintro j b ⟨s,h1,a⟩;exact(B j s h1 b a).2.1
 .intro l b j hg d;obtain⟨q,h1,a⟩:=G.Fs l hg;rw[d]at h1;cases h1;exact⟨λ⟨s,h3,z⟩=>AA,λe=>G.nh b e a⟩
 .intro l b j hg d;obtain⟨q,h1,a⟩:=G.Bl l hg;rw[d]at h1;cases h1;exact⟨λ⟨s,h3,z⟩=>AA,λe=>G.nh b e a⟩
 .rintro j b ⟨s,h1,a⟩;exact(B j s h1 b a).2.2
 .intro l b d c;rcases d with d|d
  .obtain⟨q,h1,a⟩:=G.Fs l d;rw[c]at h1;cases h1;exact D b (.inr a)
  .obtain⟨q,h1,a⟩:=G.Bl l d;rw[c]at h1;cases h1;exact D b (.inr a)
def Ys(G:Z.Good)(base:Nat)(rs:List (cy Z))(size:Nat)(aQ:Option Nat):LL (iC Z base rs size aQ):=
 ⟨λl h=>let⟨_,h1,_⟩:=G.Fs l h;Fp h1,λl h=>let⟨_,h1,_⟩:=G.Bl l h;Fp h1⟩
theorem Yt{p:jq}{j:Nat}{l:Z.Lo}{mine:Nat->Prop}(hK:p.K=Z.K)(f:∀b,mine b->p.mine j b)(hg:p.gF=Z.gF)(hs:p.eK=Z.eK)(ht:Z.tok l=true->p.tok=some j)(c:Z.past l=false->¬p.past j)(g:Z.zero l->j=0):
 ∀(es:List Event)(d:Nat),oy Z l mine d es->Rn p j d es
 | [],_,_=>trivial
 |e::es,d,⟨h1,h⟩=>by
  refine⟨?_,Yt hK f hg hs ht c g es _ h⟩;obtain⟨loc,wr,i⟩:=e;cases loc with
  |cell a=>
   rcases h1 with⟨x,y,z⟩|⟨x,y,z⟩
   .exact .inl AA
   .exact .inr AA
  |obj r=>exact⟨h1.1,h1.2.1.imp AA (f _),c h1.2.2⟩
  |mark m=>exact h1.imp id AA
  |output=>trivial
  |goroutines=>exact h1
end
variable{es:Array Event}{g g1:Goroutine}
section
section
variable{Z:eY}{Q:cg}{Stop:Bool->Z.Lo->aV->Prop}{base:Nat}{rs cF:List (cy Z)}{γ bx:Z.aN}{w w1:aO}{t:Trace}
def Inv.lt(h:Inv Z Q Stop base rs γ w t){i:Nat}{r:cy Z}(hi:rs[i]?=some r)(b:¬Z.Left r.l)(size:Nat)(aQ:Option Nat):(iC Z base rs size aQ).be i:=by
 obtain⟨a,_⟩:=List.getElem?_eq_some_iff.1 hi;refine⟨a,?_⟩;rcases Nat.eq_zero_or_pos i with e|e
 .grind
 .refine .inr (Nat.le_of_not_lt λc=>b (h.old i r hi As c).1)
def LS(i:Nat)(fn:FuncId)(pos:String)(m:Mark):MemOp.ofEvents i fn pos #[Ft m]=#[({g:=i,fn,pos,act:=.mark m}:MemOp)]:=by rw[ofEvents_eq];simp[Ft,MemAct.ofEvent]
def Inv.says(G:Z.Good)(h:Inv Z Q Stop base rs γ w t){i:Nat}{r r1:cy Z}(hi:rs[i]?=some r)(M:¬Z.Left r.l)(a:Row rs cF i r1 f)(hk:kW Z r.X.mine w w1)(O:r1.X.mine=grown r.X.mine w w1)(hd:Deaf t i=Z.deaf r.l)(Bq:Z.tok r.l=false->Z.tok r1.l=true->∀(k:Nat)(s:cy Z),k≠i->rs[k]?=some s->Z.tok s.l=true->False)(hs:Says Z r.l r1.l (grown r.X.mine w w1) es)(fn:FuncId)(pos:String):
 (∃aQ,(∀(j:Nat)(s:cy Z),cF[j]?=some s->(Z.tok s.l=true↔aQ=some j))/\eg (iC Z base cF w1.heap.size aQ) (t++MemOp.ofEvents i fn pos es))/\Deaf (t++MemOp.ofEvents i fn pos es) i=Z.deaf r1.l:=by
 have E:∀b,r1.X.mine b->r.X.mine b\/(w.heap.size<=b/\b<w1.heap.size):=λb z=>by rw[O]at z;exact z
 obtain⟨hB,X,W,N⟩:=h.parts G hi a hk E;obtain⟨aQ,T,A⟩:=h.aQ;have x:∀aQ,(iC Z base cF w1.heap.size aQ).be i:=λaQ=>by have:=h.lt hi M w1.heap.size aQ;unfold jq.be iC at this⊢;simp only at this⊢;rw[a.len];grind
 have H:∀aQ j b,(iC Z base cF w1.heap.size aQ).mine j b->(iC Z base rs w.heap.size aQ).mine j b\/w.heap.size<=b:=by
  rintro aQ j b ⟨s,h1,m⟩;by_cases c:j=i
  .subst c;rw[a.at_]at h1;cases h1;exact(E b m).imp (λe=>⟨r,hi,e⟩) (λe=>e.1)
  .obtain⟨o,h3,rfl⟩:=a.other c h1;exact .inl ⟨o,h3,m⟩
 have J:(Z.past r1.l=Z.past r.l)->∀aQ j,(iC Z base cF w1.heap.size aQ).past j->(iC Z base rs w.heap.size aQ).past j:=by
  rintro F aQ j ⟨s,h1,m⟩;by_cases c:j=i
  .subst c;rw[a.at_]at h1;cases h1;exact⟨r,hi,AA⟩
  .obtain⟨o,h3,rfl⟩:=a.other c h1;exact⟨o,h3,m⟩
 have conv:(Z.past r1.l=Z.past r.l)->eg (iC Z base cF w1.heap.size aQ) t:=λF=>
  A.conv a.len Y hk.size Y (H aQ) Y Y Y Y Y (J F aQ)
 have S:∀(j:Nat)(s:cy Z),j≠i->cF[j]?=some s->(Z.tok s.l=true↔aQ=some j):=by intro j s d K;obtain⟨o,h3,rfl⟩:=a.other d K;grind
 rcases hs with⟨q,n,u,C⟩|⟨rfl,q,n,u,C,B⟩|⟨rfl,q,n,u,C,B⟩|⟨rfl,q,n,u,C⟩
 .refine⟨⟨aQ,λj s d=>?_,?_⟩,by rw[Deaf_own,hd,u]⟩
  .by_cases c:j=i
   .subst c;rw[a.at_]at d;grind
   grind
  .have:=eg.step (N aQ) (Ys G base cF w1.heap.size aQ) (x aQ) fn pos es.toList (conv n) (Yt (Z:=Z) (p:=iC Z base cF w1.heap.size aQ) (j:=i) (l:=r.l) (mine:=grown r.X.mine w w1) Y (λb z=>⟨r1,a.at_,Br⟩) Y Y (λht=>(T i r hi).1 ht)
    (λV⟨s,h1,m⟩=>by rw[a.at_]at h1;grind) (λL=>G.zero γ _ i r.l h.sV AA L) es.toList _ AA)
   omega
 .have D:aQ=none:=by cases v:aQ with|none=>rfl|some k=>exfalso;have I:=(A.sW k v).1;obtain⟨s,R⟩:∃s,rs[k]?=some s:=⟨rs[k]'I.1,List.getElem?_eq_getElem I.1⟩;grind
  refine⟨⟨some i,λj s d=>?_,?_⟩,Jg⟩
  .by_cases c:j=i
   .subst c;rw[a.at_]at d;grind
   grind
  .have h0:=conv B;rw[D]at h0;have:=eg.aka h0 Y (y:={g:=i,fn,pos,act:=.mark (.acquire Z.mu)}) (x none) Y AA;rw[LS];exact this
 .have v:aQ=some i:=AA;refine⟨⟨none,λj s d=>?_,?_⟩,Jg⟩
  .by_cases c:j=i
   .subst c;rw[a.at_]at d;grind
   grind
  .have h0:=conv B;rw[v]at h0;have:=eg.akb h0 (y:={g:=i,fn,pos,act:=.mark (.releaseMerge Z.mu)}) Y Y AA;rw[LS];exact this
 .refine⟨⟨aQ,λj s d=>?_,?_⟩,Jg⟩
  .by_cases c:j=i
   .subst c;rw[a.at_]at d;grind
   grind
  .have h0:eg {iC Z base cF w1.heap.size aQ with past:=(iC Z base rs w.heap.size aQ).past} t:=
    A.conv a.len Y hk.size Y (H aQ) Y Y Y Y Y (λj d=>d)
   have:=eg.akc h0 (y:={g:=i,fn,pos,act:=.mark (.releaseMerge Z.wg)}) (x aQ) Y AA (past:=(iC Z base cF w1.heap.size aQ).past) (λk P=>by
    obtain⟨s,h1,m⟩:=P;by_cases U:k=i
    .grind
    .obtain⟨o,h3,rfl⟩:=a.other U h1;exact .inl ⟨o,h3,m⟩)
   simp_all[LS]
def Inv.own(G:Z.Good)(h:Inv Z Q Stop base rs γ w t){i:Nat}{r r1:cy Z}(hi:rs[i]?=some r)(x:¬Z.Left r.l)(g:Row rs cF i r1 f)(m:r1.X.w=w1)(hk:kW Z r.X.mine w w1)(B:r1.X.mine=grown r.X.mine w w1)(F:Z.pj bx ((rs.map (·.l)).set i r1.l))(u:Z.sY bx w1){k:Trace}(E:∀(j:Nat)(s:cy Z),j≠i->cF[j]?=some s->s3 Z Q Stop (j==0) bx (Deaf k j) s)(H:s3 Z Q Stop (i==0) bx (Deaf k i) r1)(ht:∃aQ,(∀(j:Nat)(s:cy Z),cF[j]?=some s->(Z.tok s.l=true↔aQ=some j))/\eg (iC Z base cF w1.heap.size aQ) k):Inv Z Q Stop base cF bx w1 k:=by
 have v:∀b,r1.X.mine b->r.X.mine b\/(w.heap.size<=b/\b<w1.heap.size):=λb c=>by rw[B]at c;exact c
 obtain⟨A,z,y,_⟩:=h.parts G hi g hk v;obtain⟨D,C⟩:=h.kept G hi hk;refine⟨λj s a=>?_,by rw[g.ls];grind,u,λj s a=>?_,A,z,y,λj s a h0 c=>?_,ht,by rw[g.len];grind⟩
 .by_cases e:j=i
  .subst e;rw[g.at_]at a;grind
  grind
 .by_cases e:j=i
  .subst e;rw[g.at_]at a;cases a;subst m;exact⟨⟨λ_ _=>Y,Nat.le_refl _,Y⟩,.refl _,Y,Y⟩
  .obtain⟨l,h3,rfl⟩:=g.other e a;obtain⟨n,q,p,o⟩:=h.rely j l h3;refine⟨⟨λb c=>?_,Nat.le_trans n.size hk.size,?_⟩,q.trans hk.os,hk.output.trans p,hk.tape.trans o⟩
   .rw[<-n.heap b c];grind
   .rw[<-n.env];obtain⟨d,hd⟩:=hk.os;rw[hd]
 .by_cases e:j=i
  .subst e;exact absurd (h.old j r hi h0 c).1 x
  .obtain⟨l,h3,rfl⟩:=g.other e a;exact h.old j l h3 h0 c
theorem akp(w1:aO):∀{x:Goroutine},x.offers=none->x.status=.running->({x with status:=.blocked}:Goroutine).again w1=x:=by rintro⟨a,b,c,d,e⟩ h1 f;grind[Goroutine.again]
theorem s3.woken{m:Bool}{d:Nat}{s:cy Z}(G:Z.Good)(h:s3 Z Q Stop m γ d s){w1:aO}(hrun:g1.status=.running)(c:Z.dY s.l γ bx)(l:mayWake Q g=true\/(Z.nU s.l γ->Z.nU s.l bx)):
 s3 Z Q Stop m bx d {s with g:=woken Q g g1 w1 s.g}:=by
 have n:(mayWake Q g&&g1.status != .blocked&&g1.status != .waiting)=mayWake Q g:=AA;cases h with
 |runs hg b ht hn hd h0 a=>
  have e:Go.Conc.woken Q g g1 w1 s.g=s.g:=by grind[Go.Conc.woken,again_running]
  rw[e];exact .runs hg b (ht.km G c) hn hd h0 a
 |waits hg b j ht hn f hd h0 a=>
  cases k:mayWake Q g with
  |true=>
   have e:Go.Conc.woken Q g g1 w1 s.g=s.X.g:=by grind[Go.Conc.woken,akp]
   rw[e];exact .runs Y b (ht.km G c) (λ_=>hn) hd h0 a
  |false=>
   have e:Go.Conc.woken Q g g1 w1 s.g=s.g:=by grind[Go.Conc.woken]
   rw[e];exact .waits hg b j (ht.km G c) hn AA hd h0 a
 |leaves i hq a hs=>rw[woken_quitsD hq];exact .leaves i hq a hs
end
end
section
section
variable{Z:eY}{Q:cg}{Stop:Bool->Z.Lo->aV->Prop}{base:Nat}{rs cF:List (cy Z)}{γ bx:Z.aN}{w w1:aO}{t:Trace}
def akq{e:Event}(h:e.mute=true):∃m,(MemAct.ofEvent e)=.mark m/\zu m:=by
 obtain⟨loc,wr,a⟩:=e;cases loc<;>simp_all[Event.mute]
 grind[MemAct.ofEvent,zu]
theorem eg.mute{p:jq}{i:Nat}(hi:i<p.n)(fn:FuncId)(pos:String):∀(l:List Event){t:Trace},eg p t->(∀e∈l,e.mute=true)->eg p (t++MemOp.ofEvents i fn pos l.toArray)
 | [],t,h,_=>by grind[ofEvents_eq]
 |e::l,t,h,c=>by
  obtain⟨m,h1,b⟩:=akq (c e A_);have:=eg.mute hi fn pos l (h.word (y:={g:=i,fn,pos,act:=.ofEvent e}) hi (by rw[h1];cases m<;>simp[zu]at b<;>rfl) (λa=>by rw[h1];cases m<;>simp[zu]at b<;>simp)) AA
  rw[ofEvents_eq]at this⊢;have d:t++#[({g:=i,fn,pos,act:=.ofEvent e}:MemOp)]++Array.map (λe=>({g:=i,fn,pos,act:=.ofEvent e}:MemOp)) l.toArray=t++Array.map (λe=>({g:=i,fn,pos,act:=.ofEvent e}:MemOp)) (e::l).toArray:=by apply Array.ext';simp
  rw[d]at this;exact this
def s4(rs:List (cy Z))(γ:Z.aN):List (Bool×Z.Lo×Z.aN×aV):=rs.mapIdx λj r=>(j==0,r.l,γ,r.X)
def LV(rs:List (cy Z)):Nat:=(rs.map (·.n)).sum
def xm(g:Goroutine):Nat:=match g.status with| .running=>1| _=>0
def jK(rs:List (cy Z)):Nat:=(rs.map λr=>xm r.g).sum
def meas(rs:List (cy Z))(γ:Z.aN):Nat×List (Bool×Z.Lo×Z.aN×aV)×Nat×Nat:=(Z.a_ γ,s4 rs γ,LV rs,jK rs)
theorem Fu:∀(l:List Nat)(i x:Nat)(h:i<l.length),(l.set i x).sum+l[i]=l.sum+x
 |a::l,0,x,_=>AA
 |a::l,i+1,x,h=>by have:=Fu l i x Fq;simp;omega
theorem Fv(rs:List (cy Z))(γ:Z.aN)(j:Nat):(s4 rs γ)[j]?=(rs[j]?).map λr=>(j==0,r.l,γ,r.X):=by simp[s4]
def Yu{i:Nat}{r1:cy Z}(h:Row rs cF i r1 f)(γ:Z.aN):s4 cF γ=(s4 rs γ).set i (i==0,r1.l,γ,r1.X):=by
 apply List.ext_getElem?;intro j;by_cases b:j=i
 .subst b;have a:j<(s4 rs γ).length:=by obtain⟨x,_⟩:=List.getElem?_eq_some_iff.1 h.at_;simp[s4,<-h.len,x]
  rw[Fv,h.at_,List.getElem?_set_self a];rfl
 .rw[List.getElem?_set_ne (Ne.symm b),Fv,Fv,h.km j b,Option.map_map];rfl
def Inv.akr(G:Z.Good)(h:Inv Z Q Stop base rs γ w t):Acc (xk (LQ Z Q Stop)) (s4 rs γ):=by refine aj4 _ λx c=>?_;obtain⟨j,a⟩:=List.mem_iff_getElem?.1 c;rw[Fv]at a;obtain⟨r,h1,rfl⟩:=Option.map_eq_some_iff.1 a;cases h.sits j r h1 with|runs _ _ ht _ _ _ _=>exact ht.acc G|waits _ _ _ ht _ _ _ _ _=>exact ht.acc G|leaves d hq e hs=>exact⟨_,λy b=>absurd hs b.1⟩
def Ru(a:∀l X,Stop false l X->Z.Left l/\∃n,QuitsD Q n (Z.deaf l) X.g){m:Bool}{l1:Z.Lo}{vO:aV}(b:vO.g.status=.running)(ht:bh Z Q Stop m l1 bx vO)(d:Z.Left l1->m=false/\Stop m l1 vO):∃n,s3 Z Q Stop m bx (Z.deaf l1) ⟨vO.g,l1,vO,n⟩:=by
 by_cases hs:m=false/\Stop m l1 vO
 .obtain⟨rfl,hs⟩:=hs;obtain⟨h1,n,c⟩:=a l1 vO hs;exact⟨n,.leaves Y c h1 hs⟩
 .exact⟨0,.runs Y b ht AA Y Y AA⟩
def aks{i:Nat}{r:cy Z}(hi:rs[i]?=some r)(b:Z.pj γ (rs.map (·.l))){l1:Z.Lo}(a:Bn Z r.l γ l1 bx):Z.pj bx ((rs.map (·.l)).set i l1)/\∀(j:Nat)(s:cy Z),j≠i->rs[j]?=some s->Z.dY s.l γ bx:=by obtain⟨h1,d⟩:=a.2 (rs.map (·.l)) i AA b;exact⟨h1,λj s c hs=>d j s.l c AA⟩
theorem Bt(rs:List (cy Z))(j:Nat):(jY Z rs)[j]?=(rs[j]?).map (·.g):=by simp[jY]
def Rv(Z:eY)(Stop:Bool->Z.Lo->aV->Prop)(rs:List (cy Z)):Prop:=∃r,rs[0]?=some r/\Stop true r.l r.X/\r.g=r.X.g
theorem Inv.at(h:Inv Z Q Stop base rs γ w t)(G:Z.Good)(d:Nat):Inv Z Q Stop base rs γ (w.at d) t:=
 ⟨h.sits,h.sV,G.mt γ w (w.at d) (λ_ _=>Y) h.mt,λj r a=>⟨jB.at (h.rely j r a).1 d,(h.rely j r a).2⟩,h.sh,h.apart,h.low,h.old,h.aQ,h.aki⟩
def Inv.goes(G:Z.Good)(e:∀l X,Stop false l X->Z.Left l/\∃n,QuitsD Q n (Z.deaf l) X.g)(h:Inv Z Q Stop base rs γ w t){i:Nat}{r:cy Z}(hi:rs[i]?=some r)(c:¬Z.Left r.l)(hd:Deaf t i=Z.deaf r.l){l1:Z.Lo}(hk:kW Z r.X.mine w w1)(g:Z.sY bx w1)(b:Z.pj bx ((rs.map (·.l)).set i l1))(B:∀(j:Nat)(s:cy Z),j≠i->rs[j]?=some s->Z.dY s.l γ bx)(hrun:g1.status=.running)(x:Says Z r.l l1 (grown r.X.mine w w1) es)(A:mayWake Q r.g=true\/∀l,Z.nU l γ->Z.nU l bx)(ht:bh Z Q Stop (i==0) l1 bx ⟨g1,w1,grown r.X.mine w w1⟩)(p:Z.Left l1->(i==0)=false/\Stop (i==0) l1 ⟨g1,w1,grown r.X.mine w w1⟩)(fn:FuncId)(pos:String):
 ∃cF,jY Z cF=((jY Z rs).map (woken Q r.g g1 w1)).setIfInBounds i g1/\Inv Z Q Stop base cF bx w1 (t++MemOp.ofEvents i fn pos es)/\s4 cF γ=(s4 rs γ).set i (i==0,l1,γ,⟨g1,w1,grown r.X.mine w w1⟩):=by
 obtain⟨n,u⟩:=Ru e (m:=i==0) (l1:=l1) (vO:=⟨g1,w1,grown r.X.mine w w1⟩) hrun ht p;let r1:cy Z:=⟨g1,l1,⟨g1,w1,grown r.X.mine w w1⟩,n⟩
 have a:=LR rs hi r1 (woken Q r.g g1 w1);have C:i<rs.length:=(List.getElem?_eq_some_iff.1 hi).1;obtain⟨o,D⟩:=h.says (r1:=r1) (es:=es) G hi c a hk Y hd (λ_ h1 k s z v y=>z (G.one bx _ k i s.l l1 b AA AA y h1)) x fn pos;refine⟨_,Rs rs i r1 _,h.own (r1:=r1) G hi c a Y hk Y b g (λj s d hs=>?_) AA o,Yu a γ⟩;obtain⟨f,h3,rfl⟩:=a.other d hs;rw[Deaf_other t (g':=i) (Ne.symm d) _ (λop q=>by grind[ofEvents_eq])];exact(h.sits j f h3).woken G hrun AA AA
end
end
section
section
variable{Z:eY}{Q:cg}{Stop:Bool->Z.Lo->aV->Prop}{base:Nat}{rs cF:List (cy Z)}{γ bx:Z.aN}{w w1:aO}{t:Trace}
def aku{i:Nat}{r r1:cy Z}(hi:rs[i]?=some r)(h:Row rs cF i r1 f)(g:r1.l=r.l)(k:r1.X=r.X){size:Nat}{aQ:Option Nat}(e:eg (iC Z base rs size aQ) t):eg (iC Z base cF size aQ) t:=by
 refine e.conv h.len Y J1 Y ?_ Y Y Y Y Y ?_
 .rintro j b ⟨s,h1,d⟩;by_cases a:j=i
  .subst a;rw[h.at_]at h1;cases h1;exact .inl ⟨r,hi,AA⟩
  .obtain⟨c,h3,rfl⟩:=h.other a h1;exact .inl ⟨c,h3,d⟩
 .rintro j ⟨s,h1,d⟩;by_cases a:j=i
  .subst a;rw[h.at_]at h1;cases h1;exact⟨r,hi,AA⟩
  .obtain⟨c,h3,rfl⟩:=h.other a h1;exact⟨c,h3,d⟩
def Inv.record(h:Inv Z Q Stop base rs γ w t){i:Nat}{r r1:cy Z}(hi:rs[i]?=some r)(c:Row rs cF i r1 f)(p:r1.l=r.l)(u:r1.X=r.X){d:Trace}(v:∀(j:Nat)(s:cy Z),j≠i->cF[j]?=some s->s3 Z Q Stop (j==0) γ (Deaf d j) s)(x:s3 Z Q Stop (i==0) γ (Deaf d i) r1)(q:∀size aQ,eg (iC Z base rs size aQ) t->eg (iC Z base rs size aQ) d):Inv Z Q Stop base cF γ w d:=by
 have y:i<rs.length:=(List.getElem?_eq_some_iff.1 hi).1;have back:∀(j:Nat)(s:cy Z),cF[j]?=some s->∃b,rs[j]?=some b/\s.l=b.l/\s.X=b.X:=by
  intro j s a;by_cases e:j=i
  .subst e;rw[c.at_]at a;grind
  .obtain⟨b,h3,rfl⟩:=c.other e a;grind
 refine⟨λj s a=>?_,?_,h.mt,λj s a=>?_,λj s a=>?_,λj k s s' a hk g=>?_,h.low,λj s a=>?_,?_,by rw[c.len];grind⟩
 .by_cases e:j=i
  .subst e;rw[c.at_]at a;grind
  grind
 .have:(rs.map (·.l)).set i r1.l=rs.map (·.l):=by apply List.ext_getElem?;grind
  rw[c.ls,this];exact h.sV
 .obtain⟨b,h1,_,h3⟩:=back j s a;rw[h3];exact h.rely j b h1
 .obtain⟨b,h1,_,h3⟩:=back j s a;rw[h3];exact h.sh j b h1
 .obtain⟨b,h1,_,h3⟩:=back j s a;obtain⟨n,o,_,m⟩:=back k s' hk;rw[h3,m];exact h.apart j k b n h1 o g
 .obtain⟨b,h1,l,h3⟩:=back j s a;rw[l,h3];exact h.old j b h1
 .obtain⟨aQ,h1,l⟩:=h.aQ;refine⟨aQ,λj s a=>?_,aku hi c p u (q _ _ l)⟩;grind
def Yv{i:Nat}{r r1:cy Z}(hi:rs[i]?=some r)(h:Row rs cF i r1 f):LV cF+r.n=LV rs+r1.n:=by
 obtain⟨c,b⟩:=List.getElem?_eq_some_iff.1 hi;have e:cF.map (·.n)=(rs.map (·.n)).set i r1.n:=by
  apply List.ext_getElem?;intro j;by_cases a:j=i
  .subst a;rw[List.getElem?_set_self AA,List.getElem?_map,h.at_];rfl
  .rw[List.getElem?_set_ne (Ne.symm a),List.getElem?_map,List.getElem?_map,h.km j a,Option.map_map];rfl
 grind[Fu,LV]
def akw{i:Nat}{r r1:cy Z}(hi:rs[i]?=some r)(h:Row rs cF i r1 id):jK cF+xm r.g=jK rs+xm r1.g:=by
 obtain⟨c,b⟩:=List.getElem?_eq_some_iff.1 hi;have e:(cF.map λr=>xm r.g)=(rs.map λr=>xm r.g).set i (xm r1.g):=by
  apply List.ext_getElem?;intro j;by_cases a:j=i
  .subst a;rw[List.getElem?_set_self AA,List.getElem?_map,h.at_];rfl
  .rw[List.getElem?_set_ne (Ne.symm a),List.getElem?_map,List.getElem?_map,h.km j a,Option.map_map];rfl
 grind[Fu,jK]
def Yw{i:Nat}{r r1:cy Z}(hi:rs[i]?=some r)(h:Row rs cF i r1 f)(a:r1.l=r.l)(c:r1.X=r.X):s4 cF γ=s4 rs γ:=by
 rw[Yu h γ];apply List.ext_getElem?;intro j;by_cases b:j=i
 .grind[Fv]
 grind
def akx(h:g1.status=.blocked)(w1:aO):woken Q g g1 w1=id:=by grind[woken]
def Yx{i:Nat}{fn:FuncId}{pos:String}:∀op∈MemOp.ofEvents i fn pos es,op.g=i:=λop a=>by grind[ofEvents_eq]
theorem s3.km{m:Bool}{d:Nat}{s:cy Z}(G:Z.Good)(h:s3 Z Q Stop m γ d s)(e:Z.dY s.l γ bx)(f:Z.nU s.l γ->Z.nU s.l bx):s3 Z Q Stop m bx d s:=by cases h with|runs hg c ht hn hd h0 a=>exact .runs hg c (ht.km G e) hn hd h0 a|waits hg c i ht hn b hd h0 a=>exact .waits hg c i (ht.km G e) hn (f b) hd h0 a|leaves g hq a hs=>exact .leaves g hq a hs
def Inv.aky(G:Z.Good)(J:∀l X,Stop false l X->Z.Left l/\∃n,QuitsD Q n (Z.deaf l) X.g)(h:Inv Z Q Stop base rs γ w t)(vq:base<=rs.length){r:cy Z}(hi:rs[0]?=some r)(W:¬Z.Left r.l)(hd:Deaf t 0=Z.deaf r.l){l1 lc:Z.Lo}{child:Goroutine}(a:Rq Z r.l γ r.X w g1 child w1 es l1 bx lc)(ht:bh Z Q Stop true l1 bx ⟨g1,w1,grown r.X.mine w w1⟩)(hc:bh Z Q Stop false lc bx ⟨child,w1,λ_=>False⟩)(fn q:FuncId)(pos pos':String):
 ∃cF,jY Z cF=((jY Z rs).setIfInBounds 0 g1).push child/\Inv Z Q Stop base cF bx w1 (t++((MemOp.ofEvents 0 fn pos es).push {g:=0,fn,pos,act:=.go rs.length} |>.push {g:=rs.length,fn:=q,pos:=pos',act:=.start})):=by
 obtain⟨n,akt⟩:=Ru J (m:=true) (l1:=l1) (vO:=⟨g1,w1,grown r.X.mine w w1⟩) a.run ht (λh=>absurd h a.stays.1);obtain⟨bA,C⟩:=Ru J (m:=false) (l1:=lc) (vO:=⟨child,w1,λ_=>False⟩) a.Yp hc (λh=>absurd h a.stays.2);let r1:cy Z:=⟨g1,l1,⟨g1,w1,grown r.X.mine w w1⟩,n⟩
 let rc:cy Z:=⟨child,lc,⟨child,w1,λ_=>False⟩,bA⟩
 have o:=LR rs hi r1 id;have H:(rs.map λs=>{s with g:=id s.g})=rs:=by simp_all
 rw[H]at o;have Io:Says Z r.l l1 (grown r.X.mine w w1) es:=.inl ⟨a.tok.1,a.past.1,by rw[a.deaf.1,a.deaf.2.1,a.deaf.2.2.1],by rw[a.deaf.1];exact a.evs⟩;obtain⟨⟨aQ,LU,A⟩,Bu⟩:=h.says (r1:=r1) (es:=es) G hi W o a.keep Y hd (λh0 h1 _ _ _ _ _=>by rw[show r1.l=l1 from Y,a.tok.1,h0]at h1;cases h1) Io fn pos;have V:∀b,r1.X.mine b->r.X.mine b\/(w.heap.size<=b/\b<w1.heap.size):=λb a=>a;obtain⟨hB,hC,hD,_⟩:=h.parts G hi o a.keep V;obtain⟨akn,ako⟩:=h.kept G hi a.keep;obtain⟨mN,S⟩:=a.zx (rs.map (·.l)) AA h.sV;have hlen:(rs.set 0 r1).length=rs.length:=A_;generalize F:rs.set 0 r1=B at o A LU hB hC hlen;have dM:∀(j:Nat)(s:cy Z),(B++[rc])[j]?=some s->(j<rs.length/\B[j]?=some s)\/(j=rs.length/\s=rc):=by grind[List.getElem?_append_right]
 have e1:t++((MemOp.ofEvents 0 fn pos es).push {g:=0,fn,pos,act:=.go rs.length} |>.push {g:=rs.length,fn:=q,pos:=pos',act:=.start})=(t++MemOp.ofEvents 0 fn pos es)++#[({g:=0,fn,pos,act:=.go rs.length}:MemOp),{g:=rs.length,fn:=q,pos:=pos',act:=.start}]:=by apply Array.ext';simp
 rw[e1];generalize K:#[({g:=0,fn,pos,act:=.go rs.length}:MemOp),{g:=rs.length,fn:=q,pos:=pos',act:=.start}]=u;have E:∀j,Deaf ((t++MemOp.ofEvents 0 fn pos es)++u) j=Deaf (t++MemOp.ofEvents 0 fn pos es) j:=λj=>by have:=Deaf_append (t++MemOp.ofEvents 0 fn pos es) j u.toList;rw[Array.toArray_toList]at this;rw[this,<-K];rfl
 have O:Deaf (t++MemOp.ofEvents 0 fn pos es) rs.length=0:=Deaf_absent λi op hi e=>by have:=A.gs i op hi;grind[iC]
 refine⟨B++[rc],?_,⟨λj s f=>?_,?_,a.mt,λj s f=>?_,λj s f=>?_,λj k s s' f hk U b Wa aC9=>?_,hD,λj s f h0 Fw=>?_,?_,A_⟩⟩
 .rw[<-F];unfold jY;rw[List.setIfInBounds_toArray,List.push_toArray,List.map_append,List.map_set];rfl
 .rw[E];rcases dM j s f with⟨v,c⟩|⟨rfl,rfl⟩
  .by_cases h0:j=0
   .grind
   .obtain⟨p,h3,rfl⟩:=o.other h0 c;rw[Deaf_other t (g':=0) (Ne.symm h0) _ Yx];exact(h.sits j p h3).km G (S j p.l h0 AA) (a.Im p.l)
  .rw[O];have:(rs.length==0)=false:=by grind
   rw[this];have M:=C;rw[a.deaf.2.2.2]at M;exact M
 .rw[List.map_append,o.ls];grind
 .rcases dM j s f with⟨v,c⟩|⟨rfl,rfl⟩
  .by_cases h0:j=0
   .subst h0;rw[o.at_]at c;cases c;exact⟨⟨λ_ _=>Y,Nat.le_refl _,Y⟩,.refl _,Y,Y⟩
   .obtain⟨p,h3,rfl⟩:=o.other h0 c;obtain⟨I,R,P,N⟩:=h.rely j p h3;refine⟨⟨λb T=>?_,Nat.le_trans I.size a.keep.size,?_⟩,R.trans a.keep.os,a.keep.output.trans P,a.keep.tape.trans N⟩
    .rw[<-I.heap b T];grind
    .rw[<-I.env];obtain⟨d,hd⟩:=a.keep.os;rw[hd]
  .exact⟨⟨λ_ _=>Y,Nat.le_refl _,Y⟩,.refl _,Y,Y⟩
 .grind
 .grind
 .rcases dM j s f with⟨v,c⟩|⟨rfl,rfl⟩
  .obtain⟨p,h3,rfl⟩:=o.other h0 c;exact h.old j p h3 h0 Fw
  .omega
 .have D:Deaf (t++MemOp.ofEvents 0 fn pos es) 0=0:=by rw[Bu];exact a.deaf.2.2.1
  have Yy:(iC Z base B w1.heap.size aQ).n=rs.length:=hlen;have L:=A.ake (x:={g:=0,fn,pos,act:=.go rs.length}) (y:={g:=rs.length,fn:=q,pos:=pos',act:=.start}) AA AA D AA
   (λb⟨s,h1,_⟩=>AA)
  rw[K]at L;refine⟨aQ,λj s f=>?_,L.conv (by simp[iC]) Y J1 Y ?_ Y Y Y Y Y ?_⟩
  .rcases dM j s f with⟨_,c⟩|⟨rfl,rfl⟩
   .grind
   .rw[show rc.l=lc from Y,a.tok.2];refine⟨AA,λe=>?_⟩;have:=(A.sW _ e).1.1;grind
  .rintro j b ⟨s,h1,z⟩;rcases dM j s h1 with⟨_,c⟩|⟨rfl,rfl⟩
   .exact .inl ⟨s,c,z⟩
   grind
  .rintro j ⟨s,h1,z⟩;rcases dM j s h1 with⟨_,c⟩|⟨rfl,rfl⟩
   .exact⟨s,c,z⟩
   .rw[show rc.l=lc from Y,a.past.2]at z;cases z
end
end
section
section
variable{Z:eY}{Q:cg}{Stop:Bool->Z.Lo->aV->Prop}{base:Nat}{rs cF:List (cy Z)}{γ bx:Z.aN}{w w1:aO}{t:Trace}
def akE{n d:Nat}(h:QuitsD Q n d g):awake g:=λx e=>by rcases h.status with h|h<;>rw[h]at e<;>cases e
theorem Inv.awake(h:Inv Z Q Stop base rs γ w t):∀g∈jY Z rs,awake g:=by intro g hg;obtain⟨j,a⟩:=Array.mem_iff_getElem?.1 hg;rw[Bt]at a;obtain⟨r,h1,rfl⟩:=Option.map_eq_some_iff.1 a;cases h.sits j r h1 with|runs hg b _ _ _ _ _=>intro x e;grind|waits hg _ _ _ _ _ _ _ _=>intro x e;grind|leaves _ hq _ _=>exact akE hq
def Inv.rel(h:Inv Z Q Stop base rs γ w t){j:Nat}{r:cy Z}(a:rs[j]?=some r):dO Z r.l γ r.X w:=
 let⟨h1,c,h3,b⟩:=h.rely j r a
 ⟨h1,h.mt,⟨rs.map (·.l),j,AA,h.sV⟩,c,h3,b⟩
theorem Inv.step(G:Z.Good)(C:∀l X,Stop false l X->Z.Left l/\∃n,QuitsD Q n (Z.deaf l) X.g)(h:Inv Z Q Stop base rs γ w t)(U:base<=rs.length)(sl:Option (Nat×Nat)):
 Rv Z Stop rs\/∃cF T w' sl' ops,stepT Q (crowd (jY Z rs) w sl)=(.next (crowd (jY Z cF) w' sl'),ops)/\Bp (LQ Z Q Stop) (meas cF T) (meas rs γ)/\Inv Z Q Stop base cF T w' (t++ops)/\base<=cF.length:=by
 by_cases cQ:Rv Z Stop rs
 .grind
 refine .inr ?_;obtain⟨j,l,R,aDa,LX⟩:=G.nI γ _ h.sV;rw[List.getElem?_map]at R;obtain⟨L,Rx,rfl⟩:=Option.map_eq_some_iff.1 R;have K:L.g.status=.running:=by cases h.sits j L Rx with|runs hg E _ _ _ _ _=>grind|waits _ _ _ _ _ B _ _ _=>grind|leaves _ _ c _=>grind
 obtain⟨i,g,d,sl',hi,aDb,hst⟩:=crowd_pick (P:=Q) (w:=w) (sl:=sl) h.awake ⟨j,L.g,by grind[Bt],K⟩;rw[Bt]at hi;obtain⟨r,a,rfl⟩:=Option.map_eq_some_iff.1 hi;have E1:i<rs.length:=(List.getElem?_eq_some_iff.1 a).1;have f:=h.at G d;rw[hst];have M:(jY Z rs)[i]?=some r.g:=by grind[Bt]
 have aDc:xm r.g=1:=by grind[xm]
 cases h.sits i r a with
 |runs hg E ht hn hd h0 c=>
  rcases ht.next with hs|⟨_,cT⟩
  .exfalso;rcases Nat.eq_zero_or_pos i with e|e
   .subst e;exact cQ ⟨r,a,hs,hg⟩
   grind
  .cases cT (w.at d) γ (G.refl _ _) (f.rel a)with
   |quiet q hq u=>
    rename_i g1 w1 es;rw[<-hg]at q;have oz:Z.sY γ w1:=by refine G.mt γ (w.at d) w1 (λb v=>?_) f.mt;exact hq.sh b (f.low b (.inr v)) v
    have Io:Says Z r.l r.l (grown r.X.mine (w.at d) w1) es:=by
     refine .inl ⟨Y,Y,?_,hq.evs⟩;have:∀(l:List Event)(d:Nat),(∀e∈l,¬vN Z e)->deafBehind d l.toArray=d:=by intro l;induction l with|nil=>intro d _;rfl|cons e l ih=>intro d c;have he:=c e A_;have h1:=ih d (λe' f=>c e' AA);grind[deafBehind,vN]
     exact(this es.toList (Z.deaf r.l) (λe he B=>hq.low (.inl AA))).symm
    have J:(rs.map (·.l)).set i r.l=rs.map (·.l):=by apply List.ext_getElem?;grind
    obtain⟨cF,z,y,S⟩:=f.goes G C a c hd hq.keep oz (by rw[J];exact h.sV) (λ_ s _ _=>G.refl _ _) hq.run Io AA u AA r.g.frame.fn r.g.frame.place;refine⟨cF,γ,w1,sl',_,by grind[runT_crowd_go],?_,y,?_⟩
    .refine .inr ⟨Y,.inl ⟨⟨i,(i==0,r.l,γ,r.X),(i==0,r.l,γ,⟨g1,w1,grown r.X.mine (w.at d) w1⟩),by grind[meas,Fv],?_,S⟩,h.akr G⟩⟩;refine⟨?_,Y,Y,Y,w.at d,g1,w1,es,f.rel a,AA,hq.run,hq.low,Y⟩;intro hs;rcases Nat.eq_zero_or_pos i with e|e
     .subst e;exact cQ ⟨r,a,hs,hg⟩
     grind
    .have:=congrArg Array.size z;grind[jY]
   |turn q hq im u=>rename_i g1 w1 es l1 bx;obtain⟨k1,k2⟩:=aks a f.sV hq.zx;obtain⟨cF,z,y,S⟩:=f.goes G C a c hd hq.keep hq.mt k1 k2 hq.run hq.says (by rw[hg];exact hq.Im) u im r.g.frame.fn r.g.frame.place;rw[<-hg]at q;refine⟨cF,bx,w1,sl',_,by grind[runT_crowd_go],.inl hq.zx.1,y,?_⟩;have:=congrArg Array.size z;grind[jY]
   |wait q N B _=>
    rw[<-hg]at q;let r1:cy Z:={r with g:={r.X.g with status:=.blocked}}
    have m:=LR rs a r1 id;have V:¬Stop (i==0) r.l r.X:=by
     intro hs;rcases Nat.eq_zero_or_pos i with e|e
     .subst e;exact cQ ⟨r,a,hs,hg⟩
     grind
    refine⟨_,γ,w.at d,sl',_,by rw[runT_crowd_go M q,akx (by rw[hg]),Rs rs i r1 id,hg],?_,?_,?_⟩
    .refine .inr ⟨Y,.inr ⟨Yw a m Y Y,.inr ⟨?_,?_⟩⟩⟩
     .have:=Yv a m;simp only[meas];grind
     .have:=akw a m;simp only[meas];have e:xm r1.g=0:=rfl;omega
    .have H:∀fn pos,MemOp.ofEvents i fn pos #[]=#[]:=λ_ _=>by rw[ofEvents_eq];simp
     rw[H,Array.append_empty];refine f.record a m Y Y (λk s hk hs=>?_) (.waits Y E N ht V B hd h0 c) (λ_ _ x=>x);obtain⟨D,h3,rfl⟩:=m.other hk hs;exact h.sits k D h3
    grind
   |born O q v u hc=>rename_i g1 child w1 es l1 bx lc;have H:i=0:=AA;subst H;rw[<-hg]at q;obtain⟨cF,z,y⟩:=f.aky G C U a c hd v u hc r.g.frame.fn child.frame.fn r.g.frame.place r.g.frame.place;refine⟨cF,bx,w1,sl',_,by grind[runT_crowd_spawn,jY],.inl v.a_,y,?_⟩;have:=congrArg Array.size z;grind[jY]
 |waits hg E N ht hn B hd h0 c=>grind
 |leaves O hq c hs=>
  obtain⟨g,l,X,n⟩:=r;cases n with
  |zero=>have:=hq.1;grind
  |succ n=>
   rcases hq with⟨hf,_⟩|⟨_,g',es,aDd,q,F⟩
   .grind
   .let r1:cy Z:=⟨g',l,X,n⟩
    have I:stepG Q (i==0) g (w.at d)=.go g' (w.at d) es:=AA;have m:=LR rs a r1 (woken Q g g' (w.at d));have oq:i≠0:=AA;refine⟨_,γ,w.at d,sl',_,by rw[runT_crowd_go M I,Rs rs i r1],?_,?_,?_⟩
    .refine .inr ⟨Y,.inr ⟨Yw a m Y Y,.inl ?_⟩⟩;have:=Yv a m;simp only[meas];grind
    .refine f.record a m Y Y (λk s hk W=>?_) (.leaves O (by grind[Deaf_own]) c hs) (λsize aQ hT=>?_)
     .obtain⟨D,h3,rfl⟩:=m.other hk W;rw[Deaf_other t (g':=i) (Ne.symm hk) _ Yx];have A:g'.status=.running\/g'.status=.finished:=F.status;have key:=h.sits k D h3;rcases A with A|A
      .exact key.woken G A (G.refl _ _) (.inr id)
      .have eqv:∀o,woken Q g g' (w.at d) o=woken Q g {g' with status:=.running} (w.at d) o:=λo=>by grind[woken]
       rw[eqv];exact key.woken G (g1:={g' with status:=.running}) Y (G.refl _ _) (.inr id)
     .have:=eg.mute (p:=iC Z base rs size aQ) (i:=i) E1 g.frame.fn g.frame.place es.toList hT AA;omega
    grind
def phase(G:Z.Good)(c:∀l X,Stop false l X->Z.Left l/\∃n,QuitsD Q n (Z.deaf l) X.g)(h:Inv Z Q Stop base rs γ w t)(g:base<=rs.length)(sl:Option (Nat×Nat)):
 tQ Q (crowd (jY Z rs) w sl) t λd cA=>∃cF b w' sl',d=crowd (jY Z cF) w' sl'/\Rv Z Stop cF/\Inv Z Q Stop base cF b w' cA/\base<=cF.length:=by
 refine akg (akh (LQ Z Q Stop)) (λa m t=>∃rs γ w sl,m=crowd (jY Z rs) w sl/\a=meas rs γ/\Inv Z Q Stop base rs γ w t/\base<=rs.length) _ ?_ (meas rs γ) _ _ AA;rintro a m t ⟨rs,γ,w,sl,rfl,rfl,f,e⟩;rcases f.step G c e sl with hs|⟨cF,b,w',sl',ops,h1,j,h3,i⟩
 .grind
 grind
end
end
end bn
end Go.Proofs.YtncomcmfgmojkaaGreat
