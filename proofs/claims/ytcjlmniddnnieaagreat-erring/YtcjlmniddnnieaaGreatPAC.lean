import Derived.RangeFuncNested
import Derived.Conc.HoldsTime
import Derived.Test.YtcjlmniddnnieaaGreatPAB
set_option linter.all false
set_option maxRecDepth 100000
set_option maxHeartbeats 16000000
namespace Go.Proofs.YtcjlmniddnnieaaGreat
def vay:=@Go.World.putObj_heap_other
def vbi:=@Go.World.alloc_heap_new
def vbo:=@Go.Conc.mem_listed
def vbu:=@Go.Conc.stepG_mark0
def vca:=@Go.Conc.stepG_unwind_enter
def vck:=@Go.Conc.stepG_markAt
def vcm:=@Go.Conc.seen_none
def vcz:=@Go.KeepsOthers.setCell
def vdc:=@Go.Conc.enter_at
def vdq:=@Go.Conc.goes_leave0
namespace au
def sN:Option Code->Bool
 |none=>true
 |some .ret=>true
 | _=>false
variable{aP fr:Frame}{b0 be cs:fG}{w w' w1:aH}{g1:uaf}{mg:uao}
section
variable{C:cQ}{S:Sync}{ρ:Ren}
theorem akd{main main':Bool}{base:fG}{l a:Nat}(jump:Option Code)(u:∀c,jump=some c->C.me c)(p:ej C ρ fr aP)(k:jf C ρ cs be)(o:jg fr cs)(t:et C S ρ w w')(s:fr.roundOf=some l)(n:aP.roundOf=some a)(h:GStep.after (seen C.P fr.fn ((Instr.endRound l jump).events C.P w #[])) (match(Instr.endRound l jump).run C.P w with
  | .ok v w=>doReturn C.P main fr (cs++b0) none v w
  | .halt _ w=>.ended (.stuck "range over a function: no such loop" (fr.pos C.P)) w)=.go g1 w1 mg)(f:(iN (match(Instr.endRound a jump).run C.Q w' with
  | .ok v w=>doReturn C.Q main' aP (be++base) none v w
  | .halt _ w=>.ended (.stuck "range over a function: no such loop" (aP.pos C.Q)) w)).drawn<=S.bound):
 iO C S ρ b0 base w' g1 w1 (GStep.after (seen C.Q aP.fn ((Instr.endRound a jump).events C.Q w' #[])) (match(Instr.endRound a jump).run C.Q w' with
  | .ok v w=>doReturn C.Q main' aP (be++base) none v w
  | .halt _ w=>.ended (.stuck "range over a function: no such loop" (aP.pos C.Q)) w)):=by
 have D:ρ.rel l a:=by have:=p.roundOf;rw[s,n]at this;cases this;grind
 obtain⟨F,i⟩:=AB h;have kH:Good ((Instr.endRound l jump).run C.P w):=by cases b:(Instr.endRound l jump).run C.P w with|ok v w2=>trivial|halt x w2=>grind
 have A:(lw ((Instr.endRound a jump).run C.Q w')).drawn<=S.bound:=by cases b:(Instr.endRound a jump).run C.Q w' with|ok v w2=>rw[b]at f;simp only[Yv]at f;exact f|halt x w2=>rw[b]at f;exact f
 obtain⟨σ,E,j,g,B⟩:=ajH D jump u S w w' t kH A;obtain⟨d,hd,q⟩:=B #[];rw[vcq]at hd;rw[hd];refine iO.after g (λe y=>q e (ym y)) ?_;generalize(Instr.endRound l jump).run C.P w=r at j i;generalize(Instr.endRound a jump).run C.Q w'=r' at j;cases j with
 |ok hv m=>cases k with|nil=>have:=o.2;grind|cons z b=>exact YB (p.mono g.le) (z.mono g.le) (jf.mono g.le b) o.Rp m hv i
 |panic hv m=>cases i
 |goexit m=>cases i
def Mq{main main':Bool}{base:fG}(jump:Option Code)(p:∀c,jump=some c->C.me c)(f:ej C ρ fr aP)(e:jf C ρ cs be)(j:jg fr cs)(i:et C S ρ w w')(L d:GStep)(k:fr.roundOf=none->L=(if sN jump=true then .go {frame:={fr with mode:=.returning},callers:=cs++b0,status:=.running,dying:=none} w else .ended (.stuck "exit, goto: no such block or label" (fr.pos C.P)) w))(r:∀l,fr.roundOf=some l->L=GStep.after (seen C.P fr.fn ((Instr.endRound l jump).events C.P w #[])) (match(Instr.endRound l jump).run C.P w with
  | .ok v w=>doReturn C.P main fr (cs++b0) none v w
  | .halt _ w=>.ended (.stuck "range over a function: no such loop" (fr.pos C.P)) w))(n:aP.roundOf=none->d=(if sN jump=true then .go {frame:={aP with mode:=.returning},callers:=be++base,status:=.running,dying:=none} w' else .ended (.stuck "exit, goto: no such block or label" (aP.pos C.Q)) w'))(m:∀l,aP.roundOf=some l->d=GStep.after (seen C.Q aP.fn ((Instr.endRound l jump).events C.Q w' #[])) (match(Instr.endRound l jump).run C.Q w' with
  | .ok v w=>doReturn C.Q main' aP (be++base) none v w
  | .halt _ w=>.ended (.stuck "range over a function: no such loop" (aP.pos C.Q)) w))(h:L=.go g1 w1 mg)(q:(iN d).drawn<=S.bound):iO C S ρ b0 base w' g1 w1 d:=by
 have b:=f.roundOf;cases h0:fr.roundOf with
 |none=>
  cases a:aP.roundOf with
  |some l=>rw[h0,a]at b;cases b
  |none=>
   rw[k h0]at h;rw[n a];split at h
   .rename_i g;rw[vbz g];cases h;exact sM (fr:=fr) e j i Y Y (f.vc .returning)
   grind
 |some l=>cases a:aP.roundOf with|none=>rw[h0,a]at b;cases b|some o=>grind[Az,akd]
theorem akf(j:C.Good){main':Bool}{base:fG}(z:ej C ρ fr aP)(p:jf C ρ cs be)(F:jg fr cs)(E:et C S ρ w w')(h:stepG.exec C.P true true fr (cs++b0) none w=.go g1 w1 mg)(hrun:g1.status=.running)(U:g1.dying=none)(g:(iN (stepG.exec C.Q main' true aP (be++base) none w')).drawn<=S.bound):
 iO C S ρ b0 base w' g1 w1 (stepG.exec C.Q main' true aP (be++base) none w'):=by
 have ht:=z.todo;have ot:=z.eval E.nL;have a7:∀{t cJ:uaa},ng C ρ t cJ->iO C S ρ b0 base w' (a0 {fr with todo:=t} (cs++b0)) w (.go (a0 {aP with todo:=cJ} (be++base)) w'):=λu=>sM (fr:=fr) p F E rfl rfl (z.yn u);cases m:fr.todo with
 |nil=>
  cases q:aP.todo with
  |cons a l=>rw[m,q]at ht;cases ht
  |nil=>
   refine Mq (main:=true) (main':=main') none (λc e=>Cy) z p F E (stepG.exec C.P true true fr (cs++b0) none w) _ ?_ ?_ ?_ ?_ h g
   .grind[stepG.exec,sN]
   .grind[stepG.exec,Sem.runT_eq]
   .grind[stepG.exec,sN]
   grind[stepG.exec,Sem.runT_eq]
 |cons i k=>
  cases q:aP.todo with
  |nil=>rw[m,q]at ht;cases ht
  |cons i' k'=>
   rw[m,q]at ht;cases ht with
   |cons hi hk=>
    cases hi with
    |@code c hok=>
     have A:=(j.o6 c).1 hok;cases c with
     |skip=>unfold stepG.exec at h⊢;simp only[m]at h;simp only[q];cases h;exact a7 hk
     |label l=>unfold stepG.exec at h⊢;simp only[m]at h;simp only[q];cases h;exact a7 hk
     |seq a b=>simp only[jY,vah]at A;unfold stepG.exec at h⊢;simp only[m]at h;simp only[q];cases h;exact a7 (.cons (.code ((j.o6 _).2 A.1)) (.cons (.code ((j.o6 _).2 A.2)) hk))
     |cond c a b=>
      simp only[jY,vah]at A;unfold stepG.exec at h⊢;simp only[m]at h;simp only[q];have hv:=ot c A.1.1;generalize fr.eval c=v at h hv;generalize aP.eval c=v' at hv;cases hv with
      |bool b=>
       cases h;refine a7 (.cons (.code ?_) hk);cases b
       .exact(j.o6 _).2 A.2
       .exact(j.o6 _).2 A.1.2
      | _=>cases h
     |block id b=>unfold stepG.exec at h⊢;simp only[m]at h;simp only[q];cases h;exact a7 (.cons (.code ((j.o6 _).2 A)) (.cons (.inBlock id) hk))
     |loop b=>unfold stepG.exec at h⊢;simp only[m]at h;simp only[q];cases h;exact a7 (.cons (.code ((j.o6 _).2 A)) (.cons (.inLoop ((j.o6 _).2 A)) hk))
     |scope b=>unfold stepG.exec at h⊢;simp only[m]at h;simp only[q];cases h;exact a7 (.cons (.code ((j.o6 _).2 A)) (.cons (.inScope ((j.o6 _).2 A)) hk))
     |refuse s=>grind[stepG.exec]
     |ret=>
      refine Mq (main:=true) (main':=main') (some .ret) (λc e=>AJ) z p F E (stepG.exec C.P true true fr (cs++b0) none w) _ ?_ ?_ ?_ ?_ h g
      .grind[stepG.exec,sN]
      .grind[stepG.exec,Sem.runT_eq]
      .grind[stepG.exec,sN]
      grind[stepG.exec,Sem.runT_eq]
     |exit id=>
      have u:=aj7 id hk;cases N:exitTo id k with
      |some t=>cases K:exitTo id k' with|none=>rw[N,K]at u;cases u|some cJ=>rw[N,K]at u;cases u with|some u=>unfold stepG.exec at h⊢;simp only[m,N,vdi]at h;simp only[q,K,vdi];cases h;exact a7 u
      |none=>
       cases K:exitTo id k' with
       |some t=>rw[N,K]at u;cases u
       |none=>
        refine Mq (main:=true) (main':=main') (some (.exit id)) (λc e=>AJ) z p F E (stepG.exec C.P true true fr (cs++b0) none w) _ ?_ ?_ ?_ ?_ h g
        .grind[stepG.exec]
        .grind[stepG.exec,Sem.runT_eq]
        .grind[stepG.exec,sN]
        grind[stepG.exec,Sem.runT_eq]
     |goto id=>
      have u:=aj_ j.o6 id hk;cases N:gotoIn id k with
      |some t=>cases K:gotoIn id k' with|none=>rw[N,K]at u;cases u|some cJ=>rw[N,K]at u;cases u with|some u=>unfold stepG.exec at h⊢;simp only[m,N,vdi]at h;simp only[q,K,vdi];cases h;exact a7 u
      |none=>
       cases K:gotoIn id k' with
       |some t=>rw[N,K]at u;cases u
       |none=>
        refine Mq (main:=true) (main':=main') (some (.goto id)) (λc e=>AJ) z p F E (stepG.exec C.P true true fr (cs++b0) none w) _ ?_ ?_ ?_ ?_ h g
        .grind[stepG.exec]
        .grind[stepG.exec,Sem.runT_eq]
        .grind[stepG.exec,sN]
        grind[stepG.exec,Sem.runT_eq]
     |region id ops draw=>
      simp only[jY,vao]at A;unfold stepG.exec at h g⊢;simp only[m]at h;simp only[q]at g⊢;cases draw with
      |false=>simp only[Bool.not_false,vbr]at h⊢;cases h;exact a7 (.cons (.inRegion A _) hk)
      |true=>
       simp only[Bool.not_true,vaf,vbv]at h g⊢;have eq:(Question.order aP.fn id)=.order fr.fn id:=by rw[z.fn]
       rw[eq]at g⊢;rw[j.follows];have T:(lw ((Go.choose (.order fr.fn id)).run C.Q w')).drawn<=S.bound:=by cases H:(Go.choose (.order fr.fn id)).run C.Q w' with|ok v w2=>rw[H]at g;exact g|halt x w2=>rw[H]at g;exact g
       have Y:=ap.choose (C:=C) (ρ:=ρ) (.order fr.fn id) S w w' E (by unfold Go.choose;simp only[Sem.run,Question.forced];trivial) T;obtain⟨σ,tR,D,B,_⟩:=Y;generalize(Go.choose (.order fr.fn id)).run C.P w=r at D h;generalize(Go.choose (.order fr.fn id)).run C.Q w'=r' at D;cases D with|ok ht P=>subst ht;cases h;refine⟨σ,_,cs,_,be,_,_,rfl,rfl,?_,jf.mono B.le p,F.same rfl rfl,P,B,AQ⟩;exact(z.mono B.le).yn (.cons (.inRegion A _) (ng.mono B.le hk))|panic=>cases h|goexit=>cases h
     |rangeFunc f params assign body=>
      simp only[jY,vah]at A;unfold stepG.exec at h g⊢;simp only[m,vas]at h;simp only[q,vas]at g⊢;obtain⟨tP,J⟩:=AB h;rw[Az]at g;have Ru:=Yn (C:=C) (ρ:=ρ) fr.fn z.known z.tmps params ((j.o6 _).2 A.1.2) ((j.o6 _).2 A.2) z.roundOf;have Rv:Instr.enterLoop aP.fn aP.tmps params assign body aP.roundOf=Instr.enterLoop fr.fn aP.tmps params assign body aP.roundOf:=by rw[z.fn]
      rw[Rv]at g⊢;have T:(lw ((Instr.enterLoop fr.fn aP.tmps params assign body aP.roundOf).run C.Q w')).drawn<=S.bound:=by cases H:(Instr.enterLoop fr.fn aP.tmps params assign body aP.roundOf).run C.Q w' with|ok v w2=>rw[H]at g;exact vac (vac (B3 C.Q _ w2).1 (FL C.Q _ _ none _ w2)) g|halt x w2=>rw[H]at g;exact g
      have kH:Good ((Instr.enterLoop fr.fn fr.tmps params assign body fr.roundOf).run C.P w):=by cases H:(Instr.enterLoop fr.fn fr.tmps params assign body fr.roundOf).run C.P w with|ok v w2=>trivial|halt x w2=>grind
      obtain⟨σ,tR,D,B,bR⟩:=Ru S w w' E kH T;obtain⟨d,hd,V⟩:=bR #[];rw[vcq]at hd;rw[hd];refine iO.after B (λe m=>V e (ym m)) ?_;generalize(Instr.enterLoop fr.fn fr.tmps params assign body fr.roundOf).run C.P w=r at D J;generalize(Instr.enterLoop fr.fn aP.tmps params assign body aP.roundOf).run C.Q w'=r' at D g;cases D with
      |@ok a b yh _ eP P=>
       obtain⟨l,mark⟩:=a;obtain⟨M,IC⟩:=b;obtain⟨O,tS⟩:=eP;have I:=z.mono B.le;have nh:ej C σ {fr with todo:=.inRangeFunc l::k,defers:=mark++fr.defers} {aP with todo:=.inRangeFunc M::k',defers:=IC++aP.defers}:=
        ⟨I.fn,I.known,I.tmps,.cons (.inRangeFunc O) (ng.mono B.le hk),dx.append tS I.defers,I.mode,I.kind,I.plain,I.roundOf⟩
       have Rw:=nh.eval P.nL;refine Rr j.funcs nh (jf.mono B.le p) (F.same rfl rfl) P ?_ (.inl j.Rs) (j.follows _) J hrun U g;refine .bind (R:=Av) ?_ λcY x y _ hd=>Iz j.same j.FO j.funcs hd.target hd.args;have X:=Rw f A.1.1;simp only[resolve];revert X;generalize Frame.eval _ f=v;generalize Frame.eval _ f=v';intro X;unfold Deferred.ofValue;have hy:aM σ #[Value.func (.yield l) #[] #[]] #[Value.func (.yield M) #[] #[]]:=.one (.Ik (.yield O) (.nil σ) (.nil σ));have mU:aM σ ((#[Operand.const (.func (.yield l) #[] #[])]:uaw).map (Frame.eval {fr with todo:=.inRangeFunc l::k,defers:=mark++fr.defers})) ((#[Operand.const (.func (.yield M) #[] #[])]:uaw).map (Frame.eval {aP with todo:=.inRangeFunc M::k',defers:=IC++aP.defers})):=by grind[Frame.eval]
       cases X with|func gR h1 h3 h4 aU=>exact .pure ⟨.fn gR ⟨h3,aU⟩,aM.append ⟨h1,h4⟩ mU⟩|nilFunc=>exact .pure ⟨.nil,mU⟩| _=>exact .stuck
      |panic=>cases J
      |goexit=>cases J
    |inBlock id=>unfold stepG.exec at h⊢;simp only[m]at h;simp only[q];cases h;exact a7 hk
    |inScope g=>unfold stepG.exec at h⊢;simp only[m]at h;simp only[q];cases h;exact a7 hk
    |inLoop g=>unfold stepG.exec at h⊢;simp only[m]at h;simp only[q];cases h;exact a7 (.cons (.code g) (.cons (.inLoop g) hk))
    |@inRegion ops Ce todo=>
     cases todo with
     |nil=>unfold stepG.exec at h⊢;simp only[m]at h;simp only[q];cases h;exact a7 hk
     |cons n rest=>
      unfold stepG.exec at h g⊢;simp only[m]at h;simp only[q]at g⊢;rw[<-YA z.tmps ops]at g⊢;split at h
      .rename_i ID;rw[vbz ID]at g⊢;have W:∃o,ops[n]?=some o:=by grind
       obtain⟨o,D⟩:=W;have Cf:=Ce o (vbd D);have h1:fr.oper?=some o:=G0;have il:aP.oper?=some o:=G0;have L:=z.roundOf;unfold stepG.oper at h g⊢;simp only[h1]at h;simp only[il]at g⊢;have plain:stepG.apply C.P true fr (cs++b0) none (execOp fr.eval o) w=.go g1 w1 mg->(iN (stepG.apply C.Q true aP (be++base) none (execOp aP.eval o) w')).drawn<=S.bound->iO C S ρ b0 base w' g1 w1 (stepG.apply C.Q true aP (be++base) none (execOp aP.eval o) w'):=λu hy=>
        Rr j.funcs z p F E (Yu j.same j.FO j.funcs ot Cf) (.inl j.Rs) (j.follows _) u hrun U hy
       cases h0:fr.roundOf with
       |none=>cases Q:aP.roundOf with|some l=>rw[h0,Q]at L;cases L|none=>grind
       |some l=>cases Q:aP.roundOf with|none=>rw[h0,Q]at L;cases L|some M=>rw[h0,Q]at L;cases L with|some O=>cases Z:o.op with|defer c=>rw[Z]at Cf;cases Cf| _=>simp only[h0,Z]at h;simp only[Q,Z]at g;exact plain h g
      .rename_i ID;rw[vbt ID];cases h;exact sM (fr:=fr) p F E (AA _ _).1 (AA _ _).2 (z.finish (.undef ρ))
    |inRangeFunc O=>grind[stepG.exec]
    |@endRangeFunc l M O=>
     unfold stepG.exec at h g⊢;simp only[m,vas]at h;simp only[q,vas]at g⊢;obtain⟨tP,J⟩:=AB h;rw[Az]at g;have T:(lw ((Instr.endLoop M).run C.Q w')).drawn<=S.bound:=by cases H:(Instr.endLoop M).run C.Q w' with|ok v w2=>rw[H]at g;exact g|halt x w2=>rw[H]at g;cases x<;>exact g
     have kH:Good ((Instr.endLoop l).run C.P w):=by cases H:(Instr.endLoop l).run C.P w with|ok v w2=>trivial|halt x w2=>rw[H]at J;cases x with|panic v=>trivial| _=>cases J
     obtain⟨σ,tR,D,B,bR⟩:=ajI O j.same S w w' E kH T;obtain⟨d,hd,V⟩:=bR #[];rw[vcq]at hd;rw[hd];refine iO.after B (λe m=>V e (ym m)) ?_;generalize(Instr.endLoop l).run C.P w=r at D J;generalize(Instr.endLoop M).run C.Q w'=r' at D;have I:=z.mono B.le;have qO:=jf.mono B.le p;cases D with
     |@ok a b yh _ eP P=>obtain⟨e,hj⟩:=eP;subst e;cases J;refine sM (fr:=fr) qO F P rfl rfl (I.yn (dx.append ?_ (ng.mono B.le hk)));cases a with|none=>exact .nil|some c=>exact .cons (.code (hj c rfl)) .nil
     |panic hv P=>cases J;exact sM (fr:=fr) qO F P (tO _ _).1 (tO _ _).2 (I.raise (.cons ⟨hv,rfl,rfl⟩ .nil))
     |goexit=>cases J
    |beginRound=>unfold stepG.exec at h g⊢;simp only[m]at h;simp only[q]at g⊢;refine Rr j.funcs z p F E (.bind (R:=λ_(_ _:Unit)=>True) ?_ λ_ _ _ _ _=>.pure .skip) (.inl j.Rs) (j.follows _) h hrun U g;have L:=z.roundOf;generalize fr.roundOf=a at L;generalize aP.roundOf=b at L;cases L with|none=>exact .stuck|some O=>exact Yo O j.same
end
variable{g:uaf}{es:uao}{cJ t:fi}{a b:GStep}
section
section
variable{C:cQ}{S:Sync}{ρ:Ren}
def akg(c:C.cp):∀(l:List ResultVar)(ρ:Ren),aM ρ t cJ->ap C ρ (λσ a b=>dx (ax σ) a b)
 (l.mapM λ| .tmp x=>pure (t.getD x undef)| .cell a ty=>do Go.loadVar ty (<-Go.asAddr (t.getD a undef))) (l.mapM λ| .tmp x=>pure (cJ.getD x undef)| .cell a ty=>do Go.loadVar ty (<-Go.asAddr (cJ.getD a undef))):=by
 intro l;induction l with|nil=>intro ρ _;simp only[List.mapM_nil];exact .pure .nil|cons r l d=>intro ρ h;simp only[List.mapM_cons];refine .bind (R:=ax) ?_ λσ v g l1 hv=>.bind (d σ (h.mono l1)) λj a b l2 f=>.pure (.cons (hv.mono l2) f);cases r with|tmp x=>exact .pure (h.getD (.undef ρ) x)|cell a ty=>exact .bind (ap.asAddr c (h.getD (.undef ρ) a)) λσ p i _ e=>ap.loadVar c ty e
def akh(g:C.cp)(fn:Func)(h:aM ρ t cJ):ap C ρ ax (results fn t) (results fn cJ):=by
 unfold results;refine .bind (R:=aM) ?_ λσ a b _ c=>.pure ?_
 .rw[vci,vci];exact .bind (f:=λl=>Pure.pure l.toArray) (f':=λl=>Pure.pure l.toArray) (akg g fn.results.toList ρ h) λσ a b _ c=>.pure (aM.Mc c)
 .by_cases d:a.size=1
  .have e:b.size=1:=c.size▸d;rw[dif_pos d,dif_pos e];exact c.get 0 _ _ AJ AJ
  .have e:¬b.size=1:=c.size▸d;rw[dif_neg d,dif_neg e];exact .Mb c
def aki{c:Prop}[Decidable c](h:(if c then a else b)=.go g w es)(d:∀g w es,a≠ .go g w es):¬c/\b=.go g w es:=by grind
def iO.ite{c:Prop}[Decidable c]{base:fG}(hn:¬c)(h:iO C S ρ b0 base w' g1 w1 b):iO C S ρ b0 base w' g1 w1 (if c then a else b):=by grind
def akj(p:C.Good){base:fG}{d i:Deferred}(D:ej C ρ fr aP)(s:jf C ρ cs be)(n:jg fr cs)(K:et C S ρ w w')(hd:Av ρ d i)(h:callDeferred C.P fr (cs++b0) none d w=.go g1 w1 mg)(hrun:g1.status=.running)(H:g1.dying=none)(l:(iN (callDeferred C.Q aP (be++base) none i w')).drawn<=S.bound):iO C S ρ b0 base w' g1 w1 (callDeferred C.Q aP (be++base) none i w'):=by
 have R:∀{t cJ:Target}{m A:FrameMode},uZ ρ t cJ->vb ρ m A->((t matches .nil)&&(m matches .panicking _))=((cJ matches .nil)&&(A matches .panicking _)):=λht N=>by cases ht<;>cases N<;>rfl
 have E:=R hd.target D.mode;have z:=Yx C.Q aP (be++base) none i w';unfold callDeferred at h⊢;simp only[vas]at h⊢;obtain⟨B,h⟩:=aki h (λ_ _ _=>AQ);refine iO.ite (λb=>B (Eq.trans E b)) ?_;have z:=vac (z.resolve_left λb=>B (Eq.trans E b)) l;obtain⟨V,a⟩:=AB h;clear h;have kH:Good ((invoke d.target d.args).run C.P w):=by cases L:(invoke d.target d.args).run C.P w with|ok U w2=>trivial|halt x w2=>rw[L]at a;cases x with|panic v=>trivial|goexit=>trivial|blocked=>grind|waiting=>grind|unsupported u=>cases a|exit c=>cases a|fatal m=>grind[Yy]|throw m=>exact absurd H (Rq a)|stuck m=>cases a
 obtain⟨σ,I,q,f,Q⟩:=Iz p.same p.FO p.funcs hd.target hd.args S w w' K kH z;obtain⟨dd,k,J⟩:=Q #[];rw[vcq]at k;rw[k];have o:=D.mono f.le;have j:=jf.mono f.le s;generalize(invoke d.target d.args).run C.P w=r at q a;generalize(invoke i.target i.args).run C.Q w'=r' at q;have evs:∀e∈seen C.Q aP.fn dd,w7 σ e:=λe P=>J e (ym P);cases q with
 |@ok _ _ F _ hn g=>have keep:iO C S ρ b0 base w' (a0 fr (cs++b0)) F (GStep.after (seen C.Q aP.fn dd) (.go (a0 aP (be++base)) I)):=iO.after f evs (sM j n g Y Y o);cases hn with|value hv=>cases a;exact keep|skip=>cases a;exact keep|enter y M l=>cases a;refine iO.after f evs ?_;exact⟨σ,_,fr::cs,_,aP::be,_,_,Y,Y,.enter p.funcs y M l LO,.cons o j,n.push,g,.refl _ _,AQ⟩|round O T ht y l=>cases a;refine iO.after f evs ?_;exact⟨σ,_,fr::cs,_,aP::be,_,_,Y,Y,.round O T ht y l LO,.cons o j,n.push,g,.refl _ _,AQ⟩
 |panic hv g=>cases a;exact iO.after f evs (sM (fr:=fr) j n g (tO _ _).1 (tO _ _).2 (o.raise (.cons ⟨hv,Y,Y⟩ .nil)))
 |goexit g=>cases a;exact iO.after f evs (sM (fr:=fr) j n g (tO _ _).1 (tO _ _).2 (o.raise (.cons ⟨.undef σ,Y,Y⟩ .nil)))
def FQ(fr:Frame)(cs:fG):Prop:=cs=[]/\fr.defers=[]/\(fr.mode=.returning\/∃l,fr.mode=.panicking l)
theorem YD(F:C.Good){main':Bool}{base:fG}(k:ej C ρ fr aP)(s:jf C ρ cs be)(B:jg fr cs)(A:et C S ρ w w')(akk:fr.mode≠ .run)(Y:¬FQ fr cs)(h:unwind C.P true fr (cs++b0) none w=.go g1 w1 mg)(hrun:g1.status=.running)(R:g1.dying=none)(b:(iN (unwind C.Q main' aP (be++base) none w')).drawn<=S.bound):iO C S ρ b0 base w' g1 w1 (unwind C.Q main' aP (be++base) none w'):=by
 have m:=k.defers;cases hd:fr.defers with
 |cons d ds=>
  cases z:aP.defers with
  |nil=>rw[hd,z]at m;cases m
  |cons J V=>
   rw[hd,z]at m;cases m with
   |cons o u=>
    have plain:(∀r,d.target≠ .collected r)->iO C S ρ b0 base w' g1 w1 (unwind C.Q main' aP (be++base) none w'):=by
     intro hn;have jJ:∀r,J.target≠ .collected r:=by intro r e;have:=o.target;rw[e]at this;generalize hq:d.target=q at this;cases this;grind
     have e1:unwind C.P true fr (cs++b0) none w=callDeferred C.P {fr with defers:=ds} (cs++b0) none d w:=by unfold unwind;grind
     have e2:unwind C.Q main' aP (be++base) none w'=callDeferred C.Q {aP with defers:=V} (be++base) none J w':=by unfold unwind;grind
     rw[e1]at h;rw[e2]at b⊢;exact akj F (k.Cc u) s (B.same rfl rfl) A o h hrun R b
    obtain⟨t,a⟩:=d;obtain⟨cJ,a'⟩:=J;cases t with
    |collected r=>
     have M:=o.target;cases M with
     |collected L=>
      rename_i N;unfold unwind at h b⊢;simp only[hd,vas]at h;simp only[z,vas]at b⊢;obtain⟨U,j⟩:=AB h;rw[Az]at b;have H:(lw ((Instr.takeDeferred N).run C.Q w')).drawn<=S.bound:=by cases hq:(Instr.takeDeferred N).run C.Q w' with|ok v w2=>rw[hq]at b;exact b|halt x w2=>rw[hq]at b;exact b
      have kH:Good ((Instr.takeDeferred r).run C.P w):=by cases hq:(Instr.takeDeferred r).run C.P w with|ok v w2=>trivial|halt x w2=>grind
      obtain⟨σ,T,p,i,K⟩:=ajJ L S w w' A kH H;obtain⟨dd,g,D⟩:=K #[];rw[vcq]at g;rw[g];refine iO.after i (λe E=>D e (ym E)) ?_;generalize(Instr.takeDeferred r).run C.P w=q at p j;generalize(Instr.takeDeferred _).run C.Q w'=q' at p;cases p with|ok hv I=>cases j;exact sM (fr:=fr) (jf.mono i.le s) B I rfl rfl ((k.mono i.le).Cc (dx.append hv (rM.mono i.le u)))|panic=>cases j|goexit=>cases j
    | _=>grind
 |nil=>
  have z:aP.defers=[]:=by rw[hd]at m;generalize aP.defers=q at m;cases m;rfl
  have f:=k.mode;obtain⟨fn,c,P,Q⟩:=k.known;obtain⟨hq,_,_⟩:=F.funcs.body _ _ _ P Q;rw[k.fn]at hq;cases s with
  |nil=>exfalso;apply Y;refine⟨rfl,hd,?_⟩;cases y:fr.mode with|run=>grind|returning=>grind|panicking l=>grind
  |@cons cz Ms cs be O u=>
   unfold unwind at h b⊢;simp only[hd]at h;simp only[z]at b⊢;cases y:fr.mode with
   |run=>grind
   |returning=>
    rw[y]at f;cases n:aP.mode with
    |run=>rw[n]at f;cases f
    |panicking l=>rw[n]at f;cases f
    |returning=>
     simp only[y,P,vas]at h;simp only[n,hq,vas]at b⊢;obtain⟨U,j⟩:=AB h;rw[Az]at b;have H:(lw ((results fn aP.tmps).run C.Q w')).drawn<=S.bound:=by cases o:(results fn aP.tmps).run C.Q w' with|ok v w2=>rw[o]at b;simp only[Yv]at b;exact b|halt x w2=>rw[o]at b;cases x<;>exact b
     have kH:Good ((results fn fr.tmps).run C.P w):=by cases o:(results fn fr.tmps).run C.P w with|ok v w2=>trivial|halt x w2=>grind
     obtain⟨σ,T,p,i,K⟩:=akh F.same fn k.tmps S w w' A kH H;obtain⟨dd,g,D⟩:=K #[];rw[vcq]at g;rw[g];refine iO.after i (λe E=>D e (ym E)) ?_;generalize(results fn fr.tmps).run C.P w=q at p j;generalize(results fn aP.tmps).run C.Q w'=q' at p;cases p with|ok hv I=>exact YB (k.mono i.le) (O.mono i.le) (jf.mono i.le u) B.Rp I hv j|panic=>cases j|goexit=>cases j
   |panicking l=>
    rw[y]at f;cases n:aP.mode with
    |run=>rw[n]at f;cases f
    |returning=>rw[n]at f;cases f
    |panicking l'=>
     rw[n]at f;cases f with
     |panicking Z=>
      have X:fr.catches C.P=false:=AJ;have W:aP.catches C.Q=false:=by grind[Frame.catches]
      simp only[y,X]at h;simp only[W];cases h;exact sM (fr:=cz) u B.Rp A (tO _ _).1 (tO _ _).2 (O.raise Z)
theorem akn(m:C.Good){main':Bool}{base:fG}(e:ej C ρ fr aP)(d:jf C ρ cs be)(n:jg fr cs)(j:et C S ρ w w')(i:¬FQ fr cs)(h:stepG C.P true (a0 fr (cs++b0)) w=.go g1 w1 mg)(hrun:g1.status=.running)(f:g1.dying=none)(k:(iN (stepG C.Q main' (a0 aP (be++base)) w')).drawn<=S.bound):iO C S ρ b0 base w' g1 w1 (stepG C.Q main' (a0 aP (be++base)) w'):=by
 have a:=e.mode;cases c:fr.mode with
 |run=>rw[c]at a;cases b:aP.mode with|run=>grind[stepG,a0,akf]| _=>rw[b]at a;cases a
 |returning=>rw[c]at a;cases b:aP.mode with|returning=>grind[stepG,a0,YD]| _=>rw[b]at a;cases a
 |panicking l=>rw[c]at a;cases b:aP.mode with|panicking g=>grind[stepG,a0,YD]| _=>rw[b]at a;cases a
end
end
def IE(g:uaf):Prop:=(g.dying=none/\(g.status=.blocked\/g.status=.waiting))\/∃d f,g.dying=some d/\d.fatal=some f/\d.calling=false/\(g.status=.running\/g.status=.blocked)
def Kind:GStep->Prop
 | .go g _ _=>(g.status=.running/\g.dying=none)\/IE g
 | .ended .. =>True
 | _=>False
variable{s:GStep}
theorem Kind.after(h:Kind s):Kind (GStep.after es s):=by cases s<;>exact h
def Kind.ite{c:Prop}[Decidable c](e:Kind a)(d:Kind b):Kind (if c then a else b):=by grind
def Kind.pos{c:Prop}[Decidable c](h:c)(d:Kind a):Kind (if c then a else b):=by grind
def Rx{ps:List ByteArray}{m:String}{b:Bool}:Kind (dieOf fr ps m b w):=.inr (.inr ⟨_,_,Y,Y,Y,.inl Y⟩)
def YE{P:cf}{d:Option Dying}{m:String}:Kind (endFatal P fr cs d m w):=by
 unfold endFatal;simp only[];split
 .exact Rx
 .trivial
 .trivial
def Ry:Result Next->Prop
 | .ok (.value _) _ | .ok .skip _ | .ok (.enter ..) _ | .ok (.round ..) _=>True
 | .ok _ _=>False
 | .halt (.unsupported (.initOrder _)) _=>False
 | .halt _ _=>True
section
variable{C:cQ}{S:Sync}{ρ:Ren}
def Mt{s s':Sem Next}(hs:ap C ρ (pO C) s s')(c:et C S ρ w w')(d:(lw (s'.run C.Q w')).drawn<=S.bound):Ry (s.run C.P w):=by
 by_cases hg:Good (s.run C.P w)
 .obtain⟨σ,w1,a,_,_⟩:=hs S w w' c hg d;generalize s.run C.P w=r at a;generalize s'.run C.Q w'=r' at a;cases a with|ok h _=>cases h<;>trivial|panic=>trivial|goexit=>trivial
 .cases b:s.run C.P w with
  |ok v w1=>rw[b]at hg;exact absurd trivial hg
  |halt x w1=>
   rw[b]at hg;cases x with
   |unsupported u=>cases u<;>first|trivial|exact absurd trivial hg
   | _=>trivial
def Rz{P:cf}{s:Sem Next}(h:Ry (s.run P w)):Kind (stepG.apply P true fr cs none s w):=by
 unfold stepG.apply;simp only[vas,vbr];refine Kind.after ?_;cases d:s.run P w with
 |ok e w1=>rw[d]at h;cases e with|value v=>exact .inl ⟨Y,Y⟩|skip=>exact .inl ⟨Y,Y⟩|enter f a=>exact .inl ⟨Y,Y⟩|round l f t a b=>exact .inl ⟨Y,Y⟩| _=>exact absurd h id
 |halt x w1=>
  rw[d]at h;cases x with
  |panic v=>exact .inl ⟨Y,Y⟩
  |goexit=>exact .inl ⟨Y,Y⟩
  |blocked=>exact .inr (.inl ⟨Y,.inl Y⟩)
  |waiting=>exact .inr (.inl ⟨Y,.inr Y⟩)
  |unsupported u=>cases u<;>first|trivial|exact absurd h id
  |exit c=>trivial
  |fatal m=>exact YE
  |throw m=>exact Rx
  |stuck m=>trivial
def ako{P:cf}{d:Deferred}(h:Ry ((invoke d.target d.args).run P w)):Kind (callDeferred P fr cs none d w):=by
 unfold callDeferred;refine Kind.ite trivial ?_;simp only[vas];refine Kind.after ?_;cases e:(invoke d.target d.args).run P w with
 |ok g w1=>rw[e]at h;cases g with|value v=>exact .inl ⟨Y,Y⟩|skip=>exact .inl ⟨Y,Y⟩|enter f a=>exact .inl ⟨Y,Y⟩|round l f t a b=>exact .inl ⟨Y,Y⟩| _=>exact absurd h id
 |halt x w1=>rw[e]at h;cases x with|panic v=>exact .inl ⟨Y,Y⟩|goexit=>exact .inl ⟨Y,Y⟩|blocked=>exact .inr (.inl ⟨Y,.inl Y⟩)|waiting=>exact .inr (.inl ⟨Y,.inr Y⟩)|unsupported u=>trivial|exit c=>trivial|fatal m=>exact YE|throw m=>exact Rx|stuck m=>trivial
def YF{P:cf}{main:Bool}{c:Frame}{v:Value}:Kind (doReturn P main fr (c::cs) none v w):=by unfold doReturn;simp only[];split<;>exact .inl ⟨Y,Y⟩
theorem akp{P:cf}{main:Bool}{r:Result Value}(a:jg fr cs){l:Nat}(b:fr.roundOf=some l):
 Kind (GStep.after es (match r with| .ok v w=>doReturn P main fr (cs++b0) none v w| .halt _ w=>.ended (.stuck "range over a function: no such loop" (fr.pos P)) w)):=by
 refine Kind.after ?_;cases r with|halt x w=>trivial|ok v w=>cases cs with|nil=>have:=a.2;grind|cons c cs=>exact YF
def Mu{P:cf}{main:Bool}(jump:Option Code)(b:jg fr cs)(L:GStep)(a:fr.roundOf=none->L=(if sN jump=true then .go {frame:={fr with mode:=.returning},callers:=cs++b0,status:=.running,dying:=none} w else .ended (.stuck "exit, goto: no such block or label" (fr.pos P)) w))(c:∀l,fr.roundOf=some l->L=GStep.after (seen P fr.fn ((Instr.endRound l jump).events P w #[])) (match(Instr.endRound l jump).run P w with
  | .ok v w=>doReturn P main fr (cs++b0) none v w
  | .halt _ w=>.ended (.stuck "range over a function: no such loop" (fr.pos P)) w)):Kind L:=by
 cases h0:fr.roundOf with
 |none=>
  rw[a h0];split
  .exact .inl ⟨Y,Y⟩
  .trivial
 |some l=>grind[akp]
theorem YG(i:C.Good){main':Bool}{base:fG}(j:ej C ρ fr aP)(h:jf C ρ cs be)(z:et C S ρ w w')(J:fr.mode≠ .run)(y:¬FQ fr cs)(p:(iN (unwind C.Q main' aP (be++base) none w')).drawn<=S.bound):Kind (unwind C.P true fr (cs++b0) none w):=by
 have b:=j.defers;cases hd:fr.defers with
 |cons d ds=>
  cases s:aP.defers with
  |nil=>rw[hd,s]at b;cases b
  |cons g n=>
   rw[hd,s]at b;cases b with
   |cons f A=>
    have plain:(∀r,d.target≠ .collected r)->Kind (unwind C.P true fr (cs++b0) none w):=by
     intro hn;have M:∀r,g.target≠ .collected r:=by intro r e;have:=f.target;rw[e]at this;generalize hq:d.target=q at this;cases this;grind
     have I:unwind C.P true fr (cs++b0) none w=callDeferred C.P {fr with defers:=ds} (cs++b0) none d w:=by unfold unwind;grind
     have H:unwind C.Q main' aP (be++base) none w'=callDeferred C.Q {aP with defers:=n} (be++base) none g w':=by unfold unwind;grind
     rw[I];rw[H]at p;rcases Yx C.Q {aP with defers:=n} (be++base) none g w' with o|D
     .have K:∀{t cJ:Target}{m k:FrameMode},uZ ρ t cJ->vb ρ m k->((t matches .nil)&&(m matches .panicking _))=((cJ matches .nil)&&(k matches .panicking _)):=λht B=>by cases ht<;>cases B<;>rfl
      have u:=Eq.trans (K f.target j.mode) o;unfold callDeferred;exact Kind.pos u trivial
     .exact ako (Mt (Iz i.same i.FO i.funcs f.target f.args) z (vac D p))
    obtain⟨t,a⟩:=d;obtain⟨cJ,a'⟩:=g;cases t with
    |collected r=>unfold unwind;simp only[hd,vas];refine Kind.after ?_;cases(Instr.takeDeferred r).run C.P w with|ok v w1=>exact .inl ⟨Y,Y⟩|halt x w1=>trivial
    | _=>grind
 |nil=>
  obtain⟨fn,c,E,L⟩:=j.known;cases h with
  |nil=>exfalso;apply y;refine⟨Y,hd,?_⟩;cases F:fr.mode with|run=>grind|returning=>grind|panicking l=>grind
  |@cons cz N cs be o A=>
   unfold unwind;simp only[hd];cases F:fr.mode with
   |run=>grind
   |returning=>simp only[E,vas];refine Kind.after ?_;cases(results fn fr.tmps).run C.P w with|ok v w1=>exact YF|halt x w1=>cases x<;>trivial
   |panicking l=>
    simp only[];split
    .trivial
    .exact .inl ⟨Y,Y⟩
theorem akq(h:C.Good){main':Bool}{base:fG}(j:ej C ρ fr aP)(F:jg fr cs)(D:et C S ρ w w')(d:(iN (stepG.exec C.Q main' true aP (be++base) none w')).drawn<=S.bound):Kind (stepG.exec C.P true true fr (cs++b0) none w):=by
 have ht:=j.todo;have W:=j.eval D.nL;cases e:fr.todo with
 |nil=>
  refine Mu (main:=true) (P:=C.P) (w:=w) (b0:=b0) none F (stepG.exec C.P true true fr (cs++b0) none w) ?_ ?_
  .grind[stepG.exec,sN]
  grind[stepG.exec,Sem.runT_eq]
 |cons i k=>
  cases A:aP.todo with
  |nil=>rw[e,A]at ht;cases ht
  |cons i' k'=>
   rw[e,A]at ht;cases ht with
   |cons hi hk=>
    cases hi with
    |@code c hok=>
     have B:=(h.o6 c).1 hok;cases c with
     |skip=>unfold stepG.exec;simp only[e];exact .inl ⟨rfl,rfl⟩
     |label l=>unfold stepG.exec;simp only[e];exact .inl ⟨rfl,rfl⟩
     |seq a b=>unfold stepG.exec;simp only[e];exact .inl ⟨rfl,rfl⟩
     |cond c a b=>unfold stepG.exec;simp only[e];cases fr.eval c with|bool b=>exact .inl ⟨rfl,rfl⟩| _=>trivial
     |block id b=>unfold stepG.exec;simp only[e];exact .inl ⟨rfl,rfl⟩
     |loop b=>unfold stepG.exec;simp only[e];exact .inl ⟨rfl,rfl⟩
     |scope b=>unfold stepG.exec;simp only[e];exact .inl ⟨rfl,rfl⟩
     |refuse s=>unfold stepG.exec;simp only[e];trivial
     |ret=>
      refine Mu (main:=true) (P:=C.P) (w:=w) (b0:=b0) (some .ret) F (stepG.exec C.P true true fr (cs++b0) none w) ?_ ?_
      .grind[stepG.exec,sN]
      grind[stepG.exec,Sem.runT_eq]
     |exit id=>
      cases K:exitTo id k with
      |some t=>unfold stepG.exec;simp only[e,K,vdi];exact .inl ⟨rfl,rfl⟩
      |none=>
       refine Mu (main:=true) (P:=C.P) (w:=w) (b0:=b0) (some (.exit id)) F (stepG.exec C.P true true fr (cs++b0) none w) ?_ ?_
       .grind[stepG.exec,sN]
       grind[stepG.exec,Sem.runT_eq]
     |goto id=>
      cases K:gotoIn id k with
      |some t=>unfold stepG.exec;simp only[e,K,vdi];exact .inl ⟨rfl,rfl⟩
      |none=>
       refine Mu (main:=true) (P:=C.P) (w:=w) (b0:=b0) (some (.goto id)) F (stepG.exec C.P true true fr (cs++b0) none w) ?_ ?_
       .grind[stepG.exec,sN]
       grind[stepG.exec,Sem.runT_eq]
     |region id ops draw=>unfold stepG.exec;simp only[e];cases draw with|false=>exact .inl ⟨rfl,rfl⟩|true=>simp only[Bool.not_true,vaf,vbv];cases(Go.choose (.order fr.fn id)).run C.P w with|ok v w1=>exact .inl ⟨rfl,rfl⟩|halt x w1=>trivial
     |rangeFunc f params assign body=>
      simp only[jY,vah]at B;unfold stepG.exec at d⊢;simp only[e,vas];simp only[A,vas]at d;refine Kind.after ?_;rw[Az]at d;have Ru:=Yn (C:=C) (ρ:=ρ) fr.fn j.known j.tmps params ((h.o6 _).2 B.1.2) ((h.o6 _).2 B.2) j.roundOf;have Rv:Instr.enterLoop aP.fn aP.tmps params assign body aP.roundOf=Instr.enterLoop fr.fn aP.tmps params assign body aP.roundOf:=by rw[j.fn]
      rw[Rv]at d;have gi:(lw ((Instr.enterLoop fr.fn aP.tmps params assign body aP.roundOf).run C.Q w')).drawn<=S.bound:=by cases E:(Instr.enterLoop fr.fn aP.tmps params assign body aP.roundOf).run C.Q w' with|ok v w2=>rw[E]at d;exact vac (vac (B3 C.Q _ w2).1 (FL C.Q _ _ none _ w2)) d|halt x w2=>rw[E]at d;exact d
      by_cases kH:Good ((Instr.enterLoop fr.fn fr.tmps params assign body fr.roundOf).run C.P w)
      .obtain⟨σ,tR,z,Q,bR⟩:=Ru S w w' D kH gi;generalize(Instr.enterLoop fr.fn fr.tmps params assign body fr.roundOf).run C.P w=r at z;generalize(Instr.enterLoop fr.fn aP.tmps params assign body aP.roundOf).run C.Q w'=r' at z d;cases z with
       |@ok a b yh _ eP T=>
        obtain⟨l,mark⟩:=a;obtain⟨q,U⟩:=b;obtain⟨p,V⟩:=eP;have m:=j.mono Q.le;have X:ej C σ {fr with todo:=.inRangeFunc l::k,defers:=mark++fr.defers} {aP with todo:=.inRangeFunc q::k',defers:=U++aP.defers}:=
         ⟨m.fn,m.known,m.tmps,.cons (.inRangeFunc p) (ng.mono Q.le hk),dx.append V m.defers,m.mode,m.kind,m.plain,m.roundOf⟩
        have Rw:=X.eval T.nL;refine Rz (Mt ?_ T (vac (FL C.Q _ _ none _ _) d));refine .bind (R:=Av) ?_ λcY x y _ hd=>Iz h.same h.FO h.funcs hd.target hd.args;have I:=Rw f B.1.1;simp only[resolve];revert I;generalize Frame.eval _ f=v;generalize Frame.eval _ f=v';intro I;unfold Deferred.ofValue;have N:aM σ #[Value.func (.yield l) #[] #[]] #[Value.func (.yield q) #[] #[]]:=.one (.Ik (.yield p) (.nil σ) (.nil σ));have M:aM σ ((#[Operand.const (.func (.yield l) #[] #[])]:uaw).map (Frame.eval {fr with todo:=.inRangeFunc l::k,defers:=mark++fr.defers})) ((#[Operand.const (.func (.yield q) #[] #[])]:uaw).map (Frame.eval {aP with todo:=.inRangeFunc q::k',defers:=U++aP.defers})):=by grind[Frame.eval]
        cases I with|func gR J h3 Z aU=>exact .pure ⟨.fn gR ⟨h3,aU⟩,aM.append ⟨J,Z⟩ M⟩|nilFunc=>exact .pure ⟨.nil,M⟩| _=>exact .stuck
       |panic=>trivial
       |goexit=>trivial
      .cases E:(Instr.enterLoop fr.fn fr.tmps params assign body fr.roundOf).run C.P w with|ok v w2=>rw[E]at kH;exact absurd trivial kH|halt x w2=>trivial
    |inBlock id=>unfold stepG.exec;simp only[e];exact .inl ⟨rfl,rfl⟩
    |inScope d=>unfold stepG.exec;simp only[e];exact .inl ⟨rfl,rfl⟩
    |inLoop d=>unfold stepG.exec;simp only[e];exact .inl ⟨rfl,rfl⟩
    |@inRegion ops Ce todo=>
     cases todo with
     |nil=>unfold stepG.exec;simp only[e];exact .inl ⟨rfl,rfl⟩
     |cons n rest=>
      unfold stepG.exec at d⊢;simp only[e];simp only[A]at d;rw[<-YA j.tmps ops]at d;split
      .rename_i ID;rw[vbz ID]at d;have H:∃o,ops[n]?=some o:=by grind
       obtain⟨o,z⟩:=H;have L:=Ce o (vbd z);have J:fr.oper?=some o:=G0;have Y:aP.oper?=some o:=G0;have g:=j.roundOf;unfold stepG.oper at d⊢;simp only[J];simp only[Y]at d;have plain:(iN (stepG.apply C.Q true aP (be++base) none (execOp aP.eval o) w')).drawn<=S.bound->Kind (stepG.apply C.P true fr (cs++b0) none (execOp fr.eval o) w):=λN=>
        Rz (Mt (Yu h.same h.FO h.funcs W L) D (vac (FL C.Q _ _ none _ _) N))
       cases h0:fr.roundOf with
       |none=>cases u:aP.roundOf with|some l=>rw[h0,u]at g;cases g|none=>grind
       |some l=>cases u:aP.roundOf with|none=>rw[h0,u]at g;cases g|some q=>rw[h0,u]at g;cases g with|some p=>cases O:o.op with|defer c=>rw[O]at L;cases L| _=>simp only[u,O]at d;exact plain d
      .exact .inl ⟨rfl,rfl⟩
    |inRangeFunc p=>unfold stepG.exec;simp only[e];trivial
    |@endRangeFunc l q p=>unfold stepG.exec;simp only[e,vas];refine Kind.after ?_;cases(Instr.endLoop l).run C.P w with|ok v w1=>exact .inl ⟨rfl,rfl⟩|halt x w1=>cases x with|panic v=>exact .inl ⟨rfl,rfl⟩| _=>trivial
    |beginRound=>unfold stepG.exec at d⊢;simp only[e];simp only[A]at d;refine Rz (Mt (.bind (R:=λ_(_ _:Unit)=>True) ?_ λ_ _ _ _ _=>.pure .skip) D (vac (FL C.Q _ _ none _ _) d));have g:=j.roundOf;generalize fr.roundOf=a at g;generalize aP.roundOf=b at g;cases g with|none=>exact .stuck|some p=>exact Yo p h.same
def akr(j:C.Good){main':Bool}{base:fG}(e:ej C ρ fr aP)(d:jf C ρ cs be)(k:jg fr cs)(h:et C S ρ w w')(g:¬FQ fr cs)(i:(iN (stepG C.Q main' (a0 aP (be++base)) w')).drawn<=S.bound):Kind (stepG C.P true (a0 fr (cs++b0)) w):=by
 have a:=e.mode;cases c:fr.mode with
 |run=>rw[c]at a;cases b:aP.mode with|run=>grind[stepG,a0,akq]| _=>rw[b]at a;cases a
 |returning=>rw[c]at a;cases b:aP.mode with|returning=>grind[stepG,a0,YG]| _=>rw[b]at a;cases a
 |panicking l=>rw[c]at a;cases b:aP.mode with|panicking f=>grind[stepG,a0,YG]| _=>rw[b]at a;cases a
end
def lU(g:uaf)(w:aH):Machine:={world:=w,gs:=#[g],rest:={timers:=#[],alone:=none,slice:=none}}
theorem aks(fr:Frame)(cs:fG)(w:aH):lone fr cs w=lU (a0 fr cs) w:=rfl
def akt{P:cf}(hs:g.status=.running):move P (lU g w)=.goroutine (lU g w) 0:=by simp[move,ask,askOn,lU,runnable_eq,due,ahead,Goroutine.canRun,vct,choose,pure,Sem.run,Question.forced,hs]
def Cg{P:cf}(a:g.status=.running)(h:stepG P true g w=s):
 (∀g1 w1 es,s=.go g1 w1 es->step P (lU g w)=.next (lU g1 w1))/\(∀o w1 es,s=.ended o w1 es->step P (lU g w)=.ended o w1):=by
 rw[step,stepT,akt a];grind[runT,lU]
def YH{P:cf}{m1:Machine}(hs:g.status=.blocked\/g.status=.waiting)(h:step P (lU g w)=.next m1):m1=lU g w:=by
 rcases hs with hs|hs
 .exfalso;have e6:∀x:GStep,∃o w1,(match(motive:=GStep->Move) x with| .ended o w _=>Move.machine (.ended o w)| _=>.machine (.ended (.stuck "" "") default))=.machine (.ended o w1):=λx=>by cases x<;>exact⟨_,_,Y⟩
  have:∃o w1,move P (lU g w)=.machine (.ended o w1):=by simp only[move,ask,askOn,lU,runnable_eq,due,ahead];simp[Goroutine.canRun,vct,hs,pure];exact e6 _
  grind[step,stepT]
 .have:move P (lU g w)=.machine (.next (lU g w)):=by simp[move,ask,askOn,lU,runnable_eq,due,ahead,Goroutine.canRun,vct,hs,pure]
  grind[step,stepT]
def aku{P:cf}{d:Dying}{f:Fatal}(a:d.calling=false):(∃o w1 es,writeOn P fr d f w=.ended o w1 es)\/∃g1 w1 es,writeOn P fr d f w=.go g1 w1 es/\IE g1:=by
 unfold writeOn;simp only[];split
 .grind
 .split
  .exact .inr ⟨_,_,_,Y,.inr ⟨_,_,Y,Y,a,.inl Y⟩⟩
  .exact .inr ⟨_,_,_,Y,.inr ⟨_,_,Y,Y,a,.inr Y⟩⟩
  .grind
  grind
theorem akv{P:cf}{m1:Machine}(hd:IE g)(h:step P (lU g w)=.next m1):∃g1 w1,m1=lU g1 w1/\IE g1:=by
 rcases hd with⟨c,b⟩|⟨d,f,c,b,i,a⟩
 .exact⟨g,w,YH b h,.inl ⟨c,b⟩⟩
 .rcases a with a|a
  .have e:stepG P true g w=writeOn P g.frame d f w:=by obtain⟨fr,cs,st,k,off⟩:=g;simp only at c;subst c;obtain⟨todo,texts,calling,pending,akw,hand,fatal⟩:=d;simp only at b i;subst b;subst i;rfl
   rcases aku (P:=P) (fr:=g.frame) (f:=f) (w:=w) i with⟨o,w1,es,j⟩|⟨g1,w1,es,j,l⟩
   .rw[(Cg a (e.trans j)).2 _ _ _ Y]at h;cases h
   .rw[(Cg a (e.trans j)).1 _ _ _ Y]at h;grind
  .exact⟨g,w,YH (.inl a) h,.inr ⟨d,f,c,b,i,.inr a⟩⟩
variable{dy:Frame}{cse:fG}{bL:aH}
theorem akx{P:cf}:∀(n:Nat)(g:uaf)(w:aH),IE g->runN P n (lU g w)≠ .next (lone dy cse bL):=by
 intro n;induction n with
 |zero=>
  intro g w hd h;simp only[runN,Stepped.next.injEq,aks]at h;have:g=a0 dy cse:=by simp_all[lU]
  subst this;rcases hd with⟨_,a⟩|⟨d,f,b,_⟩
  .rcases a with a|a<;>cases a
  .cases b
 |succ n c=>intro g w hd h;rw[runN]at h;grind[akv]
def eJ(f:uah):Frame:={fn:=f,tmps:=#[],todo:=[.code (.refuse "")],defers:=[{target:=.nil,args:=#[]}],mode:=.run,kind:=.normal,roundOf:=none}
variable{f:uah}
def YI{P:cf}:∀(n:Nat)(w:aH),(∀v,runN P n (lone ((eJ f).finish v) [] w)≠ .next (lone dy (cs++[eJ f]) bL))/\∀l,runN P n (lone ((eJ f).raise l) [] w)≠ .next (lone dy (cs++[eJ f]) bL):=by
 intro n w;have short:∀{fr:Frame}{w:aH},lone fr [] w≠lone dy (cs++[eJ f]) bL:=by simp_all[lone]
 cases n with
 |zero=>grind[runN]
 |succ n=>
  refine⟨λv h=>?_,λl h=>?_⟩
  .rw[runN]at h;have e:∃o w1,(stepG P true (a0 ((eJ f).finish v) []) w).bare=.ended o w1:=⟨_,_,Y⟩;obtain⟨o,w1,e⟩:=e;rw[step_lone_ended e]at h;cases h
  .rw[runN]at h;have e:∃o w1,(stepG P true (a0 ((eJ f).raise l) []) w).bare=.ended o w1:=⟨_,_,Y⟩;obtain⟨o,w1,e⟩:=e;rw[step_lone_ended e]at h;cases h
section
variable{C:cQ}{S:Sync}{ρ:Ren}
theorem YJ{a:Frame}{cs1:fG}(h:lone fr cs w=lone a cs1 w1):fr=a/\cs=cs1/\w=w1:=by simp_all[lone]
def aky{P:cf}{fn:Func}{n:Nat}(j:P.funcs[fr.fn]?=some fn)(hk:fr.kind=.normal)(d:FQ fr []):
 runN P (n+1) (lone fr [eJ f] w)≠ .next (lone dy (cse++[eJ f]) bL):=by
 intro h;rw[runN]at h;obtain⟨_,hd,b|⟨l,b⟩⟩:=d
 .have e:stepG P true (a0 fr [eJ f]) w=GStep.after (seen P fr.fn ((results fn fr.tmps).events P w #[])) (match(results fn fr.tmps).run P w with
   | .ok v w=>doReturn P true fr [eJ f] none v w
   | .halt (.stuck s) w=>.ended (.stuck s (fr.pos P)) w
   | .halt _ w=>.ended (.stuck "return: the result variables cannot be read" (fr.pos P)) w):=by
   grind[stepG,a0,unwind,Sem.runT_eq]
  cases a:(results fn fr.tmps).run P w with
  |ok v w1=>rw[a]at e;simp only[doReturn,hk,GStep.after]at e;rw[show step P (lone fr [eJ f] w)=.next (lU (a0 ((eJ f).finish v) []) w1)from(Cg (g:=a0 fr [eJ f]) Y e).1 _ _ _ Y]at h;exact(YI (cs:=cse) n w1).1 v h
  |halt x w1=>
   have:∃o w2 es,stepG P true (a0 fr [eJ f]) w=.ended o w2 es:=by rw[e,a];cases x<;>exact⟨_,_,_,Y⟩
   obtain⟨o,w2,es,c⟩:=this;rw[show step P (lone fr [eJ f] w)=.ended o w2 from(Cg (g:=a0 fr [eJ f]) Y c).2 _ _ _ Y]at h;cases h
 .have i:fr.catches P=false:=by grind[Frame.catches]
  have e:stepG P true (a0 fr [eJ f]) w=.go (a0 ((eJ f).raise l) []) w:=by grind[stepG,a0,unwind]
  rw[show step P (lone fr [eJ f] w)=.next (lU (a0 ((eJ f).raise l) []) w)from(Cg (g:=a0 fr [eJ f]) Y e).1 _ _ _ Y]at h;exact(YI (cs:=cse) n w).2 l h
def akz(j:C.Good){main':Bool}{base:fG}{n:Nat}(e:ej C ρ fr aP)(a:jf C ρ cs be)(d:jg fr cs)(h:et C S ρ w w')(i:(iN (stepG C.Q main' (a0 aP (be++base)) w')).drawn<=S.bound)(hrun:runN C.P n (lone fr (cs++[eJ f]) w)=.next (lone dy (cse++[eJ f]) bL)):
 (cs=cse/\fr=dy/\w=bL)\/∃k g1 w1,n=k+1/\iO C S ρ [eJ f] base w' g1 w1 (stepG C.Q main' (a0 aP (be++base)) w')/\runN C.P k (lU g1 w1)=.next (lone dy (cse++[eJ f]) bL):=by
 cases n with
 |zero=>grind[runN,YJ,List.append_cancel_right]
 |succ k=>
  obtain⟨fn,c,p,r⟩:=e.known;by_cases b:FQ fr cs
  .obtain⟨m,l⟩:=b;subst m;exact absurd hrun (aky p d.1 ⟨Y,l⟩)
  .right;have hk:=akr j (b0:=[eJ f]) e a d h b i;rw[runN]at hrun;cases hs:stepG C.P true (a0 fr (cs++[eJ f])) w with
   |go g1 w1 es=>
    rw[hs]at hk;rw[show step C.P (lone fr (cs++[eJ f]) w)=.next (lU g1 w1)from(Cg (g:=a0 fr (cs++[eJ f])) Y hs).1 _ _ _ Y]at hrun;rcases hk with⟨s,hd⟩|q
    .grind[akn]
    grind[akx]
   |ended o w1 es=>rw[show step C.P (lone fr (cs++[eJ f]) w)=.ended o w1 from(Cg (g:=a0 fr (cs++[eJ f])) Y hs).2 _ _ _ Y]at hrun;grind
   | _=>rw[hs]at hk;exact absurd hk id
end
structure aX where
 g:Goroutine
 w:aH
 mine:Nat->Prop
structure kn(K:dY)(X:aX)(w':aH):Prop where
 heap:∀b,K b\/X.mine b->w'.heap[b]?=X.w.heap[b]?
 size:X.w.heap.size<=w'.heap.size
 env:w'.os.env=X.w.os.env
def grown(mine:dY)(w' w1:aH):Nat->Prop:=λb=>mine b\/(w'.heap.size<=b/\b<w1.heap.size)
def yp(K mine:dY)(e:Event):Prop:=
 match e.loc with
 | .cell a=>(K a.block\/mine a.block)/\(e.write=true->mine a.block)/\e.sync=false
 | .obj r=>(K r\/mine r)/\(e.write=true->mine r)/\e.sync=false
 | .mark .noRoom| .mark (.extern _)| .output=>True
 | _=>False
structure RA(K mine:dY)(w':aH)(g1:uaf)(w1:aH)(es:uao):Prop where
 run:g1.status=.running
 ov:g1.dying=none
 kept:∀b,b<w'.heap.size->¬mine b->w1.heap[b]?=w'.heap[b]?
 size:w'.heap.size<=w1.heap.size
 os:w1.os=w'.os
 output:w1.output=w'.output
 tape:w1.tape=w'.tape
 drawn:w'.drawn<=w1.drawn
 evs:∀e∈es,yp K (grown mine w' w1) e
def Mv(K mine:dY)(w':aH)(s:GStep):Prop:=∃g1 w1 es,s=.go g1 w1 es/\RA K mine w' g1 w1 es
inductive iP(Q:cf)(main:Bool)(K:dY)(post:aX->Prop):aX->Prop
 |done {X:aX} (h:post X):iP Q main K post X
 |step {X:aX} (ok:∀w',kn K X w'->Mv K X.mine w' (stepG Q main X.g w'))
  (h:∀w' g1 w1 es,kn K X w'->stepG Q main X.g w'=.go g1 w1 es->iP Q main K post ⟨g1,w1,grown X.mine w' w1⟩):iP Q main K post X
inductive o7(Q:cf)(main:Bool)(K:dY)(Inv post:aX->Prop):aX->Prop
 |done {X:aX} (h:post X):o7 Q main K Inv post X
 |step {X:aX} (inv:Inv X) (ok:∀w',kn K X w'->Mv K X.mine w' (stepG Q main X.g w'))
  (h:∀w' g1 w1 es,kn K X w'->stepG Q main X.g w'=.go g1 w1 es->o7 Q main K Inv post ⟨g1,w1,grown X.mine w' w1⟩):o7 Q main K Inv post X
section
variable{Q:cf}{main:Bool}{K:dY}{Inv post:aX->Prop}
def o7.jZ{X:aX}(h:o7 Q main K Inv post X):iP Q main K post X:=by induction h with|done h=>exact .done h|step _ ok _ a=>exact .step ok a
def RB(Q:cf)(main:Bool)(K:dY)(Inv post:aX->Prop)(X:aX)(w':aH):Prop:=
 kn K X w'/\¬(Mv K X.mine w' (stepG Q main X.g w')/\∀g1 w1 es,stepG Q main X.g w'=.go g1 w1 es->o7 Q main K Inv post ⟨g1,w1,grown X.mine w' w1⟩)
theorem RD{X:aX}(h:¬o7 Q main K Inv post X):¬post X/\∃w',Inv X->RB Q main K Inv post X w':=by
 refine⟨λc=>h (.done c),vap λhn=>h ?_⟩;have key:Inv X/\∀w',kn K X w'->Mv K X.mine w' (stepG Q main X.g w')/\∀g1 w1 es,stepG Q main X.g w'=.go g1 w1 es->o7 Q main K Inv post ⟨g1,w1,grown X.mine w' w1⟩:=
  ⟨vap λb=>hn ⟨X.w,λh=>absurd h b⟩,λw' a=>vap λb=>hn ⟨w',λ_=>⟨a,b⟩⟩⟩
 exact .step key.1 (λw' a=>(key.2 w' a).1) (λw' g1 w1 es a hs=>(key.2 w' a).2 g1 w1 es hs)
def akA(Q:cf)(main:Bool)(K:dY)(Inv post:aX->Prop)(a:aX):∃(X:Nat->aX)(v:Nat->aH),X 0=a/\(∀k,¬o7 Q main K Inv post (X k)->Inv (X k)->RB Q main K Inv post (X k) (v k))/\
 ∀k g1 w1 es,stepG Q main (X k).g (v k)=.go g1 w1 es->X (k+1)=⟨g1,w1,grown (X k).mine (v k) w1⟩:=by
 have pick:∀X:aX,∃w':aH,¬o7 Q main K Inv post X->Inv X->RB Q main K Inv post X w':=by
  intro X;by_cases h:o7 Q main K Inv post X
  .simp_all
  simp_all[RD]
 obtain⟨p,b⟩:=vcn.1 pick;refine⟨λk=>Nat.rec a (λ_ X=>match stepG Q main X.g (p X)with| .go g1 w1 _=>⟨g1,w1,grown X.mine (p X) w1⟩| _=>X) k,λk=>p _,Y,λk=>b _,λk g1 w1 es h=>?_⟩;grind
end
def IF(base:fG)(X:aX):Prop:=∃fr cs,X.g=a0 fr (cs++base)
def pQ(cz:Nat)(B E:uas):Nat->Nat
 |0=>cz
 |k+1=>pQ cz B E k+(E k-B k)
def YK(cz:Nat)(B E:uas){k l:Nat}(h:k<=l):pQ cz B E k<=pQ cz B E l:=by induction h with|refl=>grind|step _ a=>exact vac a (vdj _ _)
open Classical in
def akB(cz:Nat)(B E:uas)(c:Nat->Nat->Question->Nat):∃T:Nat->Question->Nat,∀k j q,B k+j<E k->T (pQ cz B E k+j) q=c k (B k+j) q:=by
 refine⟨λi q=>if h:∃k,pQ cz B E k<=i/\i<pQ cz B E (k+1)then c (Classical.choose h) (B (Classical.choose h)+(i-pQ cz B E (Classical.choose h))) q else 0,λk j q f=>?_⟩;have b:∃k',pQ cz B E k'<=pQ cz B E k+j/\pQ cz B E k+j<pQ cz B E (k'+1):=⟨k,vdj _ _,by grind[pQ]⟩;simp only[dif_pos b];have e:=Classical.choose_spec b;generalize Classical.choose b=k' at e;have hk:k'=k:=by
  rcases Nat.lt_trichotomy k' k with a|d|a
  .have:=YK cz B E (Nat.succ_le_of_lt a);grind
  .exact d
  .have:=YK cz B E (Nat.succ_le_of_lt a);grind[pQ]
 grind
variable{FR ow:Frame}{cs0 yr:fG}{mW w0:aH}
section
variable{C:cQ}{S:Sync}{ρ:Ren}
def et.rely{K:dY}{X:aX}{bound:Nat}(h:et C S ρ w X.w)(d:kn K X w')(hd:∀a b,ρ.rel a b->K b\/X.mine b)(ht:∀j q,w'.drawn+j<bound->w.tape (w.drawn+j) q=w'.tape (w'.drawn+j) q):et C ⟨w.drawn,w'.drawn,bound,S.T⟩ ρ w w':=
 ⟨λb c e=>by
  obtain⟨o,o',i,g,f⟩:=h.obj b c e;exact⟨o,o',i,(d.heap c (hd b c e)).trans g,f⟩,
  h.one,h.inj,h.nL,Nat.add_comm _ _,ht,h.env.trans d.env.symm,h.lone,h.still⟩
structure yq(C:cQ)(K:dY)(T:Nat->Question->Nat)(j0:Ren)(n0:Nat)(base:fG)(ρ:Ren)(fr:Frame)(cs:fG)(w:aH)(X:aX):Prop where
 frames:∃aP be,X.g=a0 aP (be++base)/\ej C ρ fr aP/\jf C ρ cs be
 bottom:jg fr cs
 world:et C ⟨w.drawn,X.w.drawn,0,T⟩ ρ w X.w
 le:Ren.le j0 ρ
 mine:∀b,ρ.mine b->X.mine b
 dom:∀a b,ρ.rel a b->K b\/X.mine b
 old:∀a b,ρ.rel a b->j0.rel a b\/n0<=b
 size:n0<=X.w.heap.size
def YL(hC:C.Good){base:fG}{d:Ren}(RE:ej C d ow FR)(RF:jf C d cs0 yr)(U:jg ow cs0){K rP:dY}(W:∀T,et C ⟨w0.drawn,mW.drawn,0,T⟩ d {w0 with tape:=T} mW)(u:∀b,d.mine b->rP b)(hK:∀a b,d.rel a b->K b\/rP b){R:Frame->List Frame->aH->Prop}(hrun:∀T,∃n dy cse bL,runN C.P n (lone ow (cs0++[eJ f]) {w0 with tape:=T})=.next (lone dy (cse++[eJ f]) bL)/\R dy cse bL)(main:Bool):
 o7 C.Q main K (IF base) (λX=>∃ρ fr cs w T,R fr cs w/\yq C K T d mW.heap.size base ρ fr cs w X) ⟨a0 FR (yr++base),mW,rP⟩:=by
 generalize IG:(λX=>∃ρ fr cs w T,R fr cs w/\yq C K T d mW.heap.size base ρ fr cs w X)=post
 have aDO:∀X,(∃ρ fr cs w T,R fr cs w/\yq C K T d mW.heap.size base ρ fr cs w X)->post X:=AJ
 clear IG
 apply vap
 intro hn
 generalize RG:(⟨a0 FR (yr++base),mW,rP⟩:aX)=Mw at hn
 obtain⟨X,v,I,im,cx⟩:=akA C.Q main K (IF base) post Mw
 let B:Nat->Nat:=λk=>(v k).drawn
 let E:Nat->Nat:=λk=>(iN (stepG C.Q main (X k).g (v k))).drawn
 obtain⟨T,hT⟩:=akB w0.drawn B E λk=>(v k).tape
 obtain⟨n,dy,cse,bL,hrun,Mx⟩:=hrun T
 have main:∀(n k:Nat)(ρ:Ren)(fr:Frame)(cs:fG)(w:aH),yq C K T d mW.heap.size base ρ fr cs w (X k)->w.drawn=pQ w0.drawn B E k->¬o7 C.Q main K (IF base) post (X k)->
  runN C.P n (lone fr (cs++[eJ f]) w)=.next (lone dy (cse++[eJ f]) bL)->False:=by
  intro n;induction n with
  |zero=>grind[runN,YJ,List.append_cancel_right,RD]
  |succ n V=>
   intro k ρ fr cs w ht hd L Z;obtain⟨p,i⟩:=im k L (by obtain⟨aP,be,hg,_⟩:=ht.frames;exact⟨aP,be,hg⟩);have o:=cx k;have O:=hT k;have N:B k=(v k).drawn:=rfl;have m:E k=(iN (stepG C.Q main (X k).g (v k))).drawn:=rfl;generalize hv:v k=g at p i o O N m;generalize aDP:X k=Y at ht L p i o m;obtain⟨aP,be,hg,bO,x⟩:=ht.frames;have fT:et C ⟨w.drawn,g.drawn,E k,T⟩ ρ w g:=ht.world.rely p ht.dom λj q M=>by have:=O j q AJ;rw[N,<-hd]at this;rw[ht.world.lone];grind
   rw[hg]at m i o;rcases akz hC bO x ht.bottom fT (vdv m.symm) Z with⟨h1,h2,h3⟩|⟨n',g1,w1,P,hst,FT⟩
   .grind[RD]
   .cases P;obtain⟨σ,S,cs1,t,J,l,es',RH,hs,H,F,fz,e,c,ot⟩:=hst;subst RH;rw[hs]at m i o;have D:=o _ _ _ rfl;have hsz:∀b,σ.mine b->grown Y.mine g l b:=λb r=>by
     rcases c.back b r with h|h
     .exact .inl (ht.mine b h)
     .rcases c.low b r with y|y
      .exact .inl (ht.mine b y)
      .exact .inr ⟨h,y⟩
    have A:∀a b,σ.rel a b->K b\/grown Y.mine g l b:=λa b s=>by
     rcases c.old a b s with h|h
     .exact(ht.dom a b h).imp id .inl
     .obtain⟨_,o',_,h2,_⟩:=e.obj a b s;exact .inr (.inr ⟨h,by
       grind⟩)
    have z:RA K Y.mine g (a0 t (J++base)) l es':=by refine⟨rfl,rfl,λb r u=>c.kept b r λh=>u (ht.mine b h),c.size,c.os,c.output,c.tape,c.drawn,λev aDQ=>?_⟩;grind[w7,yp]
    have aDR:¬o7 C.Q main K (IF base) post ⟨a0 t (J++base),l,grown Y.mine g l⟩:=λhc=>i ⟨⟨_,_,_,rfl,z⟩,λg2 w2 tP e2=>AJ⟩;have Q:w1.drawn=pQ w0.drawn B E (k+1):=by have xb:=e.sync;have aDS:=c.drawn;grind[pQ,iN]
    refine V (k+1) σ S cs1 w1 ?_ Q AJ FT;rw[D];refine⟨⟨t,J,rfl,H,F⟩,fz,?_,Ren.le_trans ht.le c.le,hsz,A,λa b s=>?_,vac ht.size (vac p.size c.size)⟩
    .exact⟨e.obj,e.one,e.inj,e.nL,Nat.add_comm _ _,λj q M=>absurd M (Nat.not_lt_zero _),e.env,e.lone,e.still⟩
    .rcases c.old a b s with h|h
     .exact ht.old a b h
     .exact .inr (vac ht.size (vac p.size h))
 refine main n 0 d ow cs0 {w0 with tape:=T} ?_ rfl ?_ hrun
 .rw[I];subst RG;exact⟨⟨_,yr,rfl,RE,RF⟩,U,W T,Ren.le_refl _,u,hK,λa b h=>.inl h,vad _⟩
 grind
def YO(h:C.Good){base:fG}{c:Ren}(j:ej C c ow FR)(i:jf C c cs0 yr)(d:jg ow cs0){K rP:dY}(e:∀T,et C ⟨w0.drawn,mW.drawn,0,T⟩ c {w0 with tape:=T} mW)(g:∀b,c.mine b->rP b)(hK:∀a b,c.rel a b->K b\/rP b){R:Frame->List Frame->aH->Prop}(hrun:∀T,∃n dy cse bL,runN C.P n (lone ow (cs0++[eJ f]) {w0 with tape:=T})=.next (lone dy (cse++[eJ f]) bL)/\R dy cse bL)(main:Bool):
 iP C.Q main K (λX=>∃ρ fr cs w T,R fr cs w/\yq C K T c mW.heap.size base ρ fr cs w X) ⟨a0 FR (yr++base),mW,rP⟩:=(YL (f:=f) h j i d e g hK hrun main).jZ
theorem iP.mono{Q:cf}{main:Bool}{K:dY}{post a:aX->Prop}{X:aX}(h:iP Q main K post X)(c:∀Y,post Y->a Y):iP Q main K a X:=by induction h with|done h=>exact .done (c _ h)|step ok _ b=>exact .step ok b
def akI(h:C.Good){fn:Func}{c:Code}(k:C.P.funcs[f]?=some fn)(o:fn.body=some c){args g:fi}{d:Ren}(r:aM d args g){K rP:dY}(j:∀T,et C ⟨w0.drawn,mW.drawn,0,T⟩ d {w0 with tape:=T} mW)(m:∀b,d.mine b->rP b)(hK:∀a b,d.rel a b->K b\/rP b){R:Ending->aH->Prop}(x:∀e w,R e w->e≠ .outgrown)(q:∀T,Calls C.P f args {w0 with tape:=T} R)(main:Bool)(base:fG):
 iP C.Q main K (λX=>∃ρ fr w T e,R e w/\fr.fn=f/\fr.leaving C.P w e/\yq C K T d mW.heap.size base ρ fr [] w X) ⟨a0 (Frame.enter C.Q f g .normal) base,mW,rP⟩:=by
 have p:jg (Frame.enter C.P f args .normal) []:=by unfold Frame.enter;exact⟨Y,Y⟩
 refine(YO (f:=f) (base:=base) (R:=λfr cs w=>cs=[]/\∃e,R e w/\fr.fn=f/\fr.leaving C.P w e) h (.enter h.funcs r k o LF) .nil p j m hK (λT=>?_) main).mono ?_
 .obtain⟨e,bL,dy,y,i,u,s⟩:=q T [eJ f];have t:Steps C.P (lone (Frame.enter C.P f args .normal) [eJ f] {w0 with tape:=T}) (lone dy [eJ f] bL):=by cases e with|outgrown=>grind|returned v=>exact i|panicked l=>exact i
  obtain⟨n,hn⟩:=t;grind
 grind
end
variable{ao:Type}
def Mz:∀(l:List (String×ao)),l.all (λp=> !("" ==p.1))=true->l.lookup "" =none:=by grind
theorem akL:Extern.allNextRows.lookup "" =none:=Mz _ AM
theorem akM:Extern.allRows.lookup "" =none:=Mz _ AM
theorem akN:Extern.allTypedRows.lookup "" =none:=Mz _ AM
theorem akO:Extern.allGenericRows.lookup "" =none:=Mz _ AM
def gz(P:cf)(upd:Bool)(fn:Func):Bool:=fn.body.any (jY P upd)&&fn.name != "runtime.NumGoroutine"
def IK(P:cf)(upd:Bool)(fn:Func):Func:=if gz P upd fn then fn else{fn with name:= "",origin:= "",body:=none}
def ae(P:cf)(upd:Bool):cf:={P with funcs:=P.funcs.map (IK P upd)}
def cr(P:cf)(upd:Bool):cQ:={P:=ae P upd,Q:=P,me:=λc=>jY (ae P upd) upd c=true,upd:=upd}
theorem YQ(P:cf)(u:Bool)(t:uab):(ae P u).underlying t=P.underlying t:=rfl
def akP(P:cf)(u:Bool):∀(n:Nat)(t:uab),yi (ae P u) n t=yi P n t:=by intro n;induction n with|zero=>intro t;rfl|succ n a=>grind[yi,YQ]
theorem RI(P:cf)(u:Bool)(x:uau):iM (ae P u) x=iM P x:=by cases x<;>rfl
theorem RJ(P:cf)(u:Bool):iM (ae P u)=iM P:=funext (RI P u)
def akQ(P:cf)(u:Bool)(op:BinOp)(t:uab):Ca (ae P u) op t=Ca P op t:=by simp_all[Ca,akP,YQ]
theorem akR(P:cf)(u:Bool)(t:uab):Ax (ae P u) t=Ax P t:=rfl
def akS(P:cf)(u:Bool)(c:Call):FK (ae P u) c=FK P c:=by grind[FK,RJ]
def akT(P:cf)(u:Bool)(c:Call):Iy (ae P u) c=Iy P c:=by grind[Iy,RJ]
def YR(P:cf)(upd u:Bool)(o:Op):pP (ae P u) upd o=pP P upd o:=by simp_all[pP,RJ,akQ,akR,akS,akT]
def YS(P:cf)(upd u:Bool)(c:Code):jY (ae P u) upd c=jY P upd c:=by induction c with|region id ops d=>simp only[jY,YR]|seq a b h g=>grind[jY]|cond c a b h g=>grind[jY,RI]|block id b e=>grind[jY]|loop b e=>grind[jY]|scope b e=>grind[jY]|rangeFunc f p a b h g=>grind[jY,RI]| _=>rfl
def YT{P:cf}{upd:Bool}{fn:Func}(h:(ae P upd).funcs[f]?=some fn):∃a,P.funcs[f]?=some a/\fn=IK P upd a:=by simp only[ae,vch]at h;grind
def a5{P:cf}{upd:Bool}{fn:Func}(h:P.funcs[f]?=some fn)(hk:gz P upd fn=true):(ae P upd).funcs[f]?=some fn:=by simp_all[ae,IK]
def akU(P:cf)(upd:Bool):(cr P upd).Cb:=by
 refine⟨λf fn c h b=>?_,λf fn h b ρ a a' m=>?_⟩
 .obtain⟨d,h0,rfl⟩:=YT h;unfold IK at b⊢;by_cases hk:gz P upd d=true
  .rw[vbz hk]at b⊢;simp only[gz,vah,bne_iff_ne,b,Option.any_some]at hk;exact⟨h0,(YS P upd upd c).trans hk.1,hk.2⟩
  grind
 .obtain⟨d,h0,e⟩:=YT h;have i:fn.name= "" /\fn.origin= "" :=by
   unfold IK at e;by_cases hk:gz P upd d=true
   .simp_all[gz]
   grind
  intro S w w' l hg _;exfalso;have k:Extern.findNext fn=none:=by grind[Extern.findNext,akL]
  have j:Extern.find fn=none:=by grind[Extern.find,akM,akN,akO]
  have:∃u w1,(callFunc f a).run (ae P upd) w=.halt (.unsupported (.extern u)) w1:=by unfold callFunc;refine⟨ "",w,?_⟩;have g:(ae P upd).funcs[f]?=some fn:=h;simp only[nd,Go.program,Sem.run,g,i.1,b,k,j];rfl
  obtain⟨u,w1,n⟩:=this;simp_all[Good,callFunc,ae]
def AD(i:TypeInfo):Prop:=∀v,i.zero=some v->jc v
def FV{d:TypeDesc}{s:String}{z:Value}{c:Bool}{n:Nat}(h:jc z):AD (Made.word d s z c n):=by intro v hv;grind[Made.word]
theorem kF.append{a b:fi}(d:kF a)(c:kF b):kF (a++b):=by
 intro i v h;rw[Array.getElem?_append]at h;split at h
 .exact d _ _ h
 .exact c _ _ h
def kF.akV{z:fi}(b:kF z)(n:Nat):kF (Array.replicate n z).flatten:=by induction n with|zero=>intro i v h;grind|succ n a=>rw[vbq];simp only[Array.flatten_push];exact a.append b
variable{aO:Type}
def akW(I:aO->Prop)(f:ao->aO->Option (ForInStep aO))(hstep:∀a b r,I b->f a b=some r->∃c,r=.yield c/\I c):
 ∀(l:List ao)(b r:aO),I b->forIn l b f=some r->I r:=by
 intro l;induction l with|nil=>grind|cons a l d=>intro b r g h;simp only[List.forIn_cons]at h;cases e:f a b with|none=>grind|some s=>grind
variable{info:TypeId->Option TypeInfo}
def akX(hi:∀t i,info t=some i->AD i){fs:Array Field}{i:TypeInfo}(h:Made.reckonStruct info fs=some i):AD i:=by
 unfold Made.reckonStruct at h;simp only[bind,vbc]at h;obtain⟨s,hs,h⟩:=h;have n:∀z,s.2.2.2.2.2.2.2.1=some z->kF z:=by
  rw[<-Array.forIn_toList]at hs;refine akW (λs:Array Field×Nat×Nat×Nat×Nat×Bool×Bool×Option (Array Value)×String=>∀z,s.2.2.2.2.2.2.2.1=some z->kF z) _ ?_ _ _ _ ?_ hs
  .intro f b r l d;simp only[vbc]at d;obtain⟨j,k,d⟩:=d;have key:∀(c:Prop)[Decidable c](z:fi),(if c then none else b.2.2.2.2.2.2.2.1.bind λa=>j.zero.bind λv=>pure (a++v.cells))=some z->kF z:=by
    intro c _ z e;split at e
    .cases e
    .simp only[vbc,pure,vbf]at e;obtain⟨a,m,v,hv,rfl⟩:=e;exact(l a m).append (hi _ _ k v hv).cells
   have leaf:∀{x:Array Field×Nat×Nat×Nat×Nat×Bool×Bool×Option (Array Value)×String},(pure (ForInStep.yield x):Option (ForInStep _))=some r->(∀z,x.2.2.2.2.2.2.2.1=some z->kF z)->∃g,r=.yield g/\∀z,g.2.2.2.2.2.2.2.1=some z->kF z:=
    λp o=>⟨_,(van p).symm,o⟩
   split at d
   .cases d
   split at d
   .cases d
   split at d
   all_goals
    simp only[vbc]at d;obtain⟨_,_,d⟩:=d;split at d
    .exact leaf d λz e=>key _ z e
    .exact leaf d λz e=>key _ z e
  .intro z e;cases e;intro i v h;grind
 have e6:∀v,Option.map Value.agg s.2.2.2.2.2.2.2.1=some v->jc v:=by intro v hv;rw[vak]at hv;obtain⟨z,e,rfl⟩:=hv;exact .agg (n z e)
 split at h
 .cases h;exact e6
 .cases h;exact e6
def akY(hi:∀t i,info t=some i->AD i){d:TypeDesc}{i:TypeInfo}(h:Made.reckon info d=some i):AD i:=by
 cases d with
 |pointer e=>
  simp only[Made.reckon,bind,vbc]at h;obtain⟨j,_,h⟩:=h;split at h
  .cases h
  .split at h
   .cases h
   .simp only[vbc,pure,vbf]at h;obtain⟨_,_,rfl⟩:=h;exact FV .lN
  .simp only[vbc,pure,vbf]at h;obtain⟨_,_,rfl⟩:=h;exact FV .lN
 |slice e=>simp only[Made.reckon,bind,vbc,pure,vbf]at h;obtain⟨_,_,_,_,rfl⟩:=h;exact FV (.jV _ _)
 |map k e=>simp only[Made.reckon,bind,vbc,pure,vbf]at h;obtain⟨_,_,_,_,_,_,_,_,rfl⟩:=h;exact FV .qJ
 |chan dir e=>simp only[Made.reckon,bind,vbc,pure,vbf]at h;obtain⟨_,_,_,_,rfl⟩:=h;exact FV .pL
 |func ps rs v=>simp only[Made.reckon,bind,vbc,pure,vbf]at h;obtain⟨_,_,rfl⟩:=h;exact FV .nilFunc
 |array n e=>
  simp only[Made.reckon,bind,vbc,pure,vbf]at h;obtain⟨j,b,_,_,rfl⟩:=h;intro v hv;simp only at hv;split at hv
  .cases hv
  .split at hv
   .cases hv;exact .agg λi v h=>AJ
   .simp only[vak]at hv;obtain⟨z,a,rfl⟩:=hv;exact .agg ((hi e j b z a).cells.akV n)
 |struct fs=>exact akX hi h
 | _=>cases h
def akZ{T:Tables}(h:∀i∈T.types,AD i):∀(n:Nat)(t:uab)(i:TypeInfo),Made.infoAt T n t=some i->AD i:=by
 intro n;induction n with
 |zero=>intro t i hi;cases hi
 |succ n a=>
  intro t i hi;simp only[Made.infoAt]at hi;split at hi
  .exact h i (vbd hi)
  .simp only[vbc]at hi;obtain⟨d,_,hd⟩:=hi;exact akY a hd
def ak0{P:cf}{upd:Bool}(h:(P.types.all λi=>i.zero.all (iz 8))=true):(cr P upd).u_:=by
 have ht:∀i∈P.types,AD i:=by intro i hi v hv;grind[Array.all_eq_true_iff_forall_mem,Yp]
 intro t i v hi hv;have hi:P.info? t=some i:=hi;unfold Tables.info? at hi;split at hi
 .exact ht i (vbd hi) v hv
 .exact akZ ht _ t i hi v hv
def YU{P:cf}(upd:Bool)(h:(P.types.all λi=>i.zero.all (iz 8))=true)(a:P.follows .rangeFuncRecover=true):(cr P upd).Good:=
 ⟨Y,ak0 h,akU P upd,λ_=>Iff.rfl,a⟩
def dz(D M:dY):Ren:=⟨λa b=>a=b/\D b,M⟩
def ak1{a:Array ao}{b:Array aO}(h:a.size=b.size){i:Nat}{y:aO}(c:b[i]?=some y):∃x,a[i]?=some x:=by
 have hi:i<b.size:=by grind
 simp_all
section
variable{ρ σ:Ren}
def dE.right(h:∀a b,ρ.rel a b->σ.rel b b){a a':Addr}(k:dE ρ a a'):dE σ a' a':=⟨h _ _ k.1,Y,Y⟩
def tM.right(h:∀a b,ρ.rel a b->σ.rel b b){f f':Fn}(k:tM ρ f f'):tM σ f' f':=by cases k with|func f=>exact .func f|yield c=>exact .yield (h _ _ c)
theorem ax.right(h:∀a b,ρ.rel a b->σ.rel b b){v d:Value}(k:ax ρ v d):ax σ d d:=by
 have all:∀{a a':fi},a.size=a'.size->(∀(i:Nat)(v d:Value),a[i]?=some v->a'[i]?=some d->ax σ d d)->∀(i:Nat)(x y:Value),a'[i]?=some x->a'[i]?=some y->ax σ x y:=by grind
 induction k with|bool b=>exact .bool b|int k n=>exact .int k n|string s=>exact .string s|lN=>exact .lN|ptr r=>exact .ptr (r.right h)|jV l c=>exact .jV l c|slice l c r=>exact .slice l c (r.right h)|qJ=>exact .qJ|map r=>exact .map (h _ _ r)|pL=>exact .pL|func j o m _ _ g f=>exact .func (j.right h) Y Y (all o g) (all m f)|nilFunc=>exact .nilFunc|iface t _ e=>exact .iface t e|nilIface=>exact .nilIface|agg hs _ e=>exact .agg Y (all hs e)|tuple hs _ e=>exact .tuple Y (all hs e)
theorem aM.right(h:∀a b,ρ.rel a b->σ.rel b b){a a':fi}(k:aM ρ a a'):aM σ a' a':=by refine⟨Y,λi x y c d=>?_⟩;rw[c]at d;cases d;obtain⟨z,e⟩:=ak1 k.size c;exact(k.get i z x e c).right h
def dx.right{R:ao->aO->Prop}{R':aO->aO->Prop}(h:∀a b,R a b->R' b b){l:List ao}{m:List aO}(k:dx R l m):dx R' m m:=by induction k with|nil=>exact .nil|cons x _ c=>exact .cons (h _ _ x) c
theorem h7.right{C:cQ}(h:∀a b,ρ.rel a b->σ.rel b b){o o':Obj}(k:h7 C ρ o o'):h7 C σ o' o'\/Me o':=by cases k with|cells e f g=>exact .inl (.cells e (f.right h) ⟨λ_ x=>x,λ_=>Y⟩)|map c d=>exact .inl (.map c (d.right λa b x=>⟨x.key.right h,x.val.right h,Y⟩))|stringIter s p=>exact .inr trivial|B4 a b c=>exact .inr trivial|mapIter h a b c=>exact .inr trivial|loop h=>exact .inr trivial|deferred h=>exact .inr trivial|taken=>exact .inr trivial|number hn l=>exact .inl (.number (hn.right h) l)|shut h=>grind
end
def fA(C:cQ)(D M:dY)(w:aH):Prop:=∀b,D b->∃o,w.heap[b]?=some o/\(h7 C (dz D M) o o\/Me o)
def et.closed{C:cQ}{S:Sync}{ρ:Ren}(h:et C S ρ w w')(M:dY):fA C (λb=>∃a,ρ.rel a b) M w':=by rintro b ⟨a,e⟩;obtain⟨o,o',_,d,c⟩:=h.obj a b e;exact⟨o',d,c.right (σ:=dz (λb=>∃a,ρ.rel a b) M) λx y f=>⟨Y,x,f⟩⟩
def FW(C:cQ)(D M:dY)(b:Nat)(o gl:Obj):Prop:=
 (h7 C (dz D M) o o/\M b/\gl=o)\/
 (h7 C (dz D M) o o/\¬M b/\((∃c e fr,o=.cells c e fr/\gl=.cells c e (0,c.size+fr.2))\/(∃a l,o=.number a l/\gl=o)\/(∃es k,o=.map es k/\C.upd=false/\gl=o)\/
  ((∀c e fr,o≠ .cells c e fr)/\(∀a l,o≠ .number a l)/\(C.upd=true\/∀es k,o≠ .map es k)/\gl=.coro none)))\/
 (¬h7 C (dz D M) o o/\gl=.coro none)
def ak2(C:cQ)(D M:dY)(b:Nat)(o:Obj):∃h,FW C D M b o h:=by
 by_cases d:h7 C (dz D M) o o
 .by_cases f:M b
  .exact⟨o,.inl ⟨d,f,Y⟩⟩
  .cases o with
   |cells c e fr=>exact⟨_,.inr (.inl ⟨d,f,.inl ⟨c,e,fr,Y,Y⟩⟩)⟩
   |number a l=>exact⟨_,.inr (.inl ⟨d,f,.inr (.inl ⟨a,l,Y,Y⟩)⟩)⟩
   |map es k=>cases g:C.upd with|true=>exact⟨.coro none,.inr (.inl ⟨d,f,.inr (.inr (.inr ⟨AQ,AQ,.inl g,Y⟩))⟩)⟩|false=>exact⟨_,.inr (.inl ⟨d,f,.inr (.inr (.inl ⟨es,k,Y,g,Y⟩))⟩)⟩
   | _=>exact⟨.coro none,.inr (.inl ⟨d,f,.inr (.inr (.inr ⟨AQ,AQ,.inr AQ,Y⟩))⟩)⟩
 .exact⟨_,.inr (.inr ⟨d,Y⟩)⟩
def FW.rel{C:cQ}{D M:dY}{b:Nat}{o f:Obj}(k:FW C D M b o f)(g:C.upd=true->M b\/¬h7 C (dz D M) o o)(h:h7 C (dz D M) o o\/Me o):h7 C (dz D M) f o:=by
 rcases k with⟨d,_,rfl⟩|⟨d,n,⟨c,e,fr,rfl,rfl⟩|⟨a,l,rfl,rfl⟩|⟨es,k,rfl,_,rfl⟩|⟨p,q,_,rfl⟩⟩|⟨d,rfl⟩
 .exact d
 .have m:=d;cases d with|cells _ j r=>exact .cells e j ⟨λi x=>⟨vba _,vav x.2 (Nat.le_add_left _ _)⟩,λx=>(g x).elim (λy=>absurd y n) (λy=>absurd m y)⟩
 .exact d
 .exact d
 .refine .shut ?_;cases d with|cells e _ _=>grind|number _ _=>grind|shut h=>exact h| _=>trivial
 .exact .shut (h.resolve_left d)
def FW.still{C:cQ}{D M:dY}{b:Nat}{o d:Obj}(k:FW C D M b o d)(f:C.upd=true->M b\/¬h7 C (dz D M) o o)(j:¬M b):(C.upd=false/\∃c e fr,d=.cells c e fr/\∀i,i<c.size->yf fr i)\/(C.upd=false/\∃es k,d=.map es k)\/FC d:=by
 rcases k with⟨_,h,_⟩|⟨g,_,⟨c,e,fr,rfl,rfl⟩|⟨a,l,rfl,rfl⟩|⟨es,k,rfl,f,rfl⟩|⟨_,_,_,rfl⟩⟩|⟨_,rfl⟩
 .grind
 .exact .inl ⟨by
   grind,c,e,_,Y,λi hi=>⟨vba _,vav hi (vdj _ _)⟩⟩
 .exact .inr (.inr (.number a l))
 .grind
 .exact .inr (.inr .coro)
 .exact .inr (.inr .coro)
structure gm(C:cQ)(D M:dY)(w w0:aH):Prop where
 size:w0.heap.size=w.heap.size
 drawn:w0.drawn=w.drawn
 os:w0.os=w.os
 obj:∀b o,w.heap[b]?=some o->∃gl,w0.heap[b]?=some gl/\FW C D M b o gl
def IL(C:cQ)(D M:dY)(w:aH):∃w0,gm C D M w w0:=by obtain⟨f,a⟩:=vcn.1 λb=>vcn.1 λo=>ak2 C D M b o;refine⟨{w with heap:=w.heap.mapIdx f},AQ,Y,Y,λb o h=>⟨f b o,?_,a b o⟩⟩;grind
theorem gm.rel{C:cQ}{D M:dY}(h:gm C D M w w0)(p:fA C D M w)(hg:∀g,g<=C.P.globals.size->D g)(m:C.upd=true->∀b,D b->M b\/∀o,w.heap[b]?=some o->¬h7 C (dz D M) o o)(T:Nat->Question->Nat):
 et C ⟨w0.drawn,w.drawn,0,T⟩ (dz D M) {w0 with tape:=T} w:=by
 refine⟨?_,?_,?_,λg h=>⟨Y,hg g h⟩,Nat.add_comm _ _,λj q u=>absurd u (Nat.not_lt_zero _),by show w0.os.env=_;rw[h.os],Y,?_⟩
 .rintro b r ⟨rfl,hd⟩;obtain⟨o,d,n⟩:=p b hd;obtain⟨l,f,i⟩:=h.obj b o d;exact⟨l,o,f,d,i.rel (λe=>(m e b hd).imp id λy=>y o d) n⟩
 .rintro a b r ⟨rfl,_⟩ ⟨rfl,_⟩;rfl
 .rintro a a' b ⟨rfl,_⟩ ⟨h,_⟩;grind
 .rintro b r ⟨rfl,hd⟩ t;obtain⟨o,d,n⟩:=p b hd;obtain⟨l,f,i⟩:=h.obj b o d;have f:({w0 with tape:=T}:aH).heap[b]?=some l:=f;rw[f];rcases i.still (λe=>(m e b hd).imp id λy=>y o d) t with⟨s,c,e,fr,rfl,v⟩|⟨s,es,k,rfl⟩|hd
  .grind
  .grind
  grind
theorem gm.cells{C:cQ}{D M:dY}{w w0:aH}(h:gm C D M w w0)(r:fA C D M w){b:Nat}(hd:D b){c:fi}{e:uab}{fr:ubv}(f:w.heap[b]?=some (.cells c e fr)):
 ∃ow,w0.heap[b]?=some (.cells c e ow)/\(M b->ow=fr):=by
 obtain⟨o,i,q⟩:=r b hd;rw[f]at i;cases i;have m:h7 C (dz D M) (.cells c e fr) (.cells c e fr):=q.resolve_right λx=>x;obtain⟨s,g,p⟩:=h.obj b _ f;rcases p with⟨_,_,rfl⟩|⟨_,n,⟨u,t,aP,d,rfl⟩|⟨a,l,d,_⟩|⟨es,k,d,_,_⟩|⟨j,_,_,_⟩⟩|⟨hn,_⟩
 .exact⟨fr,g,λ_=>Y⟩
 .cases d;exact⟨_,g,λx=>absurd x n⟩
 .cases d
 .cases d
 .exact absurd Y (j _ _ _)
 .exact absurd m hn
def YV{P:cf}{upd:Bool}(o:(cr P upd).Good){fn:Func}{c:Code}(l:P.funcs[f]?=some fn)(hk:gz P upd fn=true)(m:fn.body=some c){D M:dY}(r:fA (cr P upd) D M w)(hg:∀g,g<=P.globals.size->D g){args:fi}(k:upd=true->∀b,D b->M b)(n:aM (dz D M) args args){R:Ending->aH->Prop}(q:∀e w,R e w->e≠ .outgrown)(i:gm (cr P upd) D M w w0)(p:∀T,Calls (ae P upd) f args {w0 with tape:=T} R)(main:Bool)(base:fG):
 iP P main (λb=>D b/\¬M b) (λX=>∃ρ fr w1 T e,R e w1/\fr.fn=f/\fr.leaving (ae P upd) w1 e/\yq (cr P upd) (λb=>D b/\¬M b) T (dz D M) w.heap.size base ρ fr [] w1 X)
  ⟨a0 (Frame.enter P f args .normal) base,w,M⟩:=by
 have j:(cr P upd).P.funcs[f]?=some fn:=a5 l hk;exact akI (C:=cr P upd) (w0:=w0) (mW:=w) o j m n (i.rel r hg λe b hd=>.inl (k e b hd)) (λb h=>h)
  (λa b h=>by by_cases d:M b;exact .inr d;exact .inl ⟨h.2,d⟩) q p main base
theorem yq.closed{C:cQ}{K:dY}{T:Nat->Question->Nat}{c ρ:Ren}{n0:Nat}{base:fG}{X:aX}(h:yq C K T c n0 base ρ fr cs w X)(M:dY):
 fA C (λb=>∃a,ρ.rel a b) M X.w:=h.world.closed M
end au
open RowKit
def ML{P:cf}{t e:uab}{z:Value}{size bytes:Nat}(E:tV P t e z size bytes)(w:aH){ops:fC}{rest:ubi}{o:Oper}{a:Act}{Q:ual}(hg:o.guard=none)(l c:uau)(d:o.op=Op.makeSlice t l c)(f kc:IntKind)(n:Nat)(m:a.eval l=.int f n)(p:a.eval c=.int kc n)(s:bytes*n<=281474976710656)(hn:n<=9223372036854775807)(hK:∀w' bq,ag w' w.heap.size bq e->bq.size=n*size->cy w w'->wpList P ops Q rest (a.put o.dst (.S w.heap.size 0 n n)) w'):
 wpList P ops Q (o::rest) a w:=by
 obtain⟨i,hi,j,hsz,r⟩:=vcv E.hi;refine wpList_make_full w hg l c t d w.heap.size e i z size E.ht hi j hsz f kc _ _ n m p Y Y AJ H0 Kj ?_;intro w' q b;rcases q.2 with⟨h0,_⟩|⟨g,cap,bq,hv,_,h,_,_,hs,_⟩
 .grind
 .simp at hv;obtain⟨rfl,rfl⟩:=hv;exact hK w' bq h hs ⟨b.os,b.tape,b.output,b.size,λk hk=>b.block k hk AQ⟩
variable{w:aH}{v:Value}
theorem aZ.shape{ao:Type}{b:Nat}{R:aH->(Nat->Option Value)->ao->Prop}{xs:List ao}(h:aZ w b R v xs):∃a cap,v=.slice a xs.length cap/\xs.length<=9223372036854775807:=by obtain⟨a,cap,hv,c,-⟩:=h;grind
def eU(T:uab)(w:aH)(v:Value):Prop:=∀b off n c,v=.S b off n c->∃k,w.shape? b=some (T,k)
variable{T:uab}
def eU.box{b:Nat}{cs:fi}(h:ag w b cs T)(off n c:Nat):eU T w (.S b off n c):=by intro f g a d e;simp at e;simp_all[ag,World.shape?]
def eU.AG{base size n:Nat}{xs:uaj}(h:w.ownsRow base T size v n xs):eU T w v:=by
 rcases h.2 with⟨rfl,_⟩|⟨g,cap,bq,rfl,_,hg,_⟩
 .intro b off n c e;grind
 simp_all[eU.box,ag]
variable{w':aH}
def eU.call(h:eU T w v)(d:cy w w'):eU T w' v:=by
 intro b off n c e;obtain⟨k,hk⟩:=h b off n c e;refine⟨k,?_⟩;have a:b<w.heap.size:=by grind[World.shape?]
 simp[World.shape?]at hk⊢;rw[d.block b a];exact hk
def eU.set(h:eU T w v)(a:Addr)(u:Value):eU T (w.setCell a u) v:=by intro b off n c e;obtain⟨k,hk⟩:=h b off n c e;refine⟨k,?_⟩;simp[World.shape?,World.setCell,vaz]at hk⊢;grind
theorem eU.grown(h:eU T w v){row:ubc}(hg:w.grownBy w' row)(d:∀b off n c,v=.S b off n c->row≠some b):eU T w' v:=by
 intro b off n c e;obtain⟨k,hk⟩:=h b off n c e;refine⟨k,?_⟩;have a:b<w.heap.size:=by grind[World.shape?]
 simp[World.shape?]at hk⊢;rw[hg.block b a AJ];exact hk
def F3(cs:fi)(l:fK)(k:Nat):Prop:=∀j(h:j<l.length),j<k->cs[j*2]?=some (.I l[j].1)/\cs[j*2+1]?=some (.I l[j].2)
theorem F3.step{cs:fi}{l:fK}{k:Nat}(h:F3 cs l k)(hk:k<l.length)(hs:cs.size=l.length*2):
 F3 ((cs.setIfInBounds (k*2) (.I l[k].1)).setIfInBounds (k*2+1) (.I l[k].2)) l (k+1):=by
 intro j a b;by_cases e:j=k
 .grind
 .have:=h j a AP;grind
def eF.MN{b:Nat}{cs:fi}{l:fK}(h:ag w b cs T)(c:l.length<=9223372036854775807)(a:F3 cs l l.length)(cap:Nat):eF w (.S b 0 l.length cap) l:=by
 refine⟨_,cap,Y,c,λi hi=>⟨b,0,Y,?_,?_⟩⟩
 .simp;rw[h.rules.1];exact(a i hi hi).1
 .simp;rw[h.rules.1];exact(a i hi hi).2
namespace bU
open RowKit
structure jh(W W':aH):Prop where
 size:W.heap.size<=W'.heap.size
 cells:∀(b:Nat)(c:fi)(e:uab)(z:ubv),W.heap[b]?=some (Obj.cells c e z)->W'.heap[b]?=some (Obj.cells c e z)
variable{w:aH}
def ml{b:Nat}{o:Obj}(h:w.heap[b]?=some o):b<w.heap.size:=(vaj.1 h).1
variable{W:aH}
def jh.below{a:aH}(h:cy W a):jh W a:=⟨h.size,λb _ _ _ e=>(h.block b (ml e)).trans e⟩
theorem jh.trans{A B C:aH}(h:jh A B)(k:jh B C):jh A C:=⟨vac h.size k.size,λb c e z x=>k.cells b c e z (h.cells b c e z x)⟩
theorem jh.put{l:Nat}{r a:Loop}(h:W.heap[l]?=some (.loop r)):jh W (W.putObj l (.loop a)):=
 ⟨AQ,λb c e z x=>by
  grind[World.putObj_heap_other]⟩
def t8{nQ:Nat}{l:Nat}(o:Obj)(h:nQ<=l):Below nQ W (W.putObj l o):=
 ⟨Y,Y,Y,AQ,λk hk=>vay AP⟩
def Ga(n:Nat)(P:cf)(g:Nat)(lb:fi)(Row:uat)(N nQ:Nat)(w0:aH):Prop:=
 ∀(l:Nat)(S:dY)(J:ubh)(W:aH),Below nQ w0 W->(∀t W,J t W->∀b,S b->b<W.heap.size)->(∀t W W',J t W->jh W W'->(∀b,S b->W'.heap[b]?=W.heap[b]?)->J t W')->
  (∀t x W1,J t W1->t<N->Row t W1 x->YieldAt Fence.wide (n-1) P l #[x] W1 λe W'=>e=.returned (.T)/\J (t+1) W'/\Below nQ W1 W')->
  J 0 W->CallsIn Fence.wide n P g (#[.func (.yield l) #[] #[]]++lb) W λe W'=>(∃v,e=.returned v)/\J N W'/\Below nQ W W'
def MZ{S:dY}{J:ubh}(c:∀t W,J t W->∀b,S b->b<W.heap.size)(e:∀t W a,J t W->jh W a->(∀b,S b->a.heap[b]?=W.heap[b]?)->J t a):∀t W a,J t W->cy W a->J t a:=
 λt W a h d=>e t W a h (.below d) λb hs=>d.block b (c t W h b hs)
def ZM{n:Nat}{P:cf}{g:uau}{p:Tmp}{assign body:Code}{Q:ual}{a:Act}{gf:Nat}{lb:fi}{Row:uat}{N nQ:Nat}{w0:aH}(hg:a.eval g=.func (.func gf) #[] lb)(vd:∀args w,(callFunc gf args).run P w=.ok (.enter gf args) w)(H:Ga (n-1) P gf lb Row N nQ w0)(M:Below nQ w0 w)(hn:nQ<=w.heap.size)(S:dY)(hS:∀b,S b->b<w.heap.size)(I:ubh)(k:∀t W c,I t W->jh W c->(∀b,S b->c.heap[b]?=W.heap[b]?)->I t c)(h0:I 0 w)(q:ubo)(Jd:∀t x a' W c,q t x a' W->jh W c->(∀b,S b->c.heap[b]?=W.heap[b]?)->q t x a' c)(Je:∀(l t:Nat)(x:Value)(W:aH)(K:uag),I t W->t<N->Row t W x->(∀a' c,cy W c->q t x a' c->K a' c)->
  assign.wpIn (Fence.wide.inRound l) (n-1-1) P (Exit.then K (λ_ _ _=>False)) {tmps:=a.tmps.setIfInBounds p x,defers:=[]} W)(E:∀(l t:Nat)(x:Value)(a':Act)(W:aH),I t W->t<N->q t x a' W->nQ<=W.heap.size->body.wpIn (Fence.wide.inRound l) (n-1-1) P (λe _ c=>e=.normal/\KeepsOthers W c/\Below nQ W c/\I (t+1) c) a' W)(hdone:∀W,I N W->Below nQ w W->W.heap[w.heap.size]?=some (.deferred (some []))->Q .normal {a with defers:={target:=.collected w.heap.size,args:=#[]}::a.defers} W):
 (Code.rangeFunc g #[p] assign body).wpIn Fence.wide n P Q a w:=by
 refine wpIn_rangeFunc ?_;intro fn U;obtain⟨rec,C⟩:∃rec:LoopState->Loop,rec=λst=>{state:=st,pending:=none,fn,tmps:=a.tmps,params:=#[p],assign,body,defers:=w.heap.size}:=⟨_,rfl⟩;obtain⟨d,Jf⟩:∃d,(w.alloc (.deferred (some []))).alloc (.loop (rec .ready))=d:=⟨_,rfl⟩;have Cd:d.heap[w.heap.size+1]?=some (.loop (rec .ready)):=by grind[World.alloc_heap_new,World.size_alloc]
 have Jg:d.heap[w.heap.size]?=some (.deferred (some [])):=by grind[Below.heap_alloc,World.alloc_heap_new]
 have m:cy w d:=by rw[<-Jf];exact((vaa _ w).alloc Kj _).alloc AQ _
 refine⟨w.heap.size+1,[{target:=.collected w.heap.size,args:=#[]}],d,{target:=.fn (.func gf) lb,args:=#[.func (.yield (w.heap.size+1)) #[] #[]]},d,gf,#[.func (.yield (w.heap.size+1)) #[] #[]]++lb,d,?_,?_,λ_ _=>trivial,?_,λh=>Bu,?_⟩
 .simp_all[run_enterLoop_outer]
 .simp only[resolve,hg];simp[go_sem]
 .grind[invoke]
 .refine(H (w.heap.size+1) (λb=>S b\/b=w.heap.size\/b=w.heap.size+1) (λt W=>(I t W/\nQ<=W.heap.size/\w.heap.size<=W.heap.size)/\W.heap[w.heap.size+1]?=some (.loop (rec .ready))/\W.heap[w.heap.size]?=some (.deferred (some []))) d (M.trans (m.mono hn)) ?_ ?_ ?_ ⟨⟨k _ _ _ h0 (.below m) (λb hs=>m.block b (hS b hs)),AJ,m.size⟩,Cd,Jg⟩).mono ?_
  .grind
  .grind
  .rintro t x W ⟨⟨hi,V,xc⟩,i,hk⟩ j Z;have z:∀(W:aH)(o:Obj) b,S b->(W.putObj (w.heap.size+1) o).heap[b]?=W.heap[b]?:=λW o b hs=>vay AJ;have y:=run_yield (P:=P) (args:=#[x]) i AJ;rw[C]at y;refine⟨fn,_,assign,body,y,roundIn_of_wpIn U ?_⟩;clear y;have Y:(#[p].zip #[x]).foldl (λtmps(u:Tmp×Value)=>tmps.setIfInBounds u.1 u.2) a.tmps=a.tmps.setIfInBounds p x:=AQ;refine Eq.mp (vbp (λT=>Code.wpIn (Fence.wide.inRound (w.heap.size+1)) (n-1-1) P assign _ {tmps:=T,defers:=[]} W) Y.symm) ?_;refine Je _ t x W _ hi j Z ?_;intro a' D f Jh;have r:=(f.block _ (ml i)).trans i;have X:=(f.block _ (ml hk)).trans hk;refine⟨_,run_beginRound r AJ,?_⟩;have L:(D.putObj (w.heap.size+1) (.loop {rec .ready with state:=.busy})).heap[w.heap.size+1]?=some (.loop {rec .ready with state:=.busy}):=World.putObj_heap_same (ml r);have J:(D.putObj (w.heap.size+1) (.loop {rec .ready with state:=.busy})).heap[w.heap.size]?=some (.deferred (some [])):=(vay AP).trans X;refine wpIn_mono (E _ t x a' _ (k _ _ _ (k _ _ _ hi (.below f) (λb hs=>f.block b AJ)) (.put r) (z _ _)) j (Jd _ _ _ _ _ Jh (.put r) (z _ _)) AJ) ?_;rintro e cn oD ⟨rfl,A,s,F⟩;have B:=A.same _ _ L rfl;have Ji:=A.same _ _ J rfl;have O:=run_endRound (P:=P) none B;refine⟨_,_,O,rfl,⟨⟨k _ _ _ F (.put B) (z _ _),by have:=f.size;have:=s.size;simp at this⊢;omega,by have:=f.size;have:=s.size;simp at this⊢;omega⟩,?_,(vay AP).trans Ji⟩,?_⟩
   .grind[World.putObj_heap_same]
   .exact((f.mono V).trans ((t8 _ AP).trans s)).trans (t8 _ AP)
  .rintro e W2 ⟨⟨v,rfl⟩,⟨⟨hi,-⟩,i,hk⟩,R⟩;refine⟨none,_,by have:=run_endLoop (P:=P) i AJ;rw[C]at this;exact this,hdone _ (k _ _ _ hi (.put i) λb hs=>vay AJ) ?_ ((vay AP).trans hk)⟩;exact((m.mono hn).trans R).trans (t8 _ AP)
end bU
namespace au
def amD(Q:cf)(main:Bool)(K:dY)(post:aX->Prop)(Y X:aX):Prop:=
 ¬post X/\∃w' g1 w1 es,kn K X w'/\stepG Q main X.g w'=.go g1 w1 es/\Y=⟨g1,w1,grown X.mine w' w1⟩
variable{K:dY}
def iP.acc{Q:cf}{main:Bool}{post:aX->Prop}{X:aX}(h:iP Q main K post X):Acc (amD Q main K post) X:=by induction h with|done h=>exact⟨_,λY a=>absurd h a.1⟩|step _ _ b=>refine⟨_,λY a=>?_⟩;obtain⟨_,w',g1,w1,es,c,hs,rfl⟩:=a;grind
def iP.next{Q:cf}{main:Bool}{post:aX->Prop}{X:aX}(h:iP Q main K post X):
 post X\/∀w',kn K X w'->∃g1 w1 es,stepG Q main X.g w'=.go g1 w1 es/\RA K X.mine w' g1 w1 es/\iP Q main K post ⟨g1,w1,grown X.mine w' w1⟩:=by
 cases h with|done h=>grind|step ok h=>refine .inr λw' a=>?_;obtain⟨g1,w1,es,hs,hg⟩:=ok w' a;grind
def kn.others{X:aX}{w w1:aH}(h:kn K X w)(hk:∀b,K b\/X.mine b->w1.heap[b]?=w.heap[b]?)(hs:w.heap.size<=w1.heap.size)(c:w1.os.env=w.os.env):kn K X w1:=
 ⟨λb a=>(hk b a).trans (h.heap b a),vac h.size hs,c.trans h.env⟩
theorem kn.refl(K:dY)(X:aX):kn K X X.w:=⟨λ_ _=>Y,vad _,Y⟩
def yI{ao:Type}(r:ao->ao->Prop)(l' l:List ao):Prop:=∃i x y,l[i]?=some x/\r y x/\l'=l.set i y
theorem amE{ao:Type}{r:ao->ao->Prop}{a:ao}(e:Acc r a):∀{l:List ao},Acc (yI r) l->Acc (yI r) (a::l):=by induction e with|intro a _ f=>intro l d;induction d with|intro l c ihl=>refine⟨_,?_⟩;rintro g ⟨i,x,y,hi,b,rfl⟩;cases i with|zero=>simp at hi;subst hi;exact f y b ⟨l,c⟩|succ i=>simp at hi;exact ihl _ ⟨i,x,y,hi,b,Y⟩
def amF{ao:Type}{r:ao->ao->Prop}:∀(l:List ao),(∀x∈l,Acc r x)->Acc (yI r) l:=by intro l;induction l with|nil=>intro _;exact⟨_,λb⟨i,x,y,hi,_⟩=>AJ⟩|cons a l c=>grind[amE]
end au
namespace bn
open Conc ConcM au
structure eX where
 Lo:Type
 aN:Type
 a6:aN->Nat
 p7:aN->List Lo->Prop
 dM:Lo->aN->aN->Prop
 K:Nat->Prop
 hE:Nat->Prop
 ug:aN->aH->Prop
 tok:Lo->Bool
 deaf:Lo->Nat
 past:Lo->Bool
 Left:Lo->Prop
 zero:Lo->Prop
 oH:Lo->aN->Prop
 hh:Loc->Prop
 eW:Loc->Prop
 mu:Addr
 wg:Addr
 o_:Lo->Goroutine->Goroutine->Prop
structure eX.Good(Z:eX):Prop where
 refl:∀ ℓ γ,Z.dM ℓ γ γ
 trans:∀ ℓ a b c,Z.dM ℓ a b->Z.dM ℓ b c->Z.dM ℓ a c
 less:∀ ℓ γ aj,Z.dM ℓ γ aj->aj=γ\/Z.a6 aj<Z.a6 γ
 mt:∀γ w w',(∀b,Z.hE b->w'.heap[b]?=w.heap[b]?)->Z.ug γ w->Z.ug γ w'
 nt:∀b,Z.K b->¬Z.hE b
 one:∀γ(ls:List Z.Lo)(i j:Nat) a b,Z.p7 γ ls->ls[i]?=some a->ls[j]?=some b->Z.tok a=true->Z.tok b=true->i=j
 ov:∀γ ls,Z.p7 γ ls->∃(j:Nat)(l:Z.Lo),ls[j]?=some l/\¬Z.Left l/\¬Z.oH l γ
 zero:∀γ(ls:List Z.Lo)(j:Nat) l,Z.p7 γ ls->ls[j]?=some l->Z.zero l->j=0
 Gk:∀l,Z.hh l->∃b,e8 l=some b/\Z.hE b
 CK:∀l,Z.eW l->∃b,e8 l=some b/\Z.hE b
 uf:∀l,Z.hh l->¬Z.eW l
section
variable(Z:eX)
def hH(l:Z.Lo)(γ:Z.aN):Prop:=∃(ls:List Z.Lo)(i:Nat),ls[i]?=some l/\Z.p7 γ ls
structure dN(l:Z.Lo)(γ:Z.aN)(X:aX)(w:aH):Prop where
 rely:kn Z.K X w
 mt:Z.ug γ w
 sees:hH Z l γ
 later:OsLater X.w.os w.os
 output:w.output=X.w.output
 tape:w.tape=X.w.tape
def vw(e:Event):Prop:=e.loc=.mark .disable\/e.loc=.mark .enable\/(∃a,e.loc=.mark (.acquire a))\/(∃a,e.loc=.mark (.releaseMerge a))\/(e.write=true/\∃b,e8 e.loc=some b/\Z.hE b)
def CL(l:Z.Lo)(g g1:uaf)(es:uao):Prop:=(∃e∈es,vw Z e)\/Z.o_ l g g1
def uh(l:Z.Lo)(mine:dY)(d:Nat)(e:Event):Prop:=
 match e.loc with
 | .cell a=>(e.sync=false/\((Z.K a.block/\e.write=false)\/mine a.block\/(Z.hh (.cell a)/\Z.tok l=true))/\Z.past l=false)\/(e.sync=true/\Z.eW (.cell a)/\0<d)
 | .obj r=>e.sync=false/\((Z.K r/\e.write=false)\/mine r)/\Z.past l=false
 | .mark m=>AV m\/(Z.zero l/\∃a,Z.eW (.cell a)/\(m=.read a\/m=.write a))
 | .output=>True
 | .goroutines=>False
def oI(l:Z.Lo)(mine:dY):Nat->List Event->Prop
 | _,[]=>True
 |d,e::r=>uh Z l mine d e/\oI l mine (AW d e) r
structure lE(mine:dY)(w' w1:aH):Prop where
 kept:∀b,b<w'.heap.size->¬mine b->¬Z.hE b->w1.heap[b]?=w'.heap[b]?
 size:w'.heap.size<=w1.heap.size
 os:OsLater w'.os w1.os
 output:w1.output=w'.output
 tape:w1.tape=w'.tape
structure Quiet(l:Z.Lo)(X:aX)(w':aH)(g1:uaf)(w1:aH)(es:uao):Prop where
 run:g1.status=.running
 keep:lE Z X.mine w' w1
 sh:∀b,b<w'.heap.size->Z.hE b->w1.heap[b]?=w'.heap[b]?
 evs:oI Z l (grown X.mine w' w1) (Z.deaf l) es.toList
 low:¬CL Z l X.g g1 es
def CM(l:Z.Lo)(γ:Z.aN)(l1:Z.Lo)(bB:Z.aN):Prop:=
 Z.a6 bB<Z.a6 γ/\∀(ls:List Z.Lo)(i:Nat),ls[i]?=some l->Z.p7 γ ls->Z.p7 bB (ls.set i l1)/\∀(j:Nat)(k8:Z.Lo),j≠i->ls[j]?=some k8->Z.dM k8 γ bB
def Gl(m:Mark):Event:=⟨.mark m,false,true⟩
def Says(l l1:Z.Lo)(mine:dY)(es:uao):Prop:=
 (Z.tok l1=Z.tok l/\Z.past l1=Z.past l/\Z.deaf l1=deafBehind (Z.deaf l) es/\oI Z l mine (Z.deaf l) es.toList)\/
 (es=#[Gl (.acquire Z.mu)]/\Z.deaf l=0/\Z.deaf l1=0/\Z.tok l=false/\Z.tok l1=true/\Z.past l1=Z.past l)\/
 (es=#[Gl (.releaseMerge Z.mu)]/\Z.deaf l=0/\Z.deaf l1=0/\Z.tok l=true/\Z.tok l1=false/\Z.past l1=Z.past l)\/
 (es=#[Gl (.releaseMerge Z.wg)]/\Z.deaf l=0/\Z.deaf l1=0/\Z.tok l1=Z.tok l/\Z.past l1=true)
structure aac(Q:cf)(l:Z.Lo)(γ:Z.aN)(X:aX)(w':aH)(g1:uaf)(w1:aH)(es:uao)(l1:Z.Lo)(bB:Z.aN):Prop where
 run:g1.status=.running
 Na:CL Z l X.g g1 es
 keep:lE Z X.mine w' w1
 mt:Z.ug bB w1
 AY:CM Z l γ l1 bB
 says:Says Z l l1 (grown X.mine w' w1) es
 Jx:mayWake Q X.g=true\/∀k8,Z.oH k8 γ->Z.oH k8 bB
structure SD(l:Z.Lo)(γ:Z.aN)(X:aX)(w':aH)(g1 child:uaf)(w1:aH)(es:uao)(l1:Z.Lo)(bB:Z.aN)(lc:Z.Lo):Prop where
 run:g1.status=.running
 aad:child.status=.running
 keep:lE Z X.mine w' w1
 mt:Z.ug bB w1
 a6:Z.a6 bB<Z.a6 γ
 AY:∀(ls:List Z.Lo),ls[0]?=some l->Z.p7 γ ls->Z.p7 bB (ls.set 0 l1++[lc])/\∀(j:Nat)(k8:Z.Lo),j≠0->ls[j]?=some k8->Z.dM k8 γ bB
 evs:oI Z l (grown X.mine w' w1) 0 es.toList
 deaf:Z.deaf l=0/\deafBehind 0 es=0/\Z.deaf l1=0/\Z.deaf lc=0
 tok:Z.tok l1=Z.tok l/\Z.tok lc=false
 past:Z.past l1=Z.past l/\Z.past lc=false
 Jx:∀k8,Z.oH k8 γ->Z.oH k8 bB
 stays:¬Z.Left l1/\¬Z.Left lc
def Comes(Q:cf)(Stop:Bool->Z.Lo->aX->Prop)(m:Bool)(l:Z.Lo)(γ:Z.aN)(X:aX)(w':aH)(c:Z.Lo×Z.aN×Z.Lo):Prop:=
 (∃g1 w1 es,stepG Q m X.g w'=.go g1 w1 es/\Quiet Z l X w' g1 w1 es)\/
 (∃g1 w1 es,stepG Q m X.g w'=.go g1 w1 es/\aac Z Q l γ X w' g1 w1 es c.1 c.2.1/\(Z.Left c.1->m=false/\Stop m c.1 ⟨g1,w1,grown X.mine w' w1⟩))\/
 (stepG Q m X.g w'=.go {X.g with status:=.blocked} w' #[]/\X.g.offers=none/\Z.oH l γ/\¬Z.o_ l X.g {X.g with status:=.blocked})\/
 (m=true/\∃g1 child w1 es,stepG Q m X.g w'=.spawn g1 child w1 es/\SD Z l γ X w' g1 child w1 es c.1 c.2.1 c.2.2)
inductive bf(Q:cf)(Stop:Bool->Z.Lo->aX->Prop):Bool->Z.Lo->Z.aN->aX->Prop
 |stop {m:Bool} {l:Z.Lo} {γ:Z.aN} {X:aX} (h:Stop m l X):bf Q Stop m l γ X
 |step {m:Bool} {l:Z.Lo} {γ:Z.aN} {X:aX} (hs:X.g.status=.running) (ch:aH->Z.aN->Z.Lo×Z.aN×Z.Lo)
  (ok:∀w' aj,Z.dM l γ aj->dN Z l aj X w'->Comes Z Q Stop m l aj X w' (ch w' aj))
  (hq:∀w' aj g1 w1 es,Z.dM l γ aj->dN Z l aj X w'->stepG Q m X.g w'=.go g1 w1 es->g1.status=.running->¬CL Z l X.g g1 es->bf Q Stop m l aj ⟨g1,w1,grown X.mine w' w1⟩)
  (he:∀w' aj g1 w1 es,Z.dM l γ aj->dN Z l aj X w'->stepG Q m X.g w'=.go g1 w1 es->CL Z l X.g g1 es->bf Q Stop m (ch w' aj).1 (ch w' aj).2.1 ⟨g1,w1,grown X.mine w' w1⟩)
  (hm:∀w' aj g1 child w1 es,Z.dM l γ aj->dN Z l aj X w'->stepG Q m X.g w'=.spawn g1 child w1 es->bf Q Stop m (ch w' aj).1 (ch w' aj).2.1 ⟨g1,w1,grown X.mine w' w1⟩)
  (hc:∀w' aj g1 child w1 es,Z.dM l γ aj->dN Z l aj X w'->stepG Q m X.g w'=.spawn g1 child w1 es->bf Q Stop false (ch w' aj).2.2 (ch w' aj).2.1 ⟨child,w1,λ_=>False⟩):bf Q Stop m l γ X
end
section
variable{Z:eX}{Q:cf}{Stop:Bool->Z.Lo->aX->Prop}{m:Bool}{l:Z.Lo}{γ:Z.aN}{X:aX}
inductive Then(Q:cf)(Stop:Bool->Z.Lo->aX->Prop)(m:Bool)(l:Z.Lo)(γ:Z.aN)(X:aX)(w':aH):Prop
 |quiet {g1:uaf} {w1:aH} {es:uao} (hs:stepG Q m X.g w'=.go g1 w1 es) (hq:Quiet Z l X w' g1 w1 es) (h:bf Z Q Stop m l γ ⟨g1,w1,grown X.mine w' w1⟩)
 |turn {g1:uaf} {w1:aH} {es:uao} {l1:Z.Lo} {bB:Z.aN} (hs:stepG Q m X.g w'=.go g1 w1 es) (ht:aac Z Q l γ X w' g1 w1 es l1 bB) (hl:Z.Left l1->m=false/\Stop m l1 ⟨g1,w1,grown X.mine w' w1⟩) (h:bf Z Q Stop m l1 bB ⟨g1,w1,grown X.mine w' w1⟩)
 |wait (hs:stepG Q m X.g w'=.go {X.g with status:=.blocked} w' #[]) (ho:X.g.offers=none) (hw:Z.oH l γ) (hp:¬Z.o_ l X.g {X.g with status:=.blocked})
 |born {g1 child:uaf} {w1:aH} {es:uao} {l1:Z.Lo} {bB:Z.aN} {lc:Z.Lo} (hm:m=true) (hs:stepG Q m X.g w'=.spawn g1 child w1 es) (hb:SD Z l γ X w' g1 child w1 es l1 bB lc)
  (h:bf Z Q Stop m l1 bB ⟨g1,w1,grown X.mine w' w1⟩) (hc:bf Z Q Stop false lc bB ⟨child,w1,λ_=>False⟩)
open Classical in
def bf.mk(hs:X.g.status=.running)(h:∀w' a,Z.dM l γ a->dN Z l a X w'->Then Q Stop m l a X w'):bf Z Q Stop m l γ X:=by
 have pick:∀w' a,∃c:Z.Lo×Z.aN×Z.Lo,Z.dM l γ a->dN Z l a X w'->Comes Z Q Stop m l a X w' c/\
  (∀g1 w1 es,stepG Q m X.g w'=.go g1 w1 es->g1.status=.running->¬CL Z l X.g g1 es->bf Z Q Stop m l a ⟨g1,w1,grown X.mine w' w1⟩)/\
  (∀g1 w1 es,stepG Q m X.g w'=.go g1 w1 es->CL Z l X.g g1 es->bf Z Q Stop m c.1 c.2.1 ⟨g1,w1,grown X.mine w' w1⟩)/\
  (∀g1 child w1 es,stepG Q m X.g w'=.spawn g1 child w1 es->bf Z Q Stop m c.1 c.2.1 ⟨g1,w1,grown X.mine w' w1⟩/\bf Z Q Stop false c.2.2 c.2.1 ⟨child,w1,λ_=>False⟩):=by
  intro w' a;by_cases i:Z.dM l γ a/\dN Z l a X w'
  .cases h w' a i.1 i.2 with|quiet hs hq h=>exact⟨(l,a,l),λ_ _=>⟨.inl AJ,AJ,AJ,AJ⟩⟩|turn hs ht g h=>exact⟨(_,_,l),λ_ _=>⟨.inr (.inl ⟨_,_,_,hs,ht,g⟩),λg1 w1 es e _ hn=>(by rw[hs]at e;cases e;exact absurd ht.Na hn),AJ,AJ⟩⟩|wait hs p o n=>exact⟨(l,a,l),λ_ _=>⟨.inr AJ,AJ,λg1 w1 es e g=>(by rw[hs]at e;cases e;exact g.elim AJ AJ),AJ⟩⟩|born j hs k h q=>exact⟨(_,_,_),λ_ _=>⟨.inr (.inr (.inr ⟨j,_,_,_,_,hs,k⟩)),AJ,AJ,AJ⟩⟩
  .exact⟨(l,a,l),AJ⟩
 obtain⟨ch,b⟩:=vcn.1 λx:aH×Z.aN=>pick x.1 x.2;exact .step hs (λw' a=>ch (w',a)) AJ (λw' a g1 w1 es f d=>(b (w',a) f d).2.1 g1 w1 es) (λw' a g1 w1 es f d=>(b (w',a) f d).2.2.1 g1 w1 es)
  (λw' a g1 c w1 es f d e=>((b (w',a) f d).2.2.2 g1 c w1 es e).1) AJ
def bf.next(h:bf Z Q Stop m l γ X):Stop m l X\/(X.g.status=.running/\∀w' a,Z.dM l γ a->dN Z l a X w'->Then Q Stop m l a X w'):=by
 cases h with
 |stop h=>grind
 |step hs ch ok hq g k n=>
  refine .inr ⟨hs,λw' a d b=>?_⟩;rcases ok w' a d b with⟨g1,w1,es,e,q⟩|⟨g1,w1,es,e,q,i⟩|⟨e,f,q,j⟩|⟨em,g1,c,w1,es,e,q⟩
  .exact .quiet e q (hq w' a g1 w1 es d b e q.run q.low)
  .exact .turn e q i (g w' a g1 w1 es d b e q.Na)
  .exact .wait e f q j
  .exact .born em e q AJ AJ
def bf.k9(G:Z.Good)(h:bf Z Q Stop m l γ X){e:Z.aN}(d:Z.dM l γ e):bf Z Q Stop m l e X:=by
 cases h with
 |stop h=>exact .stop h
 |step hs ch ok hq g f i=>
  exact .step hs ch (λw' a b=>ok w' a (G.trans _ _ _ _ d b)) (λw' a g1 w1 es b=>hq w' a g1 w1 es (G.trans _ _ _ _ d b)) (λw' a g1 w1 es b=>g w' a g1 w1 es (G.trans _ _ _ _ d b))
   (λw' a g1 c w1 es b=>f w' a g1 c w1 es (G.trans _ _ _ _ d b)) (λw' a g1 c w1 es b=>i w' a g1 c w1 es (G.trans _ _ _ _ d b))
def Nb(Z:eX)(Q:cf)(Stop:Bool->Z.Lo->aX->Prop)(y x:Bool×Z.Lo×Z.aN×aX):Prop:=
 ¬Stop x.1 x.2.1 x.2.2.2/\y.1=x.1/\y.2.1=x.2.1/\y.2.2.1=x.2.2.1/\∃w' g1 w1 es,dN Z x.2.1 x.2.2.1 x.2.2.2 w'/\stepG Q x.1 x.2.2.2.g w'=.go g1 w1 es/\g1.status=.running/\¬CL Z x.2.1 x.2.2.2.g g1 es/\y.2.2.2=⟨g1,w1,grown x.2.2.2.mine w' w1⟩
def bf.acc(G:Z.Good)(h:bf Z Q Stop m l γ X):Acc (Nb Z Q Stop) (m,l,γ,X):=by induction h with|stop h=>exact⟨_,λy a=>absurd h a.1⟩|step hs ch ok hq q p r o _ _ _=>refine⟨_,λy a=>?_⟩;obtain⟨_,e,d,c,w',g1,w1,es,f,hst,hrun,g,b⟩:=a;obtain⟨n,k,j,i⟩:=y;simp only at e d c b;subst e d c b;exact o w' _ g1 w1 es (G.refl _ _) f hst hrun g
end
open ConcN
def vx(P:cf)(m:Machine)(t:Trace)(q:Machine->Trace->Prop):Prop:=∃n m' cJ,runNT P n m t=(.next m',cJ)/\q m' cJ
theorem vx.refl{P:cf}{m:Machine}{t:Trace}{q:Machine->Trace->Prop}(h:q m t):vx P m t q:=⟨0,m,t,Y,h⟩
theorem vx.step{P:cf}{m a:Machine}{t:Trace}{ops:Array MemOp}{q:Machine->Trace->Prop}(hs:stepT P m=(.next a,ops))(h:vx P a (t++ops) q):vx P m t q:=
 let⟨n,b,d_,d,c⟩:=h
 ⟨n+1,b,d_,by grind[runNT_succ_next],c⟩
theorem aae{P:cf}:∀(n:Nat){k:Nat}{m a:Machine}{t cJ:Trace},runNT P n m t=(.next a,cJ)->runNT P (n+k) m t=runNT P k a cJ
 |0,k,m,a,t,cJ,h=>by simp_all[runNT]
 |n+1,k,m,a,t,cJ,h=>by rw[show n+1+k=(n+k)+1 from AP];cases hs:stepT P m with|mk s ops=>cases s with|next m1=>rw[runNT_succ_next hs]at h⊢;exact aae n h|ended o w=>simp[runNT,hs]at h
theorem vx.bind{P:cf}{m:Machine}{t:Trace}{q a:Machine->Trace->Prop}(h:vx P m t q)(hq:∀b cJ,q b cJ->vx P b cJ a):vx P m t a:=by obtain⟨n,m1,c,i,f⟩:=h;obtain⟨k,d,d_,g,e⟩:=hq m1 c f;exact⟨n+k,d,d_,by grind[aae],e⟩
def amS{P:cf}{ao:Type}{r:ao->ao->Prop}(wf:WellFounded r)(Inv:ao->Machine->Trace->Prop)(q:Machine->Trace->Prop)(h:∀a m t,Inv a m t->q m t\/∃b ops c,stepT P m=(.next b,ops)/\r c a/\Inv c b (t++ops)):∀a m t,Inv a m t->vx P m t q:=by
 intro a;induction a using wf.induction with
 | _ a f=>
  intro m t e;rcases h a m t e with hq|⟨b,ops,c,hs,g,d⟩
  .exact .refl hq
  .exact .step hs AJ
section
variable{ao:Type}(R:ao->ao->Prop)
def CO(y x:Nat×List ao×Nat×Nat):Prop:=
 y.1<x.1\/(y.1=x.1/\((yI R y.2.1 x.2.1/\Acc (yI R) x.2.1)\/(y.2.1=x.2.1/\(y.2.2.1<x.2.2.1\/(y.2.2.1=x.2.2.1/\y.2.2.2<x.2.2.2)))))
def amT:WellFounded (CO R):=by
 have key:∀b,(∀c,c<b->∀v s k,Acc (CO R) (c,v,s,k))->∀v s k,Acc (CO R) (b,v,s,k):=by
  intro b g;have core:∀v,(∀a,yI R a v->Acc (yI R) v->∀s k,Acc (CO R) (b,a,s,k))->∀s k,Acc (CO R) (b,v,s,k):=by intro v hv s;induction s using Nat.strongRecOn with| _ s f=>intro k;induction k using Nat.strongRecOn with| _ k e=>refine⟨_,?_⟩;rintro⟨c,a,s',k'⟩ h;simp[CO]at h;grind
  intro v;by_cases hv:Acc (yI R) v
  .induction hv with|intro v _ d=>grind
  grind
 refine⟨λ⟨b,v,s,k⟩=>?_⟩;induction b using Nat.strongRecOn generalizing v s k with| _ b d=>grind
end
structure cB(Z:eX) where
 g:Goroutine
 l:Z.Lo
 X:aX
 n:Nat
section
variable(Z:eX)(Q:cf)(Stop:Bool->Z.Lo->aX->Prop)
inductive ui(m:Bool)(γ:Z.aN)(d:Nat)(r:cB Z):Prop
 |runs (hg:r.g=r.X.g) (hr:r.X.g.status=.running) (ht:bf Z Q Stop m r.l γ r.X) (hn:m=false->¬Stop m r.l r.X) (hd:d=Z.deaf r.l) (h0:r.n=0) (hl:¬Z.Left r.l)
 |waits (hg:r.g={r.X.g with status:=.blocked}) (hr:r.X.g.status=.running) (ho:r.X.g.offers=none) (ht:bf Z Q Stop m r.l γ r.X) (hn:¬Stop m r.l r.X) (hw:Z.oH r.l γ) (hd:d=Z.deaf r.l) (h0:r.n=0) (hl:¬Z.Left r.l)
 |leaves (hm:m=false) (hq:QuitsD Q r.n d r.g) (hl:Z.Left r.l) (hs:Stop m r.l r.X)
def jj(base:Nat)(rs:List (cB Z))(size:Nat)(aS:ubc):jM:=
 {n:=rs.length,base,size,K:=Z.K,mine:=λj b=>∃r,rs[j]?=some r/\r.X.mine b,hh:=Z.hh,eW:=Z.eW,tok:=aS,mu:=Z.mu,wg:=Z.wg,past:=λj=>∃r,rs[j]?=some r/\Z.past r.l=true}
structure Inv(base:Nat)(rs:List (cB Z))(γ:Z.aN)(w:aH)(t:Trace):Prop where
 sits:∀(j:Nat)(r:cB Z),rs[j]?=some r->ui Z Q Stop (j==0) γ (Deaf t j) r
 ud:Z.p7 γ (rs.map (·.l))
 mt:Z.ug γ w
 rely:∀(j:Nat)(r:cB Z),rs[j]?=some r->kn Z.K r.X w/\OsLater r.X.w.os w.os/\w.output=r.X.w.output/\w.tape=r.X.w.tape
 sh:∀(j:Nat)(r:cB Z),rs[j]?=some r->∀b,r.X.mine b->¬Z.hE b/\¬Z.K b/\b<w.heap.size
 apart:∀(j k:Nat)(r s:cB Z),rs[j]?=some r->rs[k]?=some s->j≠k->∀b,r.X.mine b->¬s.X.mine b
 low:∀b,Z.K b\/Z.hE b->b<w.heap.size
 old:∀(j:Nat)(r:cB Z),rs[j]?=some r->j≠0->j<base->Z.Left r.l/\∀b,¬r.X.mine b
 aS:∃aS,(∀(j:Nat)(r:cB Z),rs[j]?=some r->(Z.tok r.l=true↔aS=some j))/\ef (jj Z base rs w.heap.size aS) t
 amU:0<rs.length
def kM(rs:List (cB Z)):Array Goroutine:=(rs.map (·.g)).toArray
end
def ef.conv{p c:jM}{t:Trace}(h:ef p t)(hn:c.n=p.n)(g:c.base=p.base)(hs:p.size<=c.size)(hK:c.K=p.K)(o:∀j b,c.mine j b->p.mine j b\/p.size<=b)(hg:c.hh=p.hh)(v:c.eW=p.eW)(ht:c.tok=p.tok)(n:c.mu=p.mu)(C:c.wg=p.wg)(x:∀j,c.past j->p.past j):ef c t:=by
 have q:∀j,c.bq j->p.bq j:=λj f=>by grind[jM.bq]
 have z:∀j,p.bq j->c.bq j:=λj f=>by grind[jM.bq]
 refine⟨λi a d u cR=>?_,λi op hi=>by rw[hn];exact h.gs i op hi,λi a b d g=>vav (h.low i a b d g) hs,λi a b d w g l j f=>h.still i a b d w g (hK▸l) j (q j f),λj i a b f d g r=>?_,λj f=>?_,λy i a d A=>?_,λi a d hs=>?_,h.q2,h.yJ,λi j f B s=>?_⟩
 .refine(h.oG i a d u cR).imp AJ λk=>⟨by rw[hg];exact k.1,λb m=>⟨by rw[hK];exact(k.2 b m).1,λj f=>(o j b f).elim ((k.2 b m).2 j) (λe=>absurd (h.low i a b d m) AP)⟩⟩
 .exact(o j b r).elim (λe=>h.own j i a b (q j f) d g e) (λe=>absurd (h.low i a b d g) AP)
 .obtain⟨E,D⟩:=h.ue j (ht▸f);grind
 .rw[n];exact(h.CJ (ht▸y) i a d (hg▸A)).imp AJ id
 .exact(h.eW i a d (v▸hs)).imp id AJ
 .rw[C];exact h.past i j f (x j B) s
variable{f:ubl}
section
variable{Z:eX}{Q:cf}{Stop:Bool->Z.Lo->aX->Prop}
structure Row(rs cH:List (cB Z))(i:Nat)(r1:cB Z)(f:ubl):Prop where
 len:cH.length=rs.length
 at_:cH[i]?=some r1
 k9:∀j,j≠i->cH[j]?=(rs[j]?).map λs=>{s with g:=f s.g}
def Nc(rs:List (cB Z)){i:Nat}{r:cB Z}(hi:rs[i]?=some r)(r1:cB Z)(f:ubl):Row rs ((rs.map λs=>{s with g:=f s.g}).set i r1) i r1 f:=by
 have a:i<rs.length:=by grind
 refine⟨AQ,AJ,λj b=>?_⟩;grind
def SF(rs:List (cB Z))(i:Nat)(r1:cB Z)(f:ubl):kM Z ((rs.map λs=>{s with g:=f s.g}).set i r1)=((kM Z rs).map f).setIfInBounds i r1.g:=by grind[kM]
def Row.ls{rs cH:List (cB Z)}{i:Nat}{r1:cB Z}(h:Row rs cH i r1 f):cH.map (·.l)=(rs.map (·.l)).set i r1.l:=by
 apply vbw;intro j;by_cases b:j=i
 .subst b;have a:j<rs.length:=by obtain⟨x,_⟩:=vab.1 h.at_;rw[<-h.len];exact x
  simp[h.at_,a]
 .rw[vbb (Ne.symm b)];simp[h.k9 j b];rfl
def Row.other{rs cH:List (cB Z)}{i:Nat}{r1:cB Z}(h:Row rs cH i r1 f){j:Nat}{s:cB Z}(a:j≠i)(hs:cH[j]?=some s):∃s0,rs[j]?=some s0/\s={s0 with g:=f s0.g}:=by rw[h.k9 j a]at hs;grind
theorem lE.at{mine:dY}{w w1:aH}(d:Nat)(h:lE Z mine (w.at d) w1):lE Z mine w w1:=⟨h.kept,h.size,h.os,h.output,h.tape⟩
theorem kn.at{K:dY}{X:aX}{w:aH}(h:kn K X w)(d:Nat):kn K X (w.at d):=⟨h.heap,h.size,h.env⟩
theorem Inv.kept{base:Nat}{rs:List (cB Z)}{γ:Z.aN}{w:aH}{t:Trace}(G:Z.Good)(h:Inv Z Q Stop base rs γ w t){i:Nat}{r:cB Z}(hi:rs[i]?=some r){w1:aH}(hk:lE Z r.X.mine w w1):
 (∀b,Z.K b->w1.heap[b]?=w.heap[b]?)/\∀(j:Nat)(s:cB Z),rs[j]?=some s->j≠i->∀b,s.X.mine b->w1.heap[b]?=w.heap[b]?:=by
 refine⟨λb a=>hk.kept b (h.low b (.inl a)) (λe=>(h.sh i r hi b e).2.1 a) (G.nt b a),λj s d c b a=>?_⟩;have:=h.sh j s d b a;exact hk.kept b this.2.2 (h.apart j i s r d hi c b a) this.1
def Inv.parts{base:Nat}{rs cH:List (cB Z)}{γ:Z.aN}{w:aH}{t:Trace}(G:Z.Good)(h:Inv Z Q Stop base rs γ w t){i:Nat}{r r1:cB Z}(hi:rs[i]?=some r)(x:Row rs cH i r1 f){w1:aH}(hk:lE Z r.X.mine w w1)(I:∀b,r1.X.mine b->r.X.mine b\/(w.heap.size<=b/\b<w1.heap.size)):
 (∀(j:Nat)(s:cB Z),cH[j]?=some s->∀b,s.X.mine b->¬Z.hE b/\¬Z.K b/\b<w1.heap.size)/\
 (∀(j k:Nat)(s s':cB Z),cH[j]?=some s->cH[k]?=some s'->j≠k->∀b,s.X.mine b->¬s'.X.mine b)/\
 (∀b,Z.K b\/Z.hE b->b<w1.heap.size)/\(∀aS,Sx (jj Z base cH w1.heap.size aS)):=by
 have A:∀(j:Nat)(s:cB Z),cH[j]?=some s->∀b,s.X.mine b->(∃s0,rs[j]?=some s0/\s0.X.mine b)\/(j=i/\w.heap.size<=b/\b<w1.heap.size):=by
  intro j s m b d;by_cases v:j=i
  .subst v;rw[x.at_]at m;grind
  .obtain⟨s0,a,rfl⟩:=x.other v m;grind
 have B:∀(j:Nat)(s:cB Z),cH[j]?=some s->∀b,s.X.mine b->¬Z.hE b/\¬Z.K b/\b<w1.heap.size:=by
  intro j s m b d;rcases A j s m b d with⟨s0,a,c⟩|⟨_,a,c⟩
  .have:=h.sh j s0 a b c;exact⟨this.1,this.2.1,vav this.2.2 hk.size⟩
  .exact⟨λe=>absurd (h.low b (.inr e)) AP,λe=>absurd (h.low b (.inl e)) AP,c⟩
 have C:∀(j k:Nat)(s s':cB Z),cH[j]?=some s->cH[k]?=some s'->j≠k->∀b,s.X.mine b->¬s'.X.mine b:=by
  intro j k s s' m F q b d E;rcases A j s m b d with⟨s0,a,c⟩|⟨J,a,c⟩<;>rcases A k s' F b E with⟨n,o,p⟩|⟨H,o,p⟩
  .exact h.apart j k s0 n a o q b c p
  .have:=(h.sh j s0 a b c).2.2;omega
  .have:=(h.sh k n o b p).2.2;omega
  grind
 have D:∀b,Z.K b\/Z.hE b->b<w1.heap.size:=λb d=>vav (h.low b d) hk.size;refine⟨B,C,D,λaS=>⟨?_,?_,?_,?_,G.uf,?_,λb d=>D b (.inl d),?_⟩⟩
 .rintro j k b ⟨s,a,c⟩ ⟨s',o,p⟩;grind
 .rintro j b ⟨s,a,c⟩;exact(B j s a b c).2.1
 .intro l b j hg g;obtain⟨u,a,c⟩:=G.Gk l hg;rw[g]at a;cases a;exact⟨λ⟨s,z,y⟩=>AJ,λe=>G.nt b e c⟩
 .intro l b j hg g;obtain⟨u,a,c⟩:=G.CK l hg;rw[g]at a;cases a;exact⟨λ⟨s,z,y⟩=>AJ,λe=>G.nt b e c⟩
 .rintro j b ⟨s,a,c⟩;exact(B j s a b c).2.2
 .intro l b g d;rcases g with g|g
  .obtain⟨u,a,c⟩:=G.Gk l g;rw[d]at a;cases a;exact D b (.inr c)
  .obtain⟨u,a,c⟩:=G.CK l g;rw[d]at a;cases a;exact D b (.inr c)
def aag(G:Z.Good)(base:Nat)(rs:List (cB Z))(size:Nat)(aS:ubc):M9 (jj Z base rs size aS):=
 ⟨λl h=>let⟨_,a,_⟩:=G.Gk l h;Gj a,λl h=>let⟨_,a,_⟩:=G.CK l h;Gj a⟩
theorem aah{p:jM}{j:Nat}{l:Z.Lo}{mine:dY}(hK:p.K=Z.K)(g:∀b,mine b->p.mine j b)(hg:p.hh=Z.hh)(hs:p.eW=Z.eW)(ht:Z.tok l=true->p.tok=some j)(f:Z.past l=false->¬p.past j)(h:Z.zero l->j=0):
 ∀(es:ubk)(d:Nat),oI Z l mine d es->Sz p j d es
 | [],_,_=>trivial
 |e::es,d,⟨c,i⟩=>by
  refine⟨?_,aah hK g hg hs ht f h es _ i⟩;obtain⟨loc,wr,k⟩:=e;cases loc with
  |cell a=>
   rcases c with⟨x,y,z⟩|⟨x,y,z⟩
   .exact .inl AJ
   .exact .inr AJ
  |obj r=>exact⟨c.1,c.2.1.imp AJ (g _),f c.2.2⟩
  |mark m=>exact c.imp id AJ
  |output=>trivial
  |goroutines=>exact c
end
variable{es:uao}{g g1:uaf}
section
section
variable{Z:eX}{Q:cf}{Stop:Bool->Z.Lo->aX->Prop}{base:Nat}{rs cH:List (cB Z)}{γ bB:Z.aN}{w w1:aH}{t:Trace}
def Inv.lt(h:Inv Z Q Stop base rs γ w t){i:Nat}{r:cB Z}(hi:rs[i]?=some r)(b:¬Z.Left r.l)(size:Nat)(aS:ubc):(jj Z base rs size aS).bq i:=by
 obtain⟨a,_⟩:=vab.1 hi;refine⟨a,?_⟩;rcases vbn i with e|e
 .grind
 .refine .inr (Nat.le_of_not_lt λc=>b (h.old i r hi AP c).1)
def Nd(i:Nat)(fn:uah)(pos:String)(m:Mark):MemOp.ofEvents i fn pos #[Gl m]=#[({g:=i,fn,pos,act:=.mark m}:MemOp)]:=by rw[ofEvents_eq];simp[Gl,MemAct.ofEvent]
def Inv.says(G:Z.Good)(h:Inv Z Q Stop base rs γ w t){i:Nat}{r r1:cB Z}(hi:rs[i]?=some r)(N:¬Z.Left r.l)(a:Row rs cH i r1 f)(hk:lE Z r.X.mine w w1)(P:r1.X.mine=grown r.X.mine w w1)(hd:Deaf t i=Z.deaf r.l)(W:Z.tok r.l=false->Z.tok r1.l=true->∀(k:Nat)(s:cB Z),k≠i->rs[k]?=some s->Z.tok s.l=true->False)(hs:Says Z r.l r1.l (grown r.X.mine w w1) es)(fn:uah)(pos:String):
 (∃aS,(∀(j:Nat)(s:cB Z),cH[j]?=some s->(Z.tok s.l=true↔aS=some j))/\ef (jj Z base cH w1.heap.size aS) (t++MemOp.ofEvents i fn pos es))/\Deaf (t++MemOp.ofEvents i fn pos es) i=Z.deaf r1.l:=by
 have F:∀b,r1.X.mine b->r.X.mine b\/(w.heap.size<=b/\b<w1.heap.size):=λb A=>by rw[P]at A;exact A
 obtain⟨hB,hC,Y,O⟩:=h.parts G hi a hk F;obtain⟨aS,U,B⟩:=h.aS;have z:∀aS,(jj Z base cH w1.heap.size aS).bq i:=λaS=>by have:=h.lt hi N w1.heap.size aS;unfold jM.bq jj at this⊢;simp only at this⊢;rw[a.len];grind
 have I:∀aS j b,(jj Z base cH w1.heap.size aS).mine j b->(jj Z base rs w.heap.size aS).mine j b\/w.heap.size<=b:=by
  rintro aS j b ⟨s,m,n⟩;by_cases c:j=i
  .subst c;rw[a.at_]at m;cases m;exact(F b n).imp (λe=>⟨r,hi,e⟩) (λe=>e.1)
  .obtain⟨s0,q,rfl⟩:=a.other c m;exact .inl ⟨s0,q,n⟩
 have K:(Z.past r1.l=Z.past r.l)->∀aS j,(jj Z base cH w1.heap.size aS).past j->(jj Z base rs w.heap.size aS).past j:=by
  rintro H aS j ⟨s,m,n⟩;by_cases c:j=i
  .subst c;rw[a.at_]at m;cases m;exact⟨r,hi,AJ⟩
  .obtain⟨s0,q,rfl⟩:=a.other c m;exact⟨s0,q,n⟩
 have conv:(Z.past r1.l=Z.past r.l)->ef (jj Z base cH w1.heap.size aS) t:=λH=>
  B.conv a.len rfl hk.size rfl (I aS) rfl rfl rfl rfl rfl (K H aS)
 have T:∀(j:Nat)(s:cB Z),j≠i->cH[j]?=some s->(Z.tok s.l=true↔aS=some j):=by intro j s d L;obtain⟨s0,q,rfl⟩:=a.other d L;grind
 rcases hs with⟨u,o,v,D⟩|⟨rfl,u,o,v,D,C⟩|⟨rfl,u,o,v,D,C⟩|⟨rfl,u,o,v,D⟩
 .refine⟨⟨aS,λj s d=>?_,?_⟩,by rw[Deaf_own,hd,v]⟩
  .by_cases c:j=i
   .subst c;rw[a.at_]at d;grind
   grind
  .have:=ef.step (O aS) (aag G base cH w1.heap.size aS) (z aS) fn pos es.toList (conv o) (aah (Z:=Z) (p:=jj Z base cH w1.heap.size aS) (j:=i) (l:=r.l) (mine:=grown r.X.mine w w1) rfl (λb A=>⟨r1,a.at_,BR⟩) rfl rfl (λht=>(U i r hi).1 ht)
    (λX⟨s,m,n⟩=>by rw[a.at_]at m;grind) (λM=>G.zero γ _ i r.l h.ud AJ M) es.toList _ AJ)
   omega
 .have E:aS=none:=by cases x:aS with|none=>rfl|some k=>exfalso;have J:=(B.ue k x).1;obtain⟨s,S⟩:∃s,rs[k]?=some s:=⟨rs[k]'J.1,vat J.1⟩;grind
  refine⟨⟨some i,λj s d=>?_,?_⟩,KF⟩
  .by_cases c:j=i
   .subst c;rw[a.at_]at d;grind
   grind
  .have h0:=conv C;rw[E]at h0;have:=ef.amM h0 rfl (y:={g:=i,fn,pos,act:=.mark (.acquire Z.mu)}) (z none) rfl AJ;rw[Nd];exact this
 .have x:aS=some i:=AJ;refine⟨⟨none,λj s d=>?_,?_⟩,KF⟩
  .by_cases c:j=i
   .subst c;rw[a.at_]at d;grind
   grind
  .have h0:=conv C;rw[x]at h0;have:=ef.amN h0 (y:={g:=i,fn,pos,act:=.mark (.releaseMerge Z.mu)}) rfl rfl AJ;rw[Nd];exact this
 .refine⟨⟨aS,λj s d=>?_,?_⟩,KF⟩
  .by_cases c:j=i
   .subst c;rw[a.at_]at d;grind
   grind
  .have h0:ef {jj Z base cH w1.heap.size aS with past:=(jj Z base rs w.heap.size aS).past} t:=
    B.conv a.len rfl hk.size rfl (I aS) rfl rfl rfl rfl rfl (λj d=>d)
   have:=ef.amO h0 (y:={g:=i,fn,pos,act:=.mark (.releaseMerge Z.wg)}) (z aS) rfl AJ (past:=(jj Z base cH w1.heap.size aS).past) (λk R=>by
    obtain⟨s,m,n⟩:=R;by_cases V:k=i
    .grind
    .obtain⟨s0,q,rfl⟩:=a.other V m;exact .inl ⟨s0,q,n⟩)
   simp_all[Nd]
def Inv.own(G:Z.Good)(h:Inv Z Q Stop base rs γ w t){i:Nat}{r r1:cB Z}(hi:rs[i]?=some r)(x:¬Z.Left r.l)(g:Row rs cH i r1 f)(m:r1.X.w=w1)(hk:lE Z r.X.mine w w1)(B:r1.X.mine=grown r.X.mine w w1)(F:Z.p7 bB ((rs.map (·.l)).set i r1.l))(u:Z.ug bB w1){k:Trace}(E:∀(j:Nat)(s:cB Z),j≠i->cH[j]?=some s->ui Z Q Stop (j==0) bB (Deaf k j) s)(H:ui Z Q Stop (i==0) bB (Deaf k i) r1)(ht:∃aS,(∀(j:Nat)(s:cB Z),cH[j]?=some s->(Z.tok s.l=true↔aS=some j))/\ef (jj Z base cH w1.heap.size aS) k):Inv Z Q Stop base cH bB w1 k:=by
 have v:∀b,r1.X.mine b->r.X.mine b\/(w.heap.size<=b/\b<w1.heap.size):=λb c=>by rw[B]at c;exact c
 obtain⟨A,z,y,_⟩:=h.parts G hi g hk v;obtain⟨C,D⟩:=h.kept G hi hk;refine⟨λj s a=>?_,by rw[g.ls];grind,u,λj s a=>?_,A,z,y,λj s a h0 c=>?_,ht,by rw[g.len];grind⟩
 .by_cases e:j=i
  .subst e;rw[g.at_]at a;grind
  grind
 .by_cases e:j=i
  .subst e;rw[g.at_]at a;cases a;subst m;exact⟨⟨λ_ _=>Y,vad _,Y⟩,.refl _,Y,Y⟩
  .obtain⟨s0,l,rfl⟩:=g.other e a;obtain⟨n,q,p,o⟩:=h.rely j s0 l;refine⟨⟨λb c=>?_,vac n.size hk.size,?_⟩,q.trans hk.os,hk.output.trans p,hk.tape.trans o⟩
   .rw[<-n.heap b c];grind
   .rw[<-n.env];obtain⟨d,hd⟩:=hk.os;rw[hd]
 .by_cases e:j=i
  .subst e;exact absurd (h.old j r hi h0 c).1 x
  .obtain⟨s0,l,rfl⟩:=g.other e a;exact h.old j s0 l h0 c
theorem am1(w1:aH):∀{x:uaf},x.offers=none->x.status=.running->({x with status:=.blocked}:uaf).again w1=x:=by rintro⟨a,b,c,d,e⟩ g f;grind[Goroutine.again]
theorem ui.woken{m:Bool}{d:Nat}{s:cB Z}(G:Z.Good)(h:ui Z Q Stop m γ d s){w1:aH}(hrun:g1.status=.running)(c:Z.dM s.l γ bB)(l:mayWake Q g=true\/(Z.oH s.l γ->Z.oH s.l bB)):
 ui Z Q Stop m bB d {s with g:=woken Q g g1 w1 s.g}:=by
 have n:(mayWake Q g&&g1.status != .blocked&&g1.status != .waiting)=mayWake Q g:=AJ;cases h with
 |runs hg b ht hn hd h0 a=>
  have e:Go.Conc.woken Q g g1 w1 s.g=s.g:=by grind[Go.Conc.woken,again_running]
  rw[e];exact .runs hg b (ht.k9 G c) hn hd h0 a
 |waits hg b j ht hn f hd h0 a=>
  cases k:mayWake Q g with
  |true=>
   have e:Go.Conc.woken Q g g1 w1 s.g=s.X.g:=by grind[Go.Conc.woken,am1]
   rw[e];exact .runs Y b (ht.k9 G c) (λ_=>hn) hd h0 a
  |false=>
   have e:Go.Conc.woken Q g g1 w1 s.g=s.g:=by grind[Go.Conc.woken]
   rw[e];exact .waits hg b j (ht.k9 G c) hn AJ hd h0 a
 |leaves i hq a hs=>rw[woken_quitsD hq];exact .leaves i hq a hs
end
end
section
section
variable{Z:eX}{Q:cf}{Stop:Bool->Z.Lo->aX->Prop}{base:Nat}{rs cH:List (cB Z)}{γ bB:Z.aN}{w w1:aH}{t:Trace}
def am2{e:Event}(h:e.mute=true):∃m,(MemAct.ofEvent e)=.mark m/\AV m:=by
 obtain⟨loc,wr,a⟩:=e;cases loc<;>simp_all[Event.mute]
 grind[MemAct.ofEvent,AV]
theorem ef.mute{p:jM}{i:Nat}(hi:i<p.n)(fn:uah)(pos:String):∀(l:ubk){t:Trace},ef p t->(∀e∈l,e.mute=true)->ef p (t++MemOp.ofEvents i fn pos l.toArray)
 | [],t,h,_=>by grind[ofEvents_eq]
 |e::l,t,h,d=>by
  obtain⟨m,c,b⟩:=am2 (d e AQ);have:=ef.mute hi fn pos l (h.word (y:={g:=i,fn,pos,act:=.ofEvent e}) hi (by rw[c];cases m<;>simp[AV]at b<;>rfl) (λa=>by rw[c];cases m<;>simp[AV]at b<;>simp)) AJ
  rw[ofEvents_eq]at this⊢;have f:t++#[({g:=i,fn,pos,act:=.ofEvent e}:MemOp)]++Array.map (λe=>({g:=i,fn,pos,act:=.ofEvent e}:MemOp)) l.toArray=t++Array.map (λe=>({g:=i,fn,pos,act:=.ofEvent e}:MemOp)) (e::l).toArray:=by apply Array.ext';simp
  rw[f]at this;exact this
def uj(rs:List (cB Z))(γ:Z.aN):List (Bool×Z.Lo×Z.aN×aX):=rs.mapIdx λj r=>(j==0,r.l,γ,r.X)
def Ng(rs:List (cB Z)):Nat:=(rs.map (·.n)).sum
def yL(g:uaf):Nat:=match g.status with| .running=>1| _=>0
def ib(rs:List (cB Z)):Nat:=(rs.map λr=>yL r.g).sum
def meas(rs:List (cB Z))(γ:Z.aN):Nat×List (Bool×Z.Lo×Z.aN×aX)×Nat×Nat:=(Z.a6 γ,uj rs γ,Ng rs,ib rs)
theorem Gm:∀(l:uad)(i x:Nat)(h:i<l.length),(l.set i x).sum+l[i]=l.sum+x
 |a::l,0,x,_=>AJ
 |a::l,i+1,x,h=>by have:=Gm l i x Fa;simp;omega
theorem Gn(rs:List (cB Z))(γ:Z.aN)(j:Nat):(uj rs γ)[j]?=(rs[j]?).map λr=>(j==0,r.l,γ,r.X):=by simp[uj]
def aai{i:Nat}{r1:cB Z}(h:Row rs cH i r1 f)(γ:Z.aN):uj cH γ=(uj rs γ).set i (i==0,r1.l,γ,r1.X):=by
 apply vbw;intro j;by_cases b:j=i
 .subst b;have a:j<(uj rs γ).length:=by obtain⟨x,_⟩:=vab.1 h.at_;simp[uj,<-h.len,x]
  rw[Gn,h.at_,vcd a];rfl
 .rw[vbb (Ne.symm b),Gn,Gn,h.k9 j b,Option.map_map];rfl
def Inv.am3(G:Z.Good)(h:Inv Z Q Stop base rs γ w t):Acc (yI (Nb Z Q Stop)) (uj rs γ):=by refine amF _ λx c=>?_;obtain⟨j,a⟩:=List.mem_iff_getElem?.1 c;rw[Gn]at a;obtain⟨r,d,rfl⟩:=vak.1 a;cases h.sits j r d with|runs _ _ ht _ _ _ _=>exact ht.acc G|waits _ _ _ ht _ _ _ _ _=>exact ht.acc G|leaves e hq f hs=>exact⟨_,λy b=>absurd hs b.1⟩
def SH(a:∀l X,Stop false l X->Z.Left l/\∃n,QuitsD Q n (Z.deaf l) X.g){m:Bool}{l1:Z.Lo}{xw:aX}(b:xw.g.status=.running)(ht:bf Z Q Stop m l1 bB xw)(e:Z.Left l1->m=false/\Stop m l1 xw):∃n,ui Z Q Stop m bB (Z.deaf l1) ⟨xw.g,l1,xw,n⟩:=by
 by_cases hs:m=false/\Stop m l1 xw
 .obtain⟨rfl,hs⟩:=hs;obtain⟨d,n,c⟩:=a l1 xw hs;exact⟨n,.leaves Y c d hs⟩
 .exact⟨0,.runs Y b ht AJ Y Y AJ⟩
def am4{i:Nat}{r:cB Z}(hi:rs[i]?=some r)(b:Z.p7 γ (rs.map (·.l))){l1:Z.Lo}(a:CM Z r.l γ l1 bB):Z.p7 bB ((rs.map (·.l)).set i l1)/\∀(j:Nat)(s:cB Z),j≠i->rs[j]?=some s->Z.dM s.l γ bB:=by obtain⟨e,d⟩:=a.2 (rs.map (·.l)) i AJ b;exact⟨e,λj s c hs=>d j s.l c AJ⟩
theorem CR(rs:List (cB Z))(j:Nat):(kM Z rs)[j]?=(rs[j]?).map (·.g):=by simp[kM]
def SI(Z:eX)(Stop:Bool->Z.Lo->aX->Prop)(rs:List (cB Z)):Prop:=∃r,rs[0]?=some r/\Stop true r.l r.X/\r.g=r.X.g
theorem Inv.at(h:Inv Z Q Stop base rs γ w t)(G:Z.Good)(d:Nat):Inv Z Q Stop base rs γ (w.at d) t:=
 ⟨h.sits,h.ud,G.mt γ w (w.at d) (λ_ _=>Y) h.mt,λj r a=>⟨kn.at (h.rely j r a).1 d,(h.rely j r a).2⟩,h.sh,h.apart,h.low,h.old,h.aS,h.amU⟩
def Inv.goes(G:Z.Good)(e:∀l X,Stop false l X->Z.Left l/\∃n,QuitsD Q n (Z.deaf l) X.g)(h:Inv Z Q Stop base rs γ w t){i:Nat}{r:cB Z}(hi:rs[i]?=some r)(c:¬Z.Left r.l)(hd:Deaf t i=Z.deaf r.l){l1:Z.Lo}(hk:lE Z r.X.mine w w1)(g:Z.ug bB w1)(b:Z.p7 bB ((rs.map (·.l)).set i l1))(C:∀(j:Nat)(s:cB Z),j≠i->rs[j]?=some s->Z.dM s.l γ bB)(hrun:g1.status=.running)(z:Says Z r.l l1 (grown r.X.mine w w1) es)(B:mayWake Q r.g=true\/∀l,Z.oH l γ->Z.oH l bB)(ht:bf Z Q Stop (i==0) l1 bB ⟨g1,w1,grown r.X.mine w w1⟩)(p:Z.Left l1->(i==0)=false/\Stop (i==0) l1 ⟨g1,w1,grown r.X.mine w w1⟩)(fn:uah)(pos:String):
 ∃cH,kM Z cH=((kM Z rs).map (woken Q r.g g1 w1)).setIfInBounds i g1/\Inv Z Q Stop base cH bB w1 (t++MemOp.ofEvents i fn pos es)/\uj cH γ=(uj rs γ).set i (i==0,l1,γ,⟨g1,w1,grown r.X.mine w w1⟩):=by
 obtain⟨n,y⟩:=SH e (m:=i==0) (l1:=l1) (xw:=⟨g1,w1,grown r.X.mine w w1⟩) hrun ht p;let r1:cB Z:=⟨g1,l1,⟨g1,w1,grown r.X.mine w w1⟩,n⟩
 have a:=Nc rs hi r1 (woken Q r.g g1 w1);have D:i<rs.length:=(vab.1 hi).1;obtain⟨o,E⟩:=h.says (r1:=r1) (es:=es) G hi c a hk Y hd (λ_ v k s A x f=>A (G.one bB _ k i s.l l1 b AJ AJ f v)) z fn pos;refine⟨_,SF rs i r1 _,h.own (r1:=r1) G hi c a Y hk Y b g (λj s d hs=>?_) AJ o,aai a γ⟩;obtain⟨s0,u,rfl⟩:=a.other d hs;rw[Deaf_other t (g':=i) (Ne.symm d) _ (λop q=>by grind[ofEvents_eq])];exact(h.sits j s0 u).woken G hrun AJ AJ
end
end
section
section
variable{Z:eX}{Q:cf}{Stop:Bool->Z.Lo->aX->Prop}{base:Nat}{rs cH:List (cB Z)}{γ bB:Z.aN}{w w1:aH}{t:Trace}
def am6{i:Nat}{r r1:cB Z}(hi:rs[i]?=some r)(h:Row rs cH i r1 f)(k:r1.l=r.l)(l:r1.X=r.X){size:Nat}{aS:ubc}(g:ef (jj Z base rs size aS) t):ef (jj Z base cH size aS) t:=by
 refine g.conv h.len Y Kj Y ?_ Y Y Y Y Y ?_
 .rintro j b ⟨s,a,e⟩;by_cases c:j=i
  .subst c;rw[h.at_]at a;cases a;exact .inl ⟨r,hi,AJ⟩
  .obtain⟨s0,d,rfl⟩:=h.other c a;exact .inl ⟨s0,d,e⟩
 .rintro j ⟨s,a,e⟩;by_cases c:j=i
  .subst c;rw[h.at_]at a;cases a;exact⟨r,hi,AJ⟩
  .obtain⟨s0,d,rfl⟩:=h.other c a;exact⟨s0,d,e⟩
def Inv.record(h:Inv Z Q Stop base rs γ w t){i:Nat}{r r1:cB Z}(hi:rs[i]?=some r)(d:Row rs cH i r1 f)(q:r1.l=r.l)(v:r1.X=r.X){e:Trace}(x:∀(j:Nat)(s:cB Z),j≠i->cH[j]?=some s->ui Z Q Stop (j==0) γ (Deaf e j) s)(y:ui Z Q Stop (i==0) γ (Deaf e i) r1)(u:∀size aS,ef (jj Z base rs size aS) t->ef (jj Z base rs size aS) e):Inv Z Q Stop base cH γ w e:=by
 have z:i<rs.length:=(vab.1 hi).1;have back:∀(j:Nat)(s:cB Z),cH[j]?=some s->∃s0,rs[j]?=some s0/\s.l=s0.l/\s.X=s0.X:=by
  intro j s a;by_cases g:j=i
  .subst g;rw[d.at_]at a;grind
  .obtain⟨s0,b,rfl⟩:=d.other g a;grind
 refine⟨λj s a=>?_,?_,h.mt,λj s a=>?_,λj s a=>?_,λj k s s' a hk l=>?_,h.low,λj s a=>?_,?_,by rw[d.len];grind⟩
 .by_cases g:j=i
  .subst g;rw[d.at_]at a;grind
  grind
 .have:(rs.map (·.l)).set i r1.l=rs.map (·.l):=by apply vbw;grind
  rw[d.ls,this];exact h.ud
 .obtain⟨s0,c,_,b⟩:=back j s a;rw[b];exact h.rely j s0 c
 .obtain⟨s0,c,_,b⟩:=back j s a;rw[b];exact h.sh j s0 c
 .obtain⟨s0,c,_,b⟩:=back j s a;obtain⟨o,p,_,n⟩:=back k s' hk;rw[b,n];exact h.apart j k s0 o c p l
 .obtain⟨s0,c,m,b⟩:=back j s a;rw[m,b];exact h.old j s0 c
 .obtain⟨aS,c,m⟩:=h.aS;refine⟨aS,λj s a=>?_,am6 hi d q v (u _ _ m)⟩;grind
def aak{i:Nat}{r r1:cB Z}(hi:rs[i]?=some r)(h:Row rs cH i r1 f):Ng cH+r.n=Ng rs+r1.n:=by
 obtain⟨c,b⟩:=vab.1 hi;have e:cH.map (·.n)=(rs.map (·.n)).set i r1.n:=by
  apply vbw;intro j;by_cases a:j=i
  .subst a;rw[vcd AJ,vbg,h.at_];rfl
  .rw[vbb (Ne.symm a),vbg,vbg,h.k9 j a,Option.map_map];rfl
 grind[Gm,Ng]
def am7{i:Nat}{r r1:cB Z}(hi:rs[i]?=some r)(h:Row rs cH i r1 id):ib cH+yL r.g=ib rs+yL r1.g:=by
 obtain⟨c,b⟩:=vab.1 hi;have e:(cH.map λr=>yL r.g)=(rs.map λr=>yL r.g).set i (yL r1.g):=by
  apply vbw;intro j;by_cases a:j=i
  .subst a;rw[vcd AJ,vbg,h.at_];rfl
  .rw[vbb (Ne.symm a),vbg,vbg,h.k9 j a,Option.map_map];rfl
 grind[Gm,ib]
def aal{i:Nat}{r r1:cB Z}(hi:rs[i]?=some r)(h:Row rs cH i r1 f)(a:r1.l=r.l)(c:r1.X=r.X):uj cH γ=uj rs γ:=by
 rw[aai h γ];apply vbw;intro j;by_cases b:j=i
 .grind[Gn]
 grind
def am8(h:g1.status=.blocked)(w1:aH):woken Q g g1 w1=id:=by grind[woken]
def aam{i:Nat}{fn:uah}{pos:String}:∀op∈MemOp.ofEvents i fn pos es,op.g=i:=λop a=>by grind[ofEvents_eq]
theorem ui.k9{m:Bool}{d:Nat}{s:cB Z}(G:Z.Good)(h:ui Z Q Stop m γ d s)(e:Z.dM s.l γ bB)(f:Z.oH s.l γ->Z.oH s.l bB):ui Z Q Stop m bB d s:=by cases h with|runs hg c ht hn hd h0 a=>exact .runs hg c (ht.k9 G e) hn hd h0 a|waits hg c i ht hn b hd h0 a=>exact .waits hg c i (ht.k9 G e) hn (f b) hd h0 a|leaves g hq a hs=>exact .leaves g hq a hs
def Inv.am9(G:Z.Good)(K:∀l X,Stop false l X->Z.Left l/\∃n,QuitsD Q n (Z.deaf l) X.g)(h:Inv Z Q Stop base rs γ w t)(xf:base<=rs.length){r:cB Z}(hi:rs[0]?=some r)(W:¬Z.Left r.l)(hd:Deaf t 0=Z.deaf r.l){l1 lc:Z.Lo}{child:uaf}(a:SD Z r.l γ r.X w g1 child w1 es l1 bB lc)(ht:bf Z Q Stop true l1 bB ⟨g1,w1,grown r.X.mine w w1⟩)(Y:bf Z Q Stop false lc bB ⟨child,w1,λ_=>False⟩)(fn q:uah)(pos pos':String):
 ∃cH,kM Z cH=((kM Z rs).setIfInBounds 0 g1).push child/\Inv Z Q Stop base cH bB w1 (t++((MemOp.ofEvents 0 fn pos es).push {g:=0,fn,pos,act:=.go rs.length} |>.push {g:=rs.length,fn:=q,pos:=pos',act:=.start})):=by
 obtain⟨n,am5⟩:=SH K (m:=true) (l1:=l1) (xw:=⟨g1,w1,grown r.X.mine w w1⟩) a.run ht (λh=>absurd h a.stays.1);obtain⟨bC,I⟩:=SH K (m:=false) (l1:=lc) (xw:=⟨child,w1,λ_=>False⟩) a.aad Y (λh=>absurd h a.stays.2);let r1:cB Z:=⟨g1,l1,⟨g1,w1,grown r.X.mine w w1⟩,n⟩
 let rc:cB Z:=⟨child,lc,⟨child,w1,λ_=>False⟩,bC⟩
 have o:=Nc rs hi r1 id;have H:(rs.map λs=>{s with g:=id s.g})=rs:=by simp_all
 rw[H]at o;have Jz:Says Z r.l l1 (grown r.X.mine w w1) es:=.inl ⟨a.tok.1,a.past.1,by rw[a.deaf.1,a.deaf.2.1,a.deaf.2.2.1],by rw[a.deaf.1];exact a.evs⟩;obtain⟨⟨aS,Nf,B⟩,CS⟩:=h.says (r1:=r1) (es:=es) G hi W o a.keep rfl hd (λh0 p _ _ _ _ _=>by rw[show r1.l=l1 from rfl,a.tok.1,h0]at p;cases p) Jz fn pos;have V:∀b,r1.X.mine b->r.X.mine b\/(w.heap.size<=b/\b<w1.heap.size):=λb a=>a;obtain⟨hB,hC,hD,_⟩:=h.parts G hi o a.keep V;obtain⟨amZ,am0⟩:=h.kept G hi a.keep;obtain⟨nu,T⟩:=a.AY (rs.map (·.l)) AJ h.ud;have hlen:(rs.set 0 r1).length=rs.length:=AQ;generalize F:rs.set 0 r1=C at o B Nf hB hC hlen;have iF:∀(j:Nat)(s:cB Z),(C++[rc])[j]?=some s->(j<rs.length/\C[j]?=some s)\/(j=rs.length/\s=rc):=by grind[List.getElem?_append_right]
 have e1:t++((MemOp.ofEvents 0 fn pos es).push {g:=0,fn,pos,act:=.go rs.length} |>.push {g:=rs.length,fn:=q,pos:=pos',act:=.start})=(t++MemOp.ofEvents 0 fn pos es)++#[({g:=0,fn,pos,act:=.go rs.length}:MemOp),{g:=rs.length,fn:=q,pos:=pos',act:=.start}]:=by apply Array.ext';simp
 rw[e1];generalize L:#[({g:=0,fn,pos,act:=.go rs.length}:MemOp),{g:=rs.length,fn:=q,pos:=pos',act:=.start}]=u;have E:∀j,Deaf ((t++MemOp.ofEvents 0 fn pos es)++u) j=Deaf (t++MemOp.ofEvents 0 fn pos es) j:=λj=>by have:=Deaf_append (t++MemOp.ofEvents 0 fn pos es) j u.toList;rw[Array.toArray_toList]at this;rw[this,<-L];rfl
 have O:Deaf (t++MemOp.ofEvents 0 fn pos es) rs.length=0:=Deaf_absent λi op hi e=>by have:=B.gs i op hi;grind[jj]
 refine⟨C++[rc],?_,⟨λj s f=>?_,?_,a.mt,λj s f=>?_,λj s f=>?_,λj k s s' f hk U b XY aFE=>?_,hD,λj s f h0 Gp=>?_,?_,AQ⟩⟩
 .rw[<-F];unfold kM;rw[List.setIfInBounds_toArray,List.push_toArray,List.map_append,List.map_set];rfl
 .rw[E];rcases iF j s f with⟨v,c⟩|⟨rfl,rfl⟩
  .by_cases h0:j=0
   .grind
   .obtain⟨s0,z,rfl⟩:=o.other h0 c;rw[Deaf_other t (g':=0) (Ne.symm h0) _ aam];exact(h.sits j s0 z).k9 G (T j s0.l h0 AJ) (a.Jx s0.l)
  .rw[O];have:(rs.length==0)=false:=by grind
   rw[this];have N:=I;rw[a.deaf.2.2.2]at N;exact N
 .rw[List.map_append,o.ls];grind
 .rcases iF j s f with⟨v,c⟩|⟨rfl,rfl⟩
  .by_cases h0:j=0
   .subst h0;rw[o.at_]at c;cases c;exact⟨⟨λ_ _=>rfl,vad _,rfl⟩,.refl _,rfl,rfl⟩
   .obtain⟨s0,z,rfl⟩:=o.other h0 c;obtain⟨J,S,R,P⟩:=h.rely j s0 z;refine⟨⟨λb gT=>?_,vac J.size a.keep.size,?_⟩,S.trans a.keep.os,a.keep.output.trans R,a.keep.tape.trans P⟩
    .rw[<-J.heap b gT];grind
    .rw[<-J.env];obtain⟨d,hd⟩:=a.keep.os;rw[hd]
  .exact⟨⟨λ_ _=>rfl,vad _,rfl⟩,.refl _,rfl,rfl⟩
 .grind
 .grind
 .rcases iF j s f with⟨v,c⟩|⟨rfl,rfl⟩
  .obtain⟨s0,z,rfl⟩:=o.other h0 c;exact h.old j s0 z h0 Gp
  .omega
 .have D:Deaf (t++MemOp.ofEvents 0 fn pos es) 0=0:=by rw[CS];exact a.deaf.2.2.1
  have aFF:(jj Z base C w1.heap.size aS).n=rs.length:=hlen;have M:=B.amQ (x:={g:=0,fn,pos,act:=.go rs.length}) (y:={g:=rs.length,fn:=q,pos:=pos',act:=.start}) AJ AJ D AJ
   (λb⟨s,p,_⟩=>AJ)
  rw[L]at M;refine⟨aS,λj s f=>?_,M.conv (by simp[jj]) rfl Kj rfl ?_ rfl rfl rfl rfl rfl ?_⟩
  .rcases iF j s f with⟨_,c⟩|⟨rfl,rfl⟩
   .grind
   .rw[show rc.l=lc from rfl,a.tok.2];refine⟨AJ,λe=>?_⟩;have:=(B.ue _ e).1.1;grind
  .rintro j b ⟨s,p,A⟩;rcases iF j s p with⟨_,c⟩|⟨rfl,rfl⟩
   .exact .inl ⟨s,c,A⟩
   grind
  .rintro j ⟨s,p,A⟩;rcases iF j s p with⟨_,c⟩|⟨rfl,rfl⟩
   .exact⟨s,c,A⟩
   .rw[show rc.l=lc from rfl,a.past.2]at A;cases A
end
end
section
section
variable{Z:eX}{Q:cf}{Stop:Bool->Z.Lo->aX->Prop}{base:Nat}{rs cH:List (cB Z)}{γ bB:Z.aN}{w w1:aH}{t:Trace}
def anf{n d:Nat}(h:QuitsD Q n d g):awake g:=λx e=>by rcases h.status with h|h<;>rw[h]at e<;>cases e
theorem Inv.awake(h:Inv Z Q Stop base rs γ w t):∀g∈kM Z rs,awake g:=by intro g hg;obtain⟨j,a⟩:=Array.mem_iff_getElem?.1 hg;rw[CR]at a;obtain⟨r,b,rfl⟩:=vak.1 a;cases h.sits j r b with|runs hg c _ _ _ _ _=>intro x e;grind|waits hg _ _ _ _ _ _ _ _=>intro x e;grind|leaves _ hq _ _=>exact anf hq
def Inv.rel(h:Inv Z Q Stop base rs γ w t){j:Nat}{r:cB Z}(a:rs[j]?=some r):dN Z r.l γ r.X w:=
 let⟨e,d,c,b⟩:=h.rely j r a
 ⟨e,h.mt,⟨rs.map (·.l),j,AJ,h.ud⟩,d,c,b⟩
theorem Inv.step(G:Z.Good)(C:∀l X,Stop false l X->Z.Left l/\∃n,QuitsD Q n (Z.deaf l) X.g)(h:Inv Z Q Stop base rs γ w t)(U:base<=rs.length)(sl:uba):
 SI Z Stop rs\/∃cH T w' sl' ops,stepT Q (crowd (kM Z rs) w sl)=(.next (crowd (kM Z cH) w' sl'),ops)/\CO (Nb Z Q Stop) (meas cH T) (meas rs γ)/\Inv Z Q Stop base cH T w' (t++ops)/\base<=cH.length:=by
 by_cases cR:SI Z Stop rs
 .grind
 refine .inr ?_;obtain⟨j,l,R,aFH,aFI⟩:=G.ov γ _ h.ud;rw[vbg]at R;obtain⟨L,SK,rfl⟩:=vak.1 R;have K:L.g.status=.running:=by cases h.sits j L SK with|runs hg D _ _ _ _ _=>grind|waits _ _ _ _ _ B _ _ _=>grind|leaves _ _ c _=>grind
 obtain⟨i,g,d,sl',hi,aFJ,hst⟩:=crowd_pick (P:=Q) (w:=w) (sl:=sl) h.awake ⟨j,L.g,by grind[CR],K⟩;rw[CR]at hi;obtain⟨r,a,rfl⟩:=vak.1 hi;have F4:i<rs.length:=(vab.1 a).1;have f:=h.at G d;rw[hst];have M:(kM Z rs)[i]?=some r.g:=by grind[CR]
 have aFK:yL r.g=1:=by grind[yL]
 cases h.sits i r a with
 |runs hg D ht hn hd h0 c=>
  rcases ht.next with hs|⟨_,cx⟩
  .exfalso;rcases vbn i with e|e
   .subst e;exact cR ⟨r,a,hs,hg⟩
   grind
  .cases cx (w.at d) γ (G.refl _ _) (f.rel a)with
   |quiet q hq u=>
    rename_i g1 w1 es;rw[<-hg]at q;have W:Z.ug γ w1:=by refine G.mt γ (w.at d) w1 (λb v=>?_) f.mt;exact hq.sh b (f.low b (.inr v)) v
    have Jz:Says Z r.l r.l (grown r.X.mine (w.at d) w1) es:=by
     refine .inl ⟨rfl,rfl,?_,hq.evs⟩;have:∀(l:ubk)(d:Nat),(∀e∈l,¬vw Z e)->deafBehind d l.toArray=d:=by intro l;induction l with|nil=>intro d _;rfl|cons e l ih=>intro d c;have he:=c e AQ;have h1:=ih d (λe' f=>c e' AJ);grind[deafBehind,vw]
     exact(this es.toList (Z.deaf r.l) (λe he B=>hq.low (.inl AJ))).symm
    have J:(rs.map (·.l)).set i r.l=rs.map (·.l):=by apply vbw;grind
    obtain⟨cH,z,y,S⟩:=f.goes G C a c hd hq.keep W (by rw[J];exact h.ud) (λ_ s _ _=>G.refl _ _) hq.run Jz AJ u AJ r.g.frame.fn r.g.frame.place;refine⟨cH,γ,w1,sl',_,by grind[runT_crowd_go],?_,y,?_⟩
    .refine .inr ⟨rfl,.inl ⟨⟨i,(i==0,r.l,γ,r.X),(i==0,r.l,γ,⟨g1,w1,grown r.X.mine (w.at d) w1⟩),by grind[meas,Gn],?_,S⟩,h.am3 G⟩⟩;refine⟨?_,rfl,rfl,rfl,w.at d,g1,w1,es,f.rel a,AJ,hq.run,hq.low,rfl⟩;intro hs;rcases vbn i with e|e
     .subst e;exact cR ⟨r,a,hs,hg⟩
     grind
    .have:=vbp Array.size z;grind[kM]
   |turn q hq iX u=>rename_i g1 w1 es l1 bB;obtain⟨k1,k2⟩:=am4 a f.ud hq.AY;obtain⟨cH,z,y,S⟩:=f.goes G C a c hd hq.keep hq.mt k1 k2 hq.run hq.says (by rw[hg];exact hq.Jx) u iX r.g.frame.fn r.g.frame.place;rw[<-hg]at q;refine⟨cH,bB,w1,sl',_,by grind[runT_crowd_go],.inl hq.AY.1,y,?_⟩;have:=vbp Array.size z;grind[kM]
   |wait q N B _=>
    rw[<-hg]at q;let r1:cB Z:={r with g:={r.X.g with status:=.blocked}}
    have m:=Nc rs a r1 id;have Y:¬Stop (i==0) r.l r.X:=by
     intro hs;rcases vbn i with e|e
     .subst e;exact cR ⟨r,a,hs,hg⟩
     grind
    refine⟨_,γ,w.at d,sl',_,by rw[runT_crowd_go M q,am8 (by rw[hg]),SF rs i r1 id,hg],?_,?_,?_⟩
    .refine .inr ⟨rfl,.inr ⟨aal a m rfl rfl,.inr ⟨?_,?_⟩⟩⟩
     .have:=aak a m;simp only[meas];grind
     .have:=am7 a m;simp only[meas];have e:yL r1.g=0:=rfl;omega
    .have H:∀fn pos,MemOp.ofEvents i fn pos #[]=#[]:=λ_ _=>by rw[ofEvents_eq];simp
     rw[H,Array.append_empty];refine f.record a m rfl rfl (λk s hk hs=>?_) (.waits rfl D N ht Y B hd h0 c) (λ_ _ x=>x);obtain⟨s0,F,rfl⟩:=m.other hk hs;exact h.sits k s0 F
    grind
   |born O q v u hc=>rename_i g1 child w1 es l1 bB lc;have H:i=0:=AJ;subst H;rw[<-hg]at q;obtain⟨cH,z,y⟩:=f.am9 G C U a c hd v u hc r.g.frame.fn child.frame.fn r.g.frame.place r.g.frame.place;refine⟨cH,bB,w1,sl',_,by grind[runT_crowd_spawn,kM],.inl v.a6,y,?_⟩;have:=vbp Array.size z;grind[kM]
 |waits hg D N ht hn B hd h0 c=>grind
 |leaves O hq c hs=>
  obtain⟨g,l,X,n⟩:=r;cases n with
  |zero=>have:=hq.1;grind
  |succ n=>
   rcases hq with⟨hf,_⟩|⟨_,g',es,aFL,q,E⟩
   .grind
   .let r1:cB Z:=⟨g',l,X,n⟩
    have I:stepG Q (i==0) g (w.at d)=.go g' (w.at d) es:=AJ;have m:=Nc rs a r1 (woken Q g g' (w.at d));have nS:i≠0:=AJ;refine⟨_,γ,w.at d,sl',_,by rw[runT_crowd_go M I,SF rs i r1],?_,?_,?_⟩
    .refine .inr ⟨rfl,.inr ⟨aal a m rfl rfl,.inl ?_⟩⟩;have:=aak a m;simp only[meas];grind
    .refine f.record a m rfl rfl (λk s hk V=>?_) (.leaves O (by grind[Deaf_own]) c hs) (λsize aS hT=>?_)
     .obtain⟨s0,F,rfl⟩:=m.other hk V;rw[Deaf_other t (g':=i) (Ne.symm hk) _ aam];have A:g'.status=.running\/g'.status=.finished:=E.status;have key:=h.sits k s0 F;rcases A with A|A
      .exact key.woken G A (G.refl _ _) (.inr id)
      .have eqv:∀o,woken Q g g' (w.at d) o=woken Q g {g' with status:=.running} (w.at d) o:=λo=>by grind[woken]
       rw[eqv];exact key.woken G (g1:={g' with status:=.running}) rfl (G.refl _ _) (.inr id)
     .have:=ef.mute (p:=jj Z base rs size aS) (i:=i) F4 g.frame.fn g.frame.place es.toList hT AJ;omega
    grind
def phase(G:Z.Good)(c:∀l X,Stop false l X->Z.Left l/\∃n,QuitsD Q n (Z.deaf l) X.g)(h:Inv Z Q Stop base rs γ w t)(g:base<=rs.length)(sl:uba):
 vx Q (crowd (kM Z rs) w sl) t λd cJ=>∃cH b w' sl',d=crowd (kM Z cH) w' sl'/\SI Z Stop cH/\Inv Z Q Stop base cH b w' cJ/\base<=cH.length:=by
 refine amS (amT (Nb Z Q Stop)) (λa m t=>∃rs γ w sl,m=crowd (kM Z rs) w sl/\a=meas rs γ/\Inv Z Q Stop base rs γ w t/\base<=rs.length) _ ?_ (meas rs γ) _ _ AJ;rintro a m t ⟨rs,γ,w,sl,rfl,rfl,f,e⟩;rcases f.step G c e sl with hs|⟨cH,b,w',sl',ops,o,k,j,i⟩
 .grind
 grind
