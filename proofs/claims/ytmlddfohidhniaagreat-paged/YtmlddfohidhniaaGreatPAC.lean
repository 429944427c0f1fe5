import Derived.WalkSpells
import Derived.WalkLawsBesides
import Derived.Deep.AppendLies
import Derived.RangeFuncNested
import Derived.Conc.HoldsTime
import Derived.Test.YtmlddfohidhniaaGreatPAB
set_option linter.all false
set_option maxRecDepth 100000
set_option maxHeartbeats 16000000
namespace Go.Proofs.YtmlddfohidhniaaGreat
abbrev cJ(w v:Go.World):Prop:=Go.RowKit.Below w.heap.size w v
def vaa:=@Go.RowKit.Below.refl
def vaq:=@Go.RowKit.Below.heap_setCell
def vat:=@Go.World.putObj_heap_other
def vaz:=@Go.World.alloc_heap_new
def vbp:=@Go.World.ownsRow_nil
def vbs:=@Go.Conc.mem_listed
def vbu:=@Go.bodyPost_ret
def vbx:=@Go.Conc.stepG_mark0
def vch:=@Go.info_parts
def vci:=@Go.RowKit.Below.heap_alloc
def vcu:=@Go.Conc.stepG_markAt
def vcv:=@Go.KeepsOthers.setCell
def vcz:=@Go.World.putObj_heap_same
def vdi:=@Go.World.cell?_of_block
def vdl:=@Go.World.ownsRow.lt
def vds:=@Go.Conc.enter_at
def vdy:=@Go.Conc.seen_none
def vdz:=@Go.Addr.add_lit
def vem:=@Go.Conc.stepG_unwind_enter
namespace ax
def r7:Option Code->Bool
 |none=>true
 |some .ret=>true
 | _=>false
variable{aQ fr:Frame}{a9 b0 cs:fV}{w w' w1:aS}{g1:uah}{gv:uao}
section
variable{C:cH}{S:Sync}{ρ:Ren}
theorem ah3{main main':Bool}{base:fV}{l a:Nat}(jump:Option Code)(y:∀c,jump=some c->C.lV c)(q:et C ρ fr aQ)(m:iX C ρ cs a9)(p:iY fr cs)(u:eL C S ρ w w')(t:fr.roundOf=some l)(o:aQ.roundOf=some a)(h:GStep.after (seen C.P fr.fn ((Instr.endRound l jump).events C.P w #[])) (match(Instr.endRound l jump).run C.P w with
  | .ok v w=>doReturn C.P main fr (cs++b0) none v w
  | .halt _ w=>.ended (.stuck "range over a function: no such loop" (fr.pos C.P)) w)=.go g1 w1 gv)(f:(iH (match(Instr.endRound a jump).run C.Q w' with
  | .ok v w=>doReturn C.Q main' aQ (a9++base) none v w
  | .halt _ w=>.ended (.stuck "range over a function: no such loop" (aQ.pos C.Q)) w)).drawn<=S.bound):
 iI C S ρ b0 base w' g1 w1 (GStep.after (seen C.Q aQ.fn ((Instr.endRound a jump).events C.Q w' #[])) (match(Instr.endRound a jump).run C.Q w' with
  | .ok v w=>doReturn C.Q main' aQ (a9++base) none v w
  | .halt _ w=>.ended (.stuck "range over a function: no such loop" (aQ.pos C.Q)) w)):=by
 have D:ρ.rel l a:=by have:=q.roundOf;rw[t,o]at this;cases this;grind
 obtain⟨F,i⟩:=zw h;have kJ:Good ((Instr.endRound l jump).run C.P w):=by cases b:(Instr.endRound l jump).run C.P w with|ok v j=>trivial|halt x j=>grind
 have A:(k9 ((Instr.endRound a jump).run C.Q w')).drawn<=S.bound:=by cases b:(Instr.endRound a jump).run C.Q w' with|ok v j=>rw[b]at f;simp only[WZ]at f;exact f|halt x j=>rw[b]at f;exact f
 obtain⟨σ,E,k,g,B⟩:=ahx D jump y S w w' u kJ A;obtain⟨d,hd,s⟩:=B #[];rw[vdc]at hd;rw[hd];refine iI.after g (λe z=>s e (xy z)) ?_;generalize(Instr.endRound l jump).run C.P w=r at k i;generalize(Instr.endRound a jump).run C.Q w'=r' at k;cases k with
 |ok hv n=>cases m with|nil=>have:=p.2;grind|cons hc b=>exact W7 (q.mono g.le) (hc.mono g.le) (iX.mono g.le b) p.Qq n hv i
 |panic hv n=>cases i
 |goexit n=>cases i
def Lv{main main':Bool}{base:fV}(jump:Option Code)(p:∀c,jump=some c->C.lV c)(f:et C ρ fr aQ)(e:iX C ρ cs a9)(j:iY fr cs)(i:eL C S ρ w w')(L d:GStep)(k:fr.roundOf=none->L=(if r7 jump=true then .go {frame:={fr with mode:=.returning},callers:=cs++b0,status:=.running,dying:=none} w else .ended (.stuck "exit, goto: no such block or label" (fr.pos C.P)) w))(r:∀l,fr.roundOf=some l->L=GStep.after (seen C.P fr.fn ((Instr.endRound l jump).events C.P w #[])) (match(Instr.endRound l jump).run C.P w with
  | .ok v w=>doReturn C.P main fr (cs++b0) none v w
  | .halt _ w=>.ended (.stuck "range over a function: no such loop" (fr.pos C.P)) w))(n:aQ.roundOf=none->d=(if r7 jump=true then .go {frame:={aQ with mode:=.returning},callers:=a9++base,status:=.running,dying:=none} w' else .ended (.stuck "exit, goto: no such block or label" (aQ.pos C.Q)) w'))(m:∀l,aQ.roundOf=some l->d=GStep.after (seen C.Q aQ.fn ((Instr.endRound l jump).events C.Q w' #[])) (match(Instr.endRound l jump).run C.Q w' with
  | .ok v w=>doReturn C.Q main' aQ (a9++base) none v w
  | .halt _ w=>.ended (.stuck "range over a function: no such loop" (aQ.pos C.Q)) w))(h:L=.go g1 w1 gv)(q:(iH d).drawn<=S.bound):iI C S ρ b0 base w' g1 w1 d:=by
 have b:=f.roundOf;cases h0:fr.roundOf with
 |none=>
  cases a:aQ.roundOf with
  |some l=>rw[h0,a]at b;cases b
  |none=>
   rw[k h0]at h;rw[n a];split at h
   .rename_i g;rw[vby g];cases h;exact r6 (fr:=fr) e j i Y Y (f.uh .returning)
   grind
 |some l=>cases a:aQ.roundOf with|none=>rw[h0,a]at b;cases b|some o=>grind[zu,ah3]
theorem ah5(j:C.Good){main':Bool}{base:fV}(z:et C ρ fr aQ)(p:iX C ρ cs a9)(F:iY fr cs)(E:eL C S ρ w w')(h:stepG.exec C.P true true fr (cs++b0) none w=.go g1 w1 gv)(hrun:g1.status=.running)(V:g1.dying=none)(g:(iH (stepG.exec C.Q main' true aQ (a9++base) none w')).drawn<=S.bound):
 iI C S ρ b0 base w' g1 w1 (stepG.exec C.Q main' true aQ (a9++base) none w'):=by
 have ht:=z.todo;have lY:=z.eval E.nb;have aU:∀{t cA:il},mM C ρ t cA->iI C S ρ b0 base w' (a0 {fr with todo:=t} (cs++b0)) w (.go (a0 {aQ with todo:=cA} (a9++base)) w'):=λu=>r6 (fr:=fr) p F E rfl rfl (z.xz u);cases m:fr.todo with
 |nil=>
  cases q:aQ.todo with
  |cons a l=>rw[m,q]at ht;cases ht
  |nil=>
   refine Lv (main:=true) (main':=main') none (λc e=>Cn) z p F E (stepG.exec C.P true true fr (cs++b0) none w) _ ?_ ?_ ?_ ?_ h g
   .grind[stepG.exec,r7]
   .grind[stepG.exec,Sem.runT_eq]
   .grind[stepG.exec,r7]
   grind[stepG.exec,Sem.runT_eq]
 |cons i k=>
  cases q:aQ.todo with
  |nil=>rw[m,q]at ht;cases ht
  |cons i' k'=>
   rw[m,q]at ht;cases ht with
   |cons hi hk=>
    cases hi with
    |@code c hok=>
     have A:=(j.oC c).1 hok;cases c with
     |skip=>unfold stepG.exec at h⊢;simp only[m]at h;simp only[q];cases h;exact aU hk
     |label l=>unfold stepG.exec at h⊢;simp only[m]at h;simp only[q];cases h;exact aU hk
     |seq a b=>simp only[jR,vaf]at A;unfold stepG.exec at h⊢;simp only[m]at h;simp only[q];cases h;exact aU (.cons (.code ((j.oC _).2 A.1)) (.cons (.code ((j.oC _).2 A.2)) hk))
     |cond c a b=>
      simp only[jR,vaf]at A;unfold stepG.exec at h⊢;simp only[m]at h;simp only[q];have hv:=lY c A.1.1;generalize fr.eval c=v at h hv;generalize aQ.eval c=v' at hv;cases hv with
      |bool b=>
       cases h;refine aU (.cons (.code ?_) hk);cases b
       .exact(j.oC _).2 A.2
       .exact(j.oC _).2 A.1.2
      | _=>cases h
     |block id b=>unfold stepG.exec at h⊢;simp only[m]at h;simp only[q];cases h;exact aU (.cons (.code ((j.oC _).2 A)) (.cons (.inBlock id) hk))
     |loop b=>unfold stepG.exec at h⊢;simp only[m]at h;simp only[q];cases h;exact aU (.cons (.code ((j.oC _).2 A)) (.cons (.inLoop ((j.oC _).2 A)) hk))
     |scope b=>unfold stepG.exec at h⊢;simp only[m]at h;simp only[q];cases h;exact aU (.cons (.code ((j.oC _).2 A)) (.cons (.inScope ((j.oC _).2 A)) hk))
     |refuse s=>grind[stepG.exec]
     |ret=>
      refine Lv (main:=true) (main':=main') (some .ret) (λc e=>AA) z p F E (stepG.exec C.P true true fr (cs++b0) none w) _ ?_ ?_ ?_ ?_ h g
      .grind[stepG.exec,r7]
      .grind[stepG.exec,Sem.runT_eq]
      .grind[stepG.exec,r7]
      grind[stepG.exec,Sem.runT_eq]
     |exit id=>
      have u:=ahW id hk;cases O:exitTo id k with
      |some t=>cases L:exitTo id k' with|none=>rw[O,L]at u;cases u|some cA=>rw[O,L]at u;cases u with|some u=>unfold stepG.exec at h⊢;simp only[m,O,veb]at h;simp only[q,L,veb];cases h;exact aU u
      |none=>
       cases L:exitTo id k' with
       |some t=>rw[O,L]at u;cases u
       |none=>
        refine Lv (main:=true) (main':=main') (some (.exit id)) (λc e=>AA) z p F E (stepG.exec C.P true true fr (cs++b0) none w) _ ?_ ?_ ?_ ?_ h g
        .grind[stepG.exec]
        .grind[stepG.exec,Sem.runT_eq]
        .grind[stepG.exec,r7]
        grind[stepG.exec,Sem.runT_eq]
     |goto id=>
      have u:=ahZ j.oC id hk;cases O:gotoIn id k with
      |some t=>cases L:gotoIn id k' with|none=>rw[O,L]at u;cases u|some cA=>rw[O,L]at u;cases u with|some u=>unfold stepG.exec at h⊢;simp only[m,O,veb]at h;simp only[q,L,veb];cases h;exact aU u
      |none=>
       cases L:gotoIn id k' with
       |some t=>rw[O,L]at u;cases u
       |none=>
        refine Lv (main:=true) (main':=main') (some (.goto id)) (λc e=>AA) z p F E (stepG.exec C.P true true fr (cs++b0) none w) _ ?_ ?_ ?_ ?_ h g
        .grind[stepG.exec]
        .grind[stepG.exec,Sem.runT_eq]
        .grind[stepG.exec,r7]
        grind[stepG.exec,Sem.runT_eq]
     |region id ops draw=>
      simp only[jR,vam]at A;unfold stepG.exec at h g⊢;simp only[m]at h;simp only[q]at g⊢;cases draw with
      |false=>simp only[Bool.not_false,vdh]at h⊢;cases h;exact aU (.cons (.inRegion A _) hk)
      |true=>
       simp only[vef,vah,vee]at h g⊢;have eq:(Question.order aQ.fn id)=.order fr.fn id:=by rw[z.fn]
       rw[eq]at g⊢;rw[j.follows];have U:(k9 ((Go.choose (.order fr.fn id)).run C.Q w')).drawn<=S.bound:=by cases J:(Go.choose (.order fr.fn id)).run C.Q w' with|ok v H=>rw[J]at g;exact g|halt x H=>rw[J]at g;exact g
       have Z:=ap.choose (C:=C) (ρ:=ρ) (.order fr.fn id) S w w' E (by unfold Go.choose;simp only[Sem.run,Question.forced];trivial) U;obtain⟨σ,ta,D,B,_⟩:=Z;generalize(Go.choose (.order fr.fn id)).run C.P w=r at D h;generalize(Go.choose (.order fr.fn id)).run C.Q w'=r' at D;cases D with|ok ht Q=>subst ht;cases h;refine⟨σ,_,cs,_,a9,_,_,rfl,rfl,?_,iX.mono B.le p,F.same rfl rfl,Q,B,Ad⟩;exact(z.mono B.le).xz (.cons (.inRegion A _) (mM.mono B.le hk))|panic=>cases h|goexit=>cases h
     |rangeFunc f params assign body=>
      simp only[jR,vaf]at A;unfold stepG.exec at h g⊢;simp only[m,vau]at h;simp only[q,vau]at g⊢;obtain⟨j4,K⟩:=zw h;rw[zu]at g;have Qv:=WQ (C:=C) (ρ:=ρ) fr.fn z.known z.tmps params ((j.oC _).2 A.1.2) ((j.oC _).2 A.2) z.roundOf;have Qw:Instr.enterLoop aQ.fn aQ.tmps params assign body aQ.roundOf=Instr.enterLoop fr.fn aQ.tmps params assign body aQ.roundOf:=by rw[z.fn]
      rw[Qw]at g⊢;have U:(k9 ((Instr.enterLoop fr.fn aQ.tmps params assign body aQ.roundOf).run C.Q w')).drawn<=S.bound:=by cases J:(Instr.enterLoop fr.fn aQ.tmps params assign body aQ.roundOf).run C.Q w' with|ok v H=>rw[J]at g;exact vad (vad (A5 C.Q _ H).1 (EL C.Q _ _ none _ H)) g|halt x H=>rw[J]at g;exact g
      have kJ:Good ((Instr.enterLoop fr.fn fr.tmps params assign body fr.roundOf).run C.P w):=by cases J:(Instr.enterLoop fr.fn fr.tmps params assign body fr.roundOf).run C.P w with|ok v H=>trivial|halt x H=>grind
      obtain⟨σ,ta,D,B,cz⟩:=Qv S w w' E kJ U;obtain⟨d,hd,W⟩:=cz #[];rw[vdc]at hd;rw[hd];refine iI.after B (λe m=>W e (xy m)) ?_;generalize(Instr.enterLoop fr.fn fr.tmps params assign body fr.roundOf).run C.P w=r at D K;generalize(Instr.enterLoop fr.fn aQ.tmps params assign body aQ.roundOf).run C.Q w'=r' at D g;cases D with
      |@ok a b zp _ ez Q=>
       obtain⟨l,mark⟩:=a;obtain⟨N,HM⟩:=b;obtain⟨P,tc⟩:=ez;have I:=z.mono B.le;have ng:et C σ {fr with todo:=.inRangeFunc l::k,defers:=mark++fr.defers} {aQ with todo:=.inRangeFunc N::k',defers:=HM++aQ.defers}:=
        ⟨I.fn,I.known,I.tmps,.cons (.inRangeFunc P) (mM.mono B.le hk),cE.append tc I.defers,I.mode,I.kind,I.plain,I.roundOf⟩
       have Qx:=ng.eval Q.nb;refine Qs j.funcs ng (iX.mono B.le p) (F.same rfl rfl) Q ?_ (.inl j.Qt) (j.follows _) K hrun V g;refine .bind (R:=zo) ?_ λcm x y _ hd=>HJ j.same j.EO j.funcs hd.target hd.args;have Y:=Qx f A.1.1;simp only[resolve];revert Y;generalize Frame.eval _ f=v;generalize Frame.eval _ f=v';intro Y;unfold Deferred.ofValue;have hy:aJ σ #[Value.func (.yield l) #[] #[]] #[Value.func (.yield N) #[] #[]]:=.one (.Hv (.yield P) (.nil σ) (.nil σ));have lX:aJ σ ((#[Operand.const (.func (.yield l) #[] #[])]:uaw).map (Frame.eval {fr with todo:=.inRangeFunc l::k,defers:=mark++fr.defers})) ((#[Operand.const (.func (.yield N) #[] #[])]:uaw).map (Frame.eval {aQ with todo:=.inRangeFunc N::k',defers:=HM++aQ.defers})):=by grind[Frame.eval]
       cases Y with|func ij h1 h3 h4 aL=>exact .pure ⟨.fn ij ⟨h3,aL⟩,aJ.append ⟨h1,h4⟩ lX⟩|nilFunc=>exact .pure ⟨.nil,lX⟩| _=>exact .stuck
      |panic=>cases K
      |goexit=>cases K
    |inBlock id=>unfold stepG.exec at h⊢;simp only[m]at h;simp only[q];cases h;exact aU hk
    |inScope g=>unfold stepG.exec at h⊢;simp only[m]at h;simp only[q];cases h;exact aU hk
    |inLoop g=>unfold stepG.exec at h⊢;simp only[m]at h;simp only[q];cases h;exact aU (.cons (.code g) (.cons (.inLoop g) hk))
    |@inRegion ops Bi todo=>
     cases todo with
     |nil=>unfold stepG.exec at h⊢;simp only[m]at h;simp only[q];cases h;exact aU hk
     |cons n rest=>
      unfold stepG.exec at h g⊢;simp only[m]at h;simp only[q]at g⊢;rw[<-W6 z.tmps ops]at g⊢;split at h
      .rename_i HN;rw[vby HN]at g⊢;have X:∃o,ops[n]?=some o:=by grind
       obtain⟨o,D⟩:=X;have Bj:=Bi o (vbf D);have h1:fr.oper?=some o:=FL;have jS:aQ.oper?=some o:=FL;have M:=z.roundOf;unfold stepG.oper at h g⊢;simp only[h1]at h;simp only[jS]at g⊢;have plain:stepG.apply C.P true fr (cs++b0) none (execOp fr.eval o) w=.go g1 w1 gv->(iH (stepG.apply C.Q true aQ (a9++base) none (execOp aQ.eval o) w')).drawn<=S.bound->iI C S ρ b0 base w' g1 w1 (stepG.apply C.Q true aQ (a9++base) none (execOp aQ.eval o) w'):=λu hy=>
        Qs j.funcs z p F E (WY j.same j.EO j.funcs lY Bj) (.inl j.Qt) (j.follows _) u hrun V hy
       cases h0:fr.roundOf with
       |none=>cases T:aQ.roundOf with|some l=>rw[h0,T]at M;cases M|none=>grind
       |some l=>cases T:aQ.roundOf with|none=>rw[h0,T]at M;cases M|some N=>rw[h0,T]at M;cases M with|some P=>cases hc:o.op with|defer c=>rw[hc]at Bj;cases Bj| _=>simp only[h0,hc]at h;simp only[T,hc]at g;exact plain h g
      .rename_i HN;rw[vbq HN];cases h;exact r6 (fr:=fr) p F E (zv _ _).1 (zv _ _).2 (z.finish (.undef ρ))
    |inRangeFunc P=>grind[stepG.exec]
    |@endRangeFunc l N P=>
     unfold stepG.exec at h g⊢;simp only[m,vau]at h;simp only[q,vau]at g⊢;obtain⟨j4,K⟩:=zw h;rw[zu]at g;have U:(k9 ((Instr.endLoop N).run C.Q w')).drawn<=S.bound:=by cases J:(Instr.endLoop N).run C.Q w' with|ok v H=>rw[J]at g;exact g|halt x H=>rw[J]at g;cases x<;>exact g
     have kJ:Good ((Instr.endLoop l).run C.P w):=by cases J:(Instr.endLoop l).run C.P w with|ok v H=>trivial|halt x H=>rw[J]at K;cases x with|panic v=>trivial| _=>cases K
     obtain⟨σ,ta,D,B,cz⟩:=ahy P j.same S w w' E kJ U;obtain⟨d,hd,W⟩:=cz #[];rw[vdc]at hd;rw[hd];refine iI.after B (λe m=>W e (xy m)) ?_;generalize(Instr.endLoop l).run C.P w=r at D K;generalize(Instr.endLoop N).run C.Q w'=r' at D;have I:=z.mono B.le;have pp:=iX.mono B.le p;cases D with
     |@ok a b zp _ ez Q=>obtain⟨e,hj⟩:=ez;subst e;cases K;refine r6 (fr:=fr) pp F Q rfl rfl (I.xz (cE.append ?_ (mM.mono B.le hk)));cases a with|none=>exact .nil|some c=>exact .cons (.code (hj c rfl)) .nil
     |panic hv Q=>cases K;exact r6 (fr:=fr) pp F Q (s_ _ _).1 (s_ _ _).2 (I.raise (.cons ⟨hv,rfl,rfl⟩ .nil))
     |goexit=>cases K
    |beginRound=>unfold stepG.exec at h g⊢;simp only[m]at h;simp only[q]at g⊢;refine Qs j.funcs z p F E (.bind (R:=λ_(_ _:Unit)=>True) ?_ λ_ _ _ _ _=>.pure .skip) (.inl j.Qt) (j.follows _) h hrun V g;have M:=z.roundOf;generalize fr.roundOf=a at M;generalize aQ.roundOf=b at M;cases M with|none=>exact .stuck|some P=>exact WR P j.same
end
variable{g:uah}{es:uao}{cA t:dp}{a b:GStep}
section
section
variable{C:cH}{S:Sync}{ρ:Ren}
def ah6(c:C.b_):∀(l:List ResultVar)(ρ:Ren),aJ ρ t cA->ap C ρ (λσ a b=>cE (ar σ) a b)
 (l.mapM λ| .tmp x=>pure (t.getD x undef)| .cell a ty=>do Go.loadVar ty (<-Go.asAddr (t.getD a undef))) (l.mapM λ| .tmp x=>pure (cA.getD x undef)| .cell a ty=>do Go.loadVar ty (<-Go.asAddr (cA.getD a undef))):=by
 intro l;induction l with|nil=>intro ρ _;simp only[List.mapM_nil];exact .pure .nil|cons r l d=>intro ρ h;simp only[List.mapM_cons];refine .bind (R:=ar) ?_ λσ v g l1 hv=>.bind (d σ (h.mono l1)) λj a b l2 f=>.pure (.cons (hv.mono l2) f);cases r with|tmp x=>exact .pure (h.getD (.undef ρ) x)|cell a ty=>exact .bind (ap.asAddr c (h.getD (.undef ρ) a)) λσ p i _ e=>ap.loadVar c ty e
def ah7(g:C.b_)(fn:Func)(h:aJ ρ t cA):ap C ρ ar (results fn t) (results fn cA):=by
 unfold results;refine .bind (R:=aJ) ?_ λσ a b _ c=>.pure ?_
 .rw[vck,vck];exact .bind (f:=λl=>Pure.pure l.toArray) (f':=λl=>Pure.pure l.toArray) (ah6 g fn.results.toList ρ h) λσ a b _ c=>.pure (aJ.K9 c)
 .by_cases d:a.size=1
  .have e:b.size=1:=c.size▸d;rw[dif_pos d,dif_pos e];exact c.get 0 _ _ AA AA
  .have e:¬b.size=1:=c.size▸d;rw[dif_neg d,dif_neg e];exact .EA c
def ah8{c:Prop}[Decidable c](h:(if c then a else b)=.go g w es)(d:∀g w es,a≠ .go g w es):¬c/\b=.go g w es:=by grind
def iI.ite{c:Prop}[Decidable c]{base:fV}(hn:¬c)(h:iI C S ρ b0 base w' g1 w1 b):iI C S ρ b0 base w' g1 w1 (if c then a else b):=by grind
def ah9(p:C.Good){base:fV}{d i:Deferred}(B:et C ρ fr aQ)(s:iX C ρ cs a9)(o:iY fr cs)(K:eL C S ρ w w')(hd:zo ρ d i)(h:callDeferred C.P fr (cs++b0) none d w=.go g1 w1 gv)(hrun:g1.status=.running)(H:g1.dying=none)(n:(iH (callDeferred C.Q aQ (a9++base) none i w')).drawn<=S.bound):iI C S ρ b0 base w' g1 w1 (callDeferred C.Q aQ (a9++base) none i w'):=by
 have R:∀{t cA:Target}{m A:FrameMode},ud ρ t cA->ug ρ m A->((t matches .nil)&&(m matches .panicking _))=((cA matches .nil)&&(A matches .panicking _)):=λht N=>by cases ht<;>cases N<;>rfl
 have D:=R hd.target B.mode;have z:=W3 C.Q aQ (a9++base) none i w';unfold callDeferred at h⊢;simp only[vau]at h⊢;obtain⟨hc,h⟩:=ah8 h (λ_ _ _=>Ad);refine iI.ite (λb=>hc (Eq.trans D b)) ?_;have z:=vad (z.resolve_left λb=>hc (Eq.trans D b)) n;obtain⟨V,a⟩:=zw h;clear h;have kJ:Good ((invoke d.target d.args).run C.P w):=by cases L:(invoke d.target d.args).run C.P w with|ok U F=>trivial|halt x F=>rw[L]at a;cases x with|panic v=>trivial|goexit=>trivial|blocked=>grind|waiting=>grind|unsupported u=>cases a|exit c=>cases a|fatal m=>grind[W4]|throw m=>exact absurd H (Qr a)|stuck m=>cases a
 obtain⟨σ,I,q,f,Q⟩:=HJ p.same p.EO p.funcs hd.target hd.args S w w' K kJ z;obtain⟨dd,l,J⟩:=Q #[];rw[vdc]at l;rw[l];have k:=B.mono f.le;have j:=iX.mono f.le s;generalize(invoke d.target d.args).run C.P w=r at q a;generalize(invoke i.target i.args).run C.Q w'=r' at q;have evs:∀e∈seen C.Q aQ.fn dd,vO σ e:=λe P=>J e (xy P);cases q with
 |@ok _ _ E _ hn g=>have keep:iI C S ρ b0 base w' (a0 fr (cs++b0)) E (GStep.after (seen C.Q aQ.fn dd) (.go (a0 aQ (a9++base)) I)):=iI.after f evs (r6 j o g Y Y k);cases hn with|value hv=>cases a;exact keep|skip=>cases a;exact keep|enter y M n=>cases a;refine iI.after f evs ?_;exact⟨σ,_,fr::cs,_,aQ::a9,_,_,Y,Y,.enter p.funcs y M n KK,.cons k j,o.push,g,.refl _ _,Ad⟩|round O T ht y n=>cases a;refine iI.after f evs ?_;exact⟨σ,_,fr::cs,_,aQ::a9,_,_,Y,Y,.round O T ht y n KK,.cons k j,o.push,g,.refl _ _,Ad⟩
 |panic hv g=>cases a;exact iI.after f evs (r6 (fr:=fr) j o g (s_ _ _).1 (s_ _ _).2 (k.raise (.cons ⟨hv,Y,Y⟩ .nil)))
 |goexit g=>cases a;exact iI.after f evs (r6 (fr:=fr) j o g (s_ _ _).1 (s_ _ _).2 (k.raise (.cons ⟨.undef σ,Y,Y⟩ .nil)))
def EQ(fr:Frame)(cs:fV):Prop:=cs=[]/\fr.defers=[]/\(fr.mode=.returning\/∃l,fr.mode=.panicking l)
theorem W_(H:C.Good){main':Bool}{base:fV}(k:et C ρ fr aQ)(u:iX C ρ cs a9)(D:iY fr cs)(B:eL C S ρ w w')(ah_:fr.mode≠ .run)(V:¬EQ fr cs)(h:unwind C.P true fr (cs++b0) none w=.go g1 w1 gv)(hrun:g1.status=.running)(Q:g1.dying=none)(b:(iH (unwind C.Q main' aQ (a9++base) none w')).drawn<=S.bound):iI C S ρ b0 base w' g1 w1 (unwind C.Q main' aQ (a9++base) none w'):=by
 have n:=k.defers;cases hd:fr.defers with
 |cons d ds=>
  cases A:aQ.defers with
  |nil=>rw[hd,A]at n;cases n
  |cons K P=>
   rw[hd,A]at n;cases n with
   |cons p y=>
    have plain:(∀r,d.target≠ .collected r)->iI C S ρ b0 base w' g1 w1 (unwind C.Q main' aQ (a9++base) none w'):=by
     intro hn;have pq:∀r,K.target≠ .collected r:=by intro r e;have:=p.target;rw[e]at this;generalize hq:d.target=q at this;cases this;grind
     have Z:unwind C.P true fr (cs++b0) none w=callDeferred C.P {fr with defers:=ds} (cs++b0) none d w:=by unfold unwind;grind
     have Y:unwind C.Q main' aQ (a9++base) none w'=callDeferred C.Q {aQ with defers:=P} (a9++base) none K w':=by unfold unwind;grind
     rw[Z]at h;rw[Y]at b⊢;exact ah9 H (k.Bh y) u (D.same rfl rfl) B p h hrun Q b
    obtain⟨t,a⟩:=d;obtain⟨cA,a'⟩:=K;cases t with
    |collected r=>
     have N:=p.target;cases N with
     |collected M=>
      rename_i r';unfold unwind at h b⊢;simp only[hd,vau]at h;simp only[A,vau]at b⊢;obtain⟨W,j⟩:=zw h;rw[zu]at b;have I:(k9 ((Instr.takeDeferred r').run C.Q w')).drawn<=S.bound:=by cases hq:(Instr.takeDeferred r').run C.Q w' with|ok v m=>rw[hq]at b;exact b|halt x m=>rw[hq]at b;exact b
      have kJ:Good ((Instr.takeDeferred r).run C.P w):=by cases hq:(Instr.takeDeferred r).run C.P w with|ok v m=>trivial|halt x m=>grind
      obtain⟨σ,R,s,i,L⟩:=ahz M S w w' B kJ I;obtain⟨dd,g,E⟩:=L #[];rw[vdc]at g;rw[g];refine iI.after i (λe F=>E e (xy F)) ?_;generalize(Instr.takeDeferred r).run C.P w=q at s j;generalize(Instr.takeDeferred _).run C.Q w'=q' at s;cases s with|ok hv J=>cases j;exact r6 (fr:=fr) (iX.mono i.le u) D J rfl rfl ((k.mono i.le).Bh (cE.append hv (qU.mono i.le y)))|panic=>cases j|goexit=>cases j
    | _=>grind
 |nil=>
  have A:aQ.defers=[]:=by rw[hd]at n;generalize aQ.defers=q at n;cases n;rfl
  have f:=k.mode;obtain⟨fn,c,O,Bk⟩:=k.known;obtain⟨hq,_,_⟩:=H.funcs.body _ _ _ O Bk;rw[k.fn]at hq;cases u with
  |nil=>exfalso;apply V;refine⟨rfl,hd,?_⟩;cases z:fr.mode with|run=>grind|returning=>grind|panicking l=>grind
  |@cons di Lx cs a9 hc y=>
   unfold unwind at h b⊢;simp only[hd]at h;simp only[A]at b⊢;cases z:fr.mode with
   |run=>grind
   |returning=>
    rw[z]at f;cases o:aQ.mode with
    |run=>rw[o]at f;cases f
    |panicking l=>rw[o]at f;cases f
    |returning=>
     simp only[z,O,vau]at h;simp only[o,hq,vau]at b⊢;obtain⟨W,j⟩:=zw h;rw[zu]at b;have I:(k9 ((results fn aQ.tmps).run C.Q w')).drawn<=S.bound:=by cases p:(results fn aQ.tmps).run C.Q w' with|ok v m=>rw[p]at b;simp only[WZ]at b;exact b|halt x m=>rw[p]at b;cases x<;>exact b
     have kJ:Good ((results fn fr.tmps).run C.P w):=by cases p:(results fn fr.tmps).run C.P w with|ok v m=>trivial|halt x m=>grind
     obtain⟨σ,R,s,i,L⟩:=ah7 H.same fn k.tmps S w w' B kJ I;obtain⟨dd,g,E⟩:=L #[];rw[vdc]at g;rw[g];refine iI.after i (λe F=>E e (xy F)) ?_;generalize(results fn fr.tmps).run C.P w=q at s j;generalize(results fn aQ.tmps).run C.Q w'=q' at s;cases s with|ok hv J=>exact W7 (k.mono i.le) (hc.mono i.le) (iX.mono i.le y) D.Qq J hv j|panic=>cases j|goexit=>cases j
   |panicking l=>
    rw[z]at f;cases o:aQ.mode with
    |run=>rw[o]at f;cases f
    |returning=>rw[o]at f;cases f
    |panicking l'=>
     rw[o]at f;cases f with
     |panicking X=>
      have U:fr.catches C.P=false:=AA;have T:aQ.catches C.Q=false:=by grind[Frame.catches]
      simp only[z,U]at h;simp only[T];cases h;exact r6 (fr:=di) y D.Qq B (s_ _ _).1 (s_ _ _).2 (hc.raise X)
theorem aic(m:C.Good){main':Bool}{base:fV}(e:et C ρ fr aQ)(d:iX C ρ cs a9)(n:iY fr cs)(j:eL C S ρ w w')(i:¬EQ fr cs)(h:stepG C.P true (a0 fr (cs++b0)) w=.go g1 w1 gv)(hrun:g1.status=.running)(f:g1.dying=none)(k:(iH (stepG C.Q main' (a0 aQ (a9++base)) w')).drawn<=S.bound):iI C S ρ b0 base w' g1 w1 (stepG C.Q main' (a0 aQ (a9++base)) w'):=by
 have a:=e.mode;cases c:fr.mode with
 |run=>rw[c]at a;cases b:aQ.mode with|run=>grind[stepG,a0,ah5]| _=>rw[b]at a;cases a
 |returning=>rw[c]at a;cases b:aQ.mode with|returning=>grind[stepG,a0,W_]| _=>rw[b]at a;cases a
 |panicking l=>rw[c]at a;cases b:aQ.mode with|panicking g=>grind[stepG,a0,W_]| _=>rw[b]at a;cases a
end
end
def HO(g:uah):Prop:=(g.dying=none/\(g.status=.blocked\/g.status=.waiting))\/∃d f,g.dying=some d/\d.fatal=some f/\d.calling=false/\(g.status=.running\/g.status=.blocked)
def Kind:GStep->Prop
 | .go g _ _=>(g.status=.running/\g.dying=none)\/HO g
 | .ended .. =>True
 | _=>False
variable{s:GStep}
theorem Kind.after(h:Kind s):Kind (GStep.after es s):=by cases s<;>exact h
def Kind.ite{c:Prop}[Decidable c](e:Kind a)(d:Kind b):Kind (if c then a else b):=by grind
def Kind.pos{c:Prop}[Decidable c](h:c)(d:Kind a):Kind (if c then a else b):=by grind
def Qy{ps:List ByteArray}{m:String}{b:Bool}:Kind (dieOf fr ps m b w):=.inr (.inr ⟨_,_,Y,Y,Y,.inl Y⟩)
def Xa{P:b4}{d:Option Dying}{m:String}:Kind (endFatal P fr cs d m w):=by
 unfold endFatal;simp only[];split
 .exact Qy
 .trivial
 .trivial
def Qz:Result Next->Prop
 | .ok (.value _) _ | .ok .skip _ | .ok (.enter ..) _ | .ok (.round ..) _=>True
 | .ok _ _=>False
 | .halt (.unsupported (.initOrder _)) _=>False
 | .halt _ _=>True
section
variable{C:cH}{S:Sync}{ρ:Ren}
def Ly{s s':Sem Next}(hs:ap C ρ (po C) s s')(c:eL C S ρ w w')(d:(k9 (s'.run C.Q w')).drawn<=S.bound):Qz (s.run C.P w):=by
 by_cases hg:Good (s.run C.P w)
 .obtain⟨σ,w1,a,_,_⟩:=hs S w w' c hg d;generalize s.run C.P w=r at a;generalize s'.run C.Q w'=r' at a;cases a with|ok h _=>cases h<;>trivial|panic=>trivial|goexit=>trivial
 .cases b:s.run C.P w with
  |ok v w1=>rw[b]at hg;exact absurd trivial hg
  |halt x w1=>
   rw[b]at hg;cases x with
   |unsupported u=>cases u<;>first|trivial|exact absurd trivial hg
   | _=>trivial
def QA{P:b4}{s:Sem Next}(h:Qz (s.run P w)):Kind (stepG.apply P true fr cs none s w):=by
 unfold stepG.apply;simp only[vau,vdh];refine Kind.after ?_;cases d:s.run P w with
 |ok e w1=>rw[d]at h;cases e with|value v=>exact .inl ⟨Y,Y⟩|skip=>exact .inl ⟨Y,Y⟩|enter f a=>exact .inl ⟨Y,Y⟩|round l f t a b=>exact .inl ⟨Y,Y⟩| _=>exact absurd h id
 |halt x w1=>
  rw[d]at h;cases x with
  |panic v=>exact .inl ⟨Y,Y⟩
  |goexit=>exact .inl ⟨Y,Y⟩
  |blocked=>exact .inr (.inl ⟨Y,.inl Y⟩)
  |waiting=>exact .inr (.inl ⟨Y,.inr Y⟩)
  |unsupported u=>cases u<;>first|trivial|exact absurd h id
  |exit c=>trivial
  |fatal m=>exact Xa
  |throw m=>exact Qy
  |stuck m=>trivial
def aid{P:b4}{d:Deferred}(h:Qz ((invoke d.target d.args).run P w)):Kind (callDeferred P fr cs none d w):=by
 unfold callDeferred;refine Kind.ite trivial ?_;simp only[vau];refine Kind.after ?_;cases e:(invoke d.target d.args).run P w with
 |ok g w1=>rw[e]at h;cases g with|value v=>exact .inl ⟨Y,Y⟩|skip=>exact .inl ⟨Y,Y⟩|enter f a=>exact .inl ⟨Y,Y⟩|round l f t a b=>exact .inl ⟨Y,Y⟩| _=>exact absurd h id
 |halt x w1=>rw[e]at h;cases x with|panic v=>exact .inl ⟨Y,Y⟩|goexit=>exact .inl ⟨Y,Y⟩|blocked=>exact .inr (.inl ⟨Y,.inl Y⟩)|waiting=>exact .inr (.inl ⟨Y,.inr Y⟩)|unsupported u=>trivial|exit c=>trivial|fatal m=>exact Xa|throw m=>exact Qy|stuck m=>trivial
def Xb{P:b4}{main:Bool}{c:Frame}{v:Value}:Kind (doReturn P main fr (c::cs) none v w):=by unfold doReturn;simp only[];split<;>exact .inl ⟨Y,Y⟩
theorem aie{P:b4}{main:Bool}{r:Result Value}(a:iY fr cs){l:Nat}(b:fr.roundOf=some l):
 Kind (GStep.after es (match r with| .ok v w=>doReturn P main fr (cs++b0) none v w| .halt _ w=>.ended (.stuck "range over a function: no such loop" (fr.pos P)) w)):=by
 refine Kind.after ?_;cases r with|halt x w=>trivial|ok v w=>cases cs with|nil=>have:=a.2;grind|cons c cs=>exact Xb
def Lz{P:b4}{main:Bool}(jump:Option Code)(b:iY fr cs)(L:GStep)(a:fr.roundOf=none->L=(if r7 jump=true then .go {frame:={fr with mode:=.returning},callers:=cs++b0,status:=.running,dying:=none} w else .ended (.stuck "exit, goto: no such block or label" (fr.pos P)) w))(c:∀l,fr.roundOf=some l->L=GStep.after (seen P fr.fn ((Instr.endRound l jump).events P w #[])) (match(Instr.endRound l jump).run P w with
  | .ok v w=>doReturn P main fr (cs++b0) none v w
  | .halt _ w=>.ended (.stuck "range over a function: no such loop" (fr.pos P)) w)):Kind L:=by
 cases h0:fr.roundOf with
 |none=>
  rw[a h0];split
  .exact .inl ⟨Y,Y⟩
  .trivial
 |some l=>grind[aie]
theorem Xc(i:C.Good){main':Bool}{base:fV}(j:et C ρ fr aQ)(h:iX C ρ cs a9)(z:eL C S ρ w w')(I:fr.mode≠ .run)(u:¬EQ fr cs)(o:(iH (unwind C.Q main' aQ (a9++base) none w')).drawn<=S.bound):Kind (unwind C.P true fr (cs++b0) none w):=by
 have b:=j.defers;cases hd:fr.defers with
 |cons d ds=>
  cases p:aQ.defers with
  |nil=>rw[hd,p]at b;cases b
  |cons g k=>
   rw[hd,p]at b;cases b with
   |cons f A=>
    have plain:(∀r,d.target≠ .collected r)->Kind (unwind C.P true fr (cs++b0) none w):=by
     intro hn;have K:∀r,g.target≠ .collected r:=by intro r e;have:=f.target;rw[e]at this;generalize hq:d.target=q at this;cases this;grind
     have H:unwind C.P true fr (cs++b0) none w=callDeferred C.P {fr with defers:=ds} (cs++b0) none d w:=by unfold unwind;grind
     have F:unwind C.Q main' aQ (a9++base) none w'=callDeferred C.Q {aQ with defers:=k} (a9++base) none g w':=by unfold unwind;grind
     rw[H];rw[F]at o;rcases W3 C.Q {aQ with defers:=k} (a9++base) none g w' with hc|E
     .have J:∀{t cA:Target}{m n:FrameMode},ud ρ t cA->ug ρ m n->((t matches .nil)&&(m matches .panicking _))=((cA matches .nil)&&(n matches .panicking _)):=λht B=>by cases ht<;>cases B<;>rfl
      have s:=Eq.trans (J f.target j.mode) hc;unfold callDeferred;exact Kind.pos s trivial
     .exact aid (Ly (HJ i.same i.EO i.funcs f.target f.args) z (vad E o))
    obtain⟨t,a⟩:=d;obtain⟨cA,a'⟩:=g;cases t with
    |collected r=>unfold unwind;simp only[hd,vau];refine Kind.after ?_;cases(Instr.takeDeferred r).run C.P w with|ok v w1=>exact .inl ⟨Y,Y⟩|halt x w1=>trivial
    | _=>grind
 |nil=>
  obtain⟨fn,c,y,M⟩:=j.known;cases h with
  |nil=>exfalso;apply u;refine⟨Y,hd,?_⟩;cases D:fr.mode with|run=>grind|returning=>grind|panicking l=>grind
  |@cons di L cs a9 hc A=>
   unfold unwind;simp only[hd];cases D:fr.mode with
   |run=>grind
   |returning=>simp only[y,vau];refine Kind.after ?_;cases(results fn fr.tmps).run C.P w with|ok v w1=>exact Xb|halt x w1=>cases x<;>trivial
   |panicking l=>
    simp only[];split
    .trivial
    .exact .inl ⟨Y,Y⟩
theorem aif(h:C.Good){main':Bool}{base:fV}(j:et C ρ fr aQ)(H:iY fr cs)(E:eL C S ρ w w')(d:(iH (stepG.exec C.Q main' true aQ (a9++base) none w')).drawn<=S.bound):Kind (stepG.exec C.P true true fr (cs++b0) none w):=by
 have ht:=j.todo;have X:=j.eval E.nb;cases e:fr.todo with
 |nil=>
  refine Lz (main:=true) (P:=C.P) (w:=w) (b0:=b0) none H (stepG.exec C.P true true fr (cs++b0) none w) ?_ ?_
  .grind[stepG.exec,r7]
  grind[stepG.exec,Sem.runT_eq]
 |cons i k=>
  cases B:aQ.todo with
  |nil=>rw[e,B]at ht;cases ht
  |cons i' k'=>
   rw[e,B]at ht;cases ht with
   |cons hi hk=>
    cases hi with
    |@code c hok=>
     have D:=(h.oC c).1 hok;cases c with
     |skip=>unfold stepG.exec;simp only[e];exact .inl ⟨rfl,rfl⟩
     |label l=>unfold stepG.exec;simp only[e];exact .inl ⟨rfl,rfl⟩
     |seq a b=>unfold stepG.exec;simp only[e];exact .inl ⟨rfl,rfl⟩
     |cond c a b=>unfold stepG.exec;simp only[e];cases fr.eval c with|bool b=>exact .inl ⟨rfl,rfl⟩| _=>trivial
     |block id b=>unfold stepG.exec;simp only[e];exact .inl ⟨rfl,rfl⟩
     |loop b=>unfold stepG.exec;simp only[e];exact .inl ⟨rfl,rfl⟩
     |scope b=>unfold stepG.exec;simp only[e];exact .inl ⟨rfl,rfl⟩
     |refuse s=>unfold stepG.exec;simp only[e];trivial
     |ret=>
      refine Lz (main:=true) (P:=C.P) (w:=w) (b0:=b0) (some .ret) H (stepG.exec C.P true true fr (cs++b0) none w) ?_ ?_
      .grind[stepG.exec,r7]
      grind[stepG.exec,Sem.runT_eq]
     |exit id=>
      cases L:exitTo id k with
      |some t=>unfold stepG.exec;simp only[e,L,veb];exact .inl ⟨rfl,rfl⟩
      |none=>
       refine Lz (main:=true) (P:=C.P) (w:=w) (b0:=b0) (some (.exit id)) H (stepG.exec C.P true true fr (cs++b0) none w) ?_ ?_
       .grind[stepG.exec,r7]
       grind[stepG.exec,Sem.runT_eq]
     |goto id=>
      cases L:gotoIn id k with
      |some t=>unfold stepG.exec;simp only[e,L,veb];exact .inl ⟨rfl,rfl⟩
      |none=>
       refine Lz (main:=true) (P:=C.P) (w:=w) (b0:=b0) (some (.goto id)) H (stepG.exec C.P true true fr (cs++b0) none w) ?_ ?_
       .grind[stepG.exec,r7]
       grind[stepG.exec,Sem.runT_eq]
     |region id ops draw=>unfold stepG.exec;simp only[e];cases draw with|false=>exact .inl ⟨rfl,rfl⟩|true=>simp only[vef,vah,vee];cases(Go.choose (.order fr.fn id)).run C.P w with|ok v w1=>exact .inl ⟨rfl,rfl⟩|halt x w1=>trivial
     |rangeFunc f params assign body=>
      simp only[jR,vaf]at D;unfold stepG.exec at d⊢;simp only[e,vau];simp only[B,vau]at d;refine Kind.after ?_;rw[zu]at d;have Qv:=WQ (C:=C) (ρ:=ρ) fr.fn j.known j.tmps params ((h.oC _).2 D.1.2) ((h.oC _).2 D.2) j.roundOf;have Qw:Instr.enterLoop aQ.fn aQ.tmps params assign body aQ.roundOf=Instr.enterLoop fr.fn aQ.tmps params assign body aQ.roundOf:=by rw[j.fn]
      rw[Qw]at d;have ga:(k9 ((Instr.enterLoop fr.fn aQ.tmps params assign body aQ.roundOf).run C.Q w')).drawn<=S.bound:=by cases F:(Instr.enterLoop fr.fn aQ.tmps params assign body aQ.roundOf).run C.Q w' with|ok v u=>rw[F]at d;exact vad (vad (A5 C.Q _ u).1 (EL C.Q _ _ none _ u)) d|halt x u=>rw[F]at d;exact d
      by_cases kJ:Good ((Instr.enterLoop fr.fn fr.tmps params assign body fr.roundOf).run C.P w)
      .obtain⟨σ,ta,A,Q,cz⟩:=Qv S w w' E kJ ga;generalize(Instr.enterLoop fr.fn fr.tmps params assign body fr.roundOf).run C.P w=r at A;generalize(Instr.enterLoop fr.fn aQ.tmps params assign body aQ.roundOf).run C.Q w'=r' at A d;cases A with
       |@ok a b zp _ ez T=>
        obtain⟨l,mark⟩:=a;obtain⟨q,U⟩:=b;obtain⟨p,V⟩:=ez;have m:=j.mono Q.le;have W:et C σ {fr with todo:=.inRangeFunc l::k,defers:=mark++fr.defers} {aQ with todo:=.inRangeFunc q::k',defers:=U++aQ.defers}:=
         ⟨m.fn,m.known,m.tmps,.cons (.inRangeFunc p) (mM.mono Q.le hk),cE.append V m.defers,m.mode,m.kind,m.plain,m.roundOf⟩
        have Qx:=W.eval T.nb;refine QA (Ly ?_ T (vad (EL C.Q _ _ none _ _) d));refine .bind (R:=zo) ?_ λcm x y _ hd=>HJ h.same h.EO h.funcs hd.target hd.args;have J:=Qx f D.1.1;simp only[resolve];revert J;generalize Frame.eval _ f=v;generalize Frame.eval _ f=v';intro J;unfold Deferred.ofValue;have O:aJ σ #[Value.func (.yield l) #[] #[]] #[Value.func (.yield q) #[] #[]]:=.one (.Hv (.yield p) (.nil σ) (.nil σ));have N:aJ σ ((#[Operand.const (.func (.yield l) #[] #[])]:uaw).map (Frame.eval {fr with todo:=.inRangeFunc l::k,defers:=mark++fr.defers})) ((#[Operand.const (.func (.yield q) #[] #[])]:uaw).map (Frame.eval {aQ with todo:=.inRangeFunc q::k',defers:=U++aQ.defers})):=by grind[Frame.eval]
        cases J with|func Z K h3 h4 aL=>exact .pure ⟨.fn Z ⟨h3,aL⟩,aJ.append ⟨K,h4⟩ N⟩|nilFunc=>exact .pure ⟨.nil,N⟩| _=>exact .stuck
       |panic=>trivial
       |goexit=>trivial
      .cases F:(Instr.enterLoop fr.fn fr.tmps params assign body fr.roundOf).run C.P w with|ok v u=>rw[F]at kJ;exact absurd trivial kJ|halt x u=>trivial
    |inBlock id=>unfold stepG.exec;simp only[e];exact .inl ⟨rfl,rfl⟩
    |inScope d=>unfold stepG.exec;simp only[e];exact .inl ⟨rfl,rfl⟩
    |inLoop d=>unfold stepG.exec;simp only[e];exact .inl ⟨rfl,rfl⟩
    |@inRegion ops Bi todo=>
     cases todo with
     |nil=>unfold stepG.exec;simp only[e];exact .inl ⟨rfl,rfl⟩
     |cons n rest=>
      unfold stepG.exec at d⊢;simp only[e];simp only[B]at d;rw[<-W6 j.tmps ops]at d;split
      .rename_i HN;rw[vby HN]at d;have I:∃o,ops[n]?=some o:=by grind
       obtain⟨o,A⟩:=I;have M:=Bi o (vbf A);have K:fr.oper?=some o:=FL;have Y:aQ.oper?=some o:=FL;have g:=j.roundOf;unfold stepG.oper at d⊢;simp only[K];simp only[Y]at d;have plain:(iH (stepG.apply C.Q true aQ (a9++base) none (execOp aQ.eval o) w')).drawn<=S.bound->Kind (stepG.apply C.P true fr (cs++b0) none (execOp fr.eval o) w):=λO=>
        QA (Ly (WY h.same h.EO h.funcs X M) E (vad (EL C.Q _ _ none _ _) O))
       cases h0:fr.roundOf with
       |none=>cases z:aQ.roundOf with|some l=>rw[h0,z]at g;cases g|none=>grind
       |some l=>cases z:aQ.roundOf with|none=>rw[h0,z]at g;cases g|some q=>rw[h0,z]at g;cases g with|some p=>cases hc:o.op with|defer c=>rw[hc]at M;cases M| _=>simp only[z,hc]at d;exact plain d
      .exact .inl ⟨rfl,rfl⟩
    |inRangeFunc p=>unfold stepG.exec;simp only[e];trivial
    |@endRangeFunc l q p=>unfold stepG.exec;simp only[e,vau];refine Kind.after ?_;cases(Instr.endLoop l).run C.P w with|ok v w1=>exact .inl ⟨rfl,rfl⟩|halt x w1=>cases x with|panic v=>exact .inl ⟨rfl,rfl⟩| _=>trivial
    |beginRound=>unfold stepG.exec at d⊢;simp only[e];simp only[B]at d;refine QA (Ly (.bind (R:=λ_(_ _:Unit)=>True) ?_ λ_ _ _ _ _=>.pure .skip) E (vad (EL C.Q _ _ none _ _) d));have g:=j.roundOf;generalize fr.roundOf=a at g;generalize aQ.roundOf=b at g;cases g with|none=>exact .stuck|some p=>exact WR p h.same
def aig(j:C.Good){main':Bool}{base:fV}(e:et C ρ fr aQ)(d:iX C ρ cs a9)(k:iY fr cs)(h:eL C S ρ w w')(g:¬EQ fr cs)(i:(iH (stepG C.Q main' (a0 aQ (a9++base)) w')).drawn<=S.bound):Kind (stepG C.P true (a0 fr (cs++b0)) w):=by
 have a:=e.mode;cases c:fr.mode with
 |run=>rw[c]at a;cases b:aQ.mode with|run=>grind[stepG,a0,aif]| _=>rw[b]at a;cases a
 |returning=>rw[c]at a;cases b:aQ.mode with|returning=>grind[stepG,a0,Xc]| _=>rw[b]at a;cases a
 |panicking l=>rw[c]at a;cases b:aQ.mode with|panicking f=>grind[stepG,a0,Xc]| _=>rw[b]at a;cases a
end
def ly(g:uah)(w:aS):Machine:={world:=w,gs:=#[g],rest:={timers:=#[],alone:=none,slice:=none}}
theorem aih(fr:Frame)(cs:fV)(w:aS):lone fr cs w=ly (a0 fr cs) w:=rfl
def aii{P:b4}(hs:g.status=.running):move P (ly g w)=.goroutine (ly g w) 0:=by simp[move,ask,askOn,ly,runnable_eq,due,ahead,Goroutine.canRun,vcq,choose,pure,Sem.run,Question.forced,hs]
def Bl{P:b4}(a:g.status=.running)(h:stepG P true g w=s):
 (∀g1 w1 es,s=.go g1 w1 es->step P (ly g w)=.next (ly g1 w1))/\(∀o w1 es,s=.ended o w1 es->step P (ly g w)=.ended o w1):=by
 rw[step,stepT,aii a];grind[runT,ly]
def Xd{P:b4}{m1:Machine}(hs:g.status=.blocked\/g.status=.waiting)(h:step P (ly g w)=.next m1):m1=ly g w:=by
 rcases hs with hs|hs
 .exfalso;have dK:∀x:GStep,∃o w1,(match(motive:=GStep->Move) x with| .ended o w _=>Move.machine (.ended o w)| _=>.machine (.ended (.stuck "" "") default))=.machine (.ended o w1):=λx=>by cases x<;>exact⟨_,_,Y⟩
  have:∃o w1,move P (ly g w)=.machine (.ended o w1):=by simp only[move,ask,askOn,ly,runnable_eq,due,ahead];simp[Goroutine.canRun,vcq,hs,pure];exact dK _
  grind[step,stepT]
 .have:move P (ly g w)=.machine (.next (ly g w)):=by simp[move,ask,askOn,ly,runnable_eq,due,ahead,Goroutine.canRun,vcq,hs,pure]
  grind[step,stepT]
def aij{P:b4}{d:Dying}{f:Fatal}(hc:d.calling=false):(∃o w1 es,writeOn P fr d f w=.ended o w1 es)\/∃g1 w1 es,writeOn P fr d f w=.go g1 w1 es/\HO g1:=by
 unfold writeOn;simp only[];split
 .grind
 .split
  .exact .inr ⟨_,_,_,Y,.inr ⟨_,_,Y,Y,hc,.inl Y⟩⟩
  .exact .inr ⟨_,_,_,Y,.inr ⟨_,_,Y,Y,hc,.inr Y⟩⟩
  .grind
  grind
theorem aik{P:b4}{m1:Machine}(hd:HO g)(h:step P (ly g w)=.next m1):∃g1 w1,m1=ly g1 w1/\HO g1:=by
 rcases hd with⟨c,b⟩|⟨d,f,c,b,i,a⟩
 .exact⟨g,w,Xd b h,.inl ⟨c,b⟩⟩
 .rcases a with a|a
  .have e:stepG P true g w=writeOn P g.frame d f w:=by obtain⟨fr,cs,st,k,off⟩:=g;simp only at c;subst c;obtain⟨todo,texts,calling,pending,zx,hand,fatal⟩:=d;simp only at b i;subst b;subst i;rfl
   rcases aij (P:=P) (fr:=g.frame) (f:=f) (w:=w) i with⟨o,w1,es,j⟩|⟨g1,w1,es,j,l⟩
   .rw[(Bl a (e.trans j)).2 _ _ _ Y]at h;cases h
   .rw[(Bl a (e.trans j)).1 _ _ _ Y]at h;grind
  .exact⟨g,w,Xd (.inl a) h,.inr ⟨d,f,c,b,i,.inr a⟩⟩
variable{dx:Frame}{cse:fV}{bN:aS}
theorem ail{P:b4}:∀(n:Nat)(g:uah)(w:aS),HO g->runN P n (ly g w)≠ .next (lone dx cse bN):=by
 intro n;induction n with
 |zero=>
  intro g w hd h;simp only[runN,Stepped.next.injEq,aih]at h;have:g=a0 dx cse:=by simp_all[ly]
  subst this;rcases hd with⟨_,a⟩|⟨d,f,b,_⟩
  .rcases a with a|a<;>cases a
  .cases b
 |succ n c=>intro g w hd h;rw[runN]at h;grind[aik]
def eM(f:uaj):Frame:={fn:=f,tmps:=#[],todo:=[.code (.refuse "")],defers:=[{target:=.nil,args:=#[]}],mode:=.run,kind:=.normal,roundOf:=none}
variable{f:uaj}
def Xe{P:b4}:∀(n:Nat)(w:aS),(∀v,runN P n (lone ((eM f).finish v) [] w)≠ .next (lone dx (cs++[eM f]) bN))/\∀l,runN P n (lone ((eM f).raise l) [] w)≠ .next (lone dx (cs++[eM f]) bN):=by
 intro n w;have short:∀{fr:Frame}{w:aS},lone fr [] w≠lone dx (cs++[eM f]) bN:=by simp_all[lone]
 cases n with
 |zero=>grind[runN]
 |succ n=>
  refine⟨λv h=>?_,λl h=>?_⟩
  .rw[runN]at h;have e:∃o w1,(stepG P true (a0 ((eM f).finish v) []) w).bare=.ended o w1:=⟨_,_,Y⟩;obtain⟨o,w1,e⟩:=e;rw[step_lone_ended e]at h;cases h
  .rw[runN]at h;have e:∃o w1,(stepG P true (a0 ((eM f).raise l) []) w).bare=.ended o w1:=⟨_,_,Y⟩;obtain⟨o,w1,e⟩:=e;rw[step_lone_ended e]at h;cases h
section
variable{C:cH}{S:Sync}{ρ:Ren}
theorem Xf{a:Frame}{cs1:fV}(h:lone fr cs w=lone a cs1 w1):fr=a/\cs=cs1/\w=w1:=by simp_all[lone]
def aim{P:b4}{fn:Func}{n:Nat}(k:P.funcs[fr.fn]?=some fn)(hk:fr.kind=.normal)(i:EQ fr []):
 runN P (n+1) (lone fr [eM f] w)≠ .next (lone dx (cse++[eM f]) bN):=by
 intro h;rw[runN]at h;obtain⟨_,hd,c|⟨l,c⟩⟩:=i
 .have e:stepG P true (a0 fr [eM f]) w=GStep.after (seen P fr.fn ((results fn fr.tmps).events P w #[])) (match(results fn fr.tmps).run P w with
   | .ok v w=>doReturn P true fr [eM f] none v w
   | .halt (.stuck s) w=>.ended (.stuck s (fr.pos P)) w
   | .halt _ w=>.ended (.stuck "return: the result variables cannot be read" (fr.pos P)) w):=by
   grind[stepG,a0,unwind,Sem.runT_eq]
  cases b:(results fn fr.tmps).run P w with
  |ok v w1=>rw[b]at e;simp only[doReturn,hk,GStep.after]at e;rw[show step P (lone fr [eM f] w)=.next (ly (a0 ((eM f).finish v) []) w1)from(Bl (g:=a0 fr [eM f]) Y e).1 _ _ _ Y]at h;exact(Xe (cs:=cse) n w1).1 v h
  |halt x w1=>
   have:∃o a es,stepG P true (a0 fr [eM f]) w=.ended o a es:=by rw[e,b];cases x<;>exact⟨_,_,_,Y⟩
   obtain⟨o,a,es,d⟩:=this;rw[show step P (lone fr [eM f] w)=.ended o a from(Bl (g:=a0 fr [eM f]) Y d).2 _ _ _ Y]at h;cases h
 .have j:fr.catches P=false:=by grind[Frame.catches]
  have e:stepG P true (a0 fr [eM f]) w=.go (a0 ((eM f).raise l) []) w:=by grind[stepG,a0,unwind]
  rw[show step P (lone fr [eM f] w)=.next (ly (a0 ((eM f).raise l) []) w)from(Bl (g:=a0 fr [eM f]) Y e).1 _ _ _ Y]at h;exact(Xe (cs:=cse) n w).2 l h
def ain(l:C.Good){main':Bool}{base:fV}{n:Nat}(e:et C ρ fr aQ)(a:iX C ρ cs a9)(d:iY fr cs)(i:eL C S ρ w w')(j:(iH (stepG C.Q main' (a0 aQ (a9++base)) w')).drawn<=S.bound)(hrun:runN C.P n (lone fr (cs++[eM f]) w)=.next (lone dx (cse++[eM f]) bN)):
 (cs=cse/\fr=dx/\w=bN)\/∃k g1 w1,n=k+1/\iI C S ρ [eM f] base w' g1 w1 (stepG C.Q main' (a0 aQ (a9++base)) w')/\runN C.P k (ly g1 w1)=.next (lone dx (cse++[eM f]) bN):=by
 cases n with
 |zero=>grind[runN,Xf,List.append_cancel_right]
 |succ k=>
  obtain⟨fn,c,h,s⟩:=e.known;by_cases b:EQ fr cs
  .obtain⟨p,m⟩:=b;subst p;exact absurd hrun (aim h d.1 ⟨Y,m⟩)
  .right;have hk:=aig l (b0:=[eM f]) e a d i b j;rw[runN]at hrun;cases hs:stepG C.P true (a0 fr (cs++[eM f])) w with
   |go g1 w1 es=>
    rw[hs]at hk;rw[show step C.P (lone fr (cs++[eM f]) w)=.next (ly g1 w1)from(Bl (g:=a0 fr (cs++[eM f])) Y hs).1 _ _ _ Y]at hrun;rcases hk with⟨r,hd⟩|q
    .grind[aic]
    grind[ail]
   |ended o w1 es=>rw[show step C.P (lone fr (cs++[eM f]) w)=.ended o w1 from(Bl (g:=a0 fr (cs++[eM f])) Y hs).2 _ _ _ Y]at hrun;grind
   | _=>rw[hs]at hk;exact absurd hk id
end
structure aV where
 g:Goroutine
 w:aS
 mine:Nat->Prop
structure j5(K:dh)(X:aV)(w':aS):Prop where
 heap:∀b,K b\/X.mine b->w'.heap[b]?=X.w.heap[b]?
 size:X.w.heap.size<=w'.heap.size
 env:w'.os.env=X.w.os.env
def grown(mine:dh)(w' w1:aS):Nat->Prop:=λb=>mine b\/(w'.heap.size<=b/\b<w1.heap.size)
def xB(K mine:dh)(e:Event):Prop:=
 match e.loc with
 | .cell a=>(K a.block\/mine a.block)/\(e.write=true->mine a.block)/\e.sync=false
 | .obj r=>(K r\/mine r)/\(e.write=true->mine r)/\e.sync=false
 | .mark .noRoom| .mark (.extern _)| .output=>True
 | _=>False
structure QB(K mine:dh)(w':aS)(g1:uah)(w1:aS)(es:uao):Prop where
 run:g1.status=.running
 nW:g1.dying=none
 kept:∀b,b<w'.heap.size->¬mine b->w1.heap[b]?=w'.heap[b]?
 size:w'.heap.size<=w1.heap.size
 os:w1.os=w'.os
 output:w1.output=w'.output
 tape:w1.tape=w'.tape
 drawn:w'.drawn<=w1.drawn
 evs:∀e∈es,xB K (grown mine w' w1) e
def LA(K mine:dh)(w':aS)(s:GStep):Prop:=∃g1 w1 es,s=.go g1 w1 es/\QB K mine w' g1 w1 es
inductive jD(Q:b4)(main:Bool)(K:dh)(post:aV->Prop):aV->Prop
 |done {X:aV} (h:post X):jD Q main K post X
 |step {X:aV} (ok:∀w',j5 K X w'->LA K X.mine w' (stepG Q main X.g w'))
  (h:∀w' g1 w1 es,j5 K X w'->stepG Q main X.g w'=.go g1 w1 es->jD Q main K post ⟨g1,w1,grown X.mine w' w1⟩):jD Q main K post X
inductive oD(Q:b4)(main:Bool)(K:dh)(Inv post:aV->Prop):aV->Prop
 |done {X:aV} (h:post X):oD Q main K Inv post X
 |step {X:aV} (inv:Inv X) (ok:∀w',j5 K X w'->LA K X.mine w' (stepG Q main X.g w'))
  (h:∀w' g1 w1 es,j5 K X w'->stepG Q main X.g w'=.go g1 w1 es->oD Q main K Inv post ⟨g1,w1,grown X.mine w' w1⟩):oD Q main K Inv post X
section
variable{Q:b4}{main:Bool}{K:dh}{Inv post:aV->Prop}
def oD.te{X:aV}(h:oD Q main K Inv post X):jD Q main K post X:=by induction h with|done h=>exact .done h|step _ ok _ a=>exact .step ok a
def QC(Q:b4)(main:Bool)(K:dh)(Inv post:aV->Prop)(X:aV)(w':aS):Prop:=
 j5 K X w'/\¬(LA K X.mine w' (stepG Q main X.g w')/\∀g1 w1 es,stepG Q main X.g w'=.go g1 w1 es->oD Q main K Inv post ⟨g1,w1,grown X.mine w' w1⟩)
theorem QD{X:aV}(h:¬oD Q main K Inv post X):¬post X/\∃w',Inv X->QC Q main K Inv post X w':=by
 refine⟨λc=>h (.done c),vaw λhn=>h ?_⟩;have key:Inv X/\∀w',j5 K X w'->LA K X.mine w' (stepG Q main X.g w')/\∀g1 w1 es,stepG Q main X.g w'=.go g1 w1 es->oD Q main K Inv post ⟨g1,w1,grown X.mine w' w1⟩:=
  ⟨vaw λb=>hn ⟨X.w,λh=>absurd h b⟩,λw' a=>vaw λb=>hn ⟨w',λ_=>⟨a,b⟩⟩⟩
 exact .step key.1 (λw' a=>(key.2 w' a).1) (λw' g1 w1 es a hs=>(key.2 w' a).2 g1 w1 es hs)
def aio(Q:b4)(main:Bool)(K:dh)(Inv post:aV->Prop)(a:aV):∃(X:Nat->aV)(v:Nat->aS),X 0=a/\(∀k,¬oD Q main K Inv post (X k)->Inv (X k)->QC Q main K Inv post (X k) (v k))/\
 ∀k g1 w1 es,stepG Q main (X k).g (v k)=.go g1 w1 es->X (k+1)=⟨g1,w1,grown (X k).mine (v k) w1⟩:=by
 have pick:∀X:aV,∃w':aS,¬oD Q main K Inv post X->Inv X->QC Q main K Inv post X w':=by
  intro X;by_cases h:oD Q main K Inv post X
  .simp_all
  simp_all[QD]
 obtain⟨p,b⟩:=vdn.1 pick;refine⟨λk=>Nat.rec a (λ_ X=>match stepG Q main X.g (p X)with| .go g1 w1 _=>⟨g1,w1,grown X.mine (p X) w1⟩| _=>X) k,λk=>p _,Y,λk=>b _,λk g1 w1 es h=>?_⟩;grind
end
def HP(base:fV)(X:aV):Prop:=∃fr cs,X.g=a0 fr (cs++base)
def pt(di:Nat)(B E:uas):Nat->Nat
 |0=>di
 |k+1=>pt di B E k+(E k-B k)
def Xg(di:Nat)(B E:uas){k l:Nat}(h:k<=l):pt di B E k<=pt di B E l:=by induction h with|refl=>grind|step _ a=>exact vad a (vcx _ _)
open Classical in
def aip(di:Nat)(B E:uas)(c:Nat->Nat->Question->Nat):∃T:Nat->Question->Nat,∀k j q,B k+j<E k->T (pt di B E k+j) q=c k (B k+j) q:=by
 refine⟨λi q=>if h:∃k,pt di B E k<=i/\i<pt di B E (k+1)then c (Classical.choose h) (B (Classical.choose h)+(i-pt di B E (Classical.choose h))) q else 0,λk j q e=>?_⟩;have b:∃k',pt di B E k'<=pt di B E k+j/\pt di B E k+j<pt di B E (k'+1):=⟨k,vcx _ _,by grind[pt]⟩;simp only[dif_pos b];have hc:=Classical.choose_spec b;generalize Classical.choose b=k' at hc;have hk:k'=k:=by
  rcases Nat.lt_trichotomy k' k with a|d|a
  .have:=Xg di B E (Nat.succ_le_of_lt a);grind
  .exact d
  .have:=Xg di B E (Nat.succ_le_of_lt a);grind[pt]
 grind
variable{ER pu:Frame}{cs0 xD:fV}{mn w0:aS}
section
variable{C:cH}{S:Sync}{ρ:Ren}
def eL.rely{K:dh}{X:aV}{bound:Nat}(h:eL C S ρ w X.w)(d:j5 K X w')(hd:∀a b,ρ.rel a b->K b\/X.mine b)(ht:∀j q,w'.drawn+j<bound->w.tape (w.drawn+j) q=w'.tape (w'.drawn+j) q):eL C ⟨w.drawn,w'.drawn,bound,S.T⟩ ρ w w':=
 ⟨λb c e=>by
  obtain⟨o,o',i,g,f⟩:=h.obj b c e;exact⟨o,o',i,(d.heap c (hd b c e)).trans g,f⟩,
  h.one,h.inj,h.nb,Nat.add_comm _ _,ht,h.env.trans d.env.symm,h.lone,h.still⟩
structure xC(C:cH)(K:dh)(T:Nat->Question->Nat)(jU:Ren)(n0:Nat)(base:fV)(ρ:Ren)(fr:Frame)(cs:fV)(w:aS)(X:aV):Prop where
 frames:∃aQ a9,X.g=a0 aQ (a9++base)/\et C ρ fr aQ/\iX C ρ cs a9
 bottom:iY fr cs
 world:eL C ⟨w.drawn,X.w.drawn,0,T⟩ ρ w X.w
 le:Ren.le jU ρ
 mine:∀b,ρ.mine b->X.mine b
 dom:∀a b,ρ.rel a b->K b\/X.mine b
 old:∀a b,ρ.rel a b->jU.rel a b\/n0<=b
 size:n0<=X.w.heap.size
def Xh(hC:C.Good){base:fV}{d:Ren}(QE:et C d pu ER)(QF:iX C d cs0 xD)(S:iY pu cs0){K qY:dh}(hw:∀T,eL C ⟨w0.drawn,mn.drawn,0,T⟩ d {w0 with tape:=T} mn)(u:∀b,d.mine b->qY b)(hK:∀a b,d.rel a b->K b\/qY b){R:Frame->List Frame->aS->Prop}(hrun:∀T,∃n dx cse bN,runN C.P n (lone pu (cs0++[eM f]) {w0 with tape:=T})=.next (lone dx (cse++[eM f]) bN)/\R dx cse bN)(main:Bool):
 oD C.Q main K (HP base) (λX=>∃ρ fr cs w T,R fr cs w/\xC C K T d mn.heap.size base ρ fr cs w X) ⟨a0 ER (xD++base),mn,qY⟩:=by
 generalize HQ:(λX=>∃ρ fr cs w T,R fr cs w/\xC C K T d mn.heap.size base ρ fr cs w X)=post
 have aBo:∀X,(∃ρ fr cs w T,R fr cs w/\xC C K T d mn.heap.size base ρ fr cs w X)->post X:=AA
 clear HQ
 apply vaw
 intro hn
 generalize QG:(⟨a0 ER (xD++base),mn,qY⟩:aV)=LB at hn
 obtain⟨X,v,I,pw,dg⟩:=aio C.Q main K (HP base) post LB
 let B:Nat->Nat:=λk=>(v k).drawn
 let E:Nat->Nat:=λk=>(iH (stepG C.Q main (X k).g (v k))).drawn
 obtain⟨T,hT⟩:=aip w0.drawn B E λk=>(v k).tape
 obtain⟨n,dx,cse,bN,hrun,air⟩:=hrun T
 have main:∀(n k:Nat)(ρ:Ren)(fr:Frame)(cs:fV)(w:aS),xC C K T d mn.heap.size base ρ fr cs w (X k)->w.drawn=pt w0.drawn B E k->¬oD C.Q main K (HP base) post (X k)->
  runN C.P n (lone fr (cs++[eM f]) w)=.next (lone dx (cse++[eM f]) bN)->False:=by
  intro n;induction n with
  |zero=>grind[runN,Xf,List.append_cancel_right,QD]
  |succ n Z=>
   intro k ρ fr cs w ht hd L hr;obtain⟨i,m⟩:=pw k L (by obtain⟨aQ,a9,hg,_⟩:=ht.frames;exact⟨aQ,a9,hg⟩);have p:=dg k;have O:=hT k;have N:B k=(v k).drawn:=rfl;have o:E k=(iH (stepG C.Q main (X k).g (v k))).drawn:=rfl;generalize hv:v k=g at i m p O N o;generalize aBp:X k=Y at ht L i m p o;obtain⟨aQ,a9,hg,b6,x⟩:=ht.frames;have fl:eL C ⟨w.drawn,g.drawn,E k,T⟩ ρ w g:=ht.world.rely i ht.dom λj q M=>by have:=O j q AA;rw[N,<-hd]at this;rw[ht.world.lone];grind
   rw[hg]at o m p;rcases ain hC b6 x ht.bottom fl (vbr o.symm) hr with⟨h1,h2,h3⟩|⟨n',g1,w1,P,hst,Q⟩
   .grind[QD]
   .cases P;obtain⟨σ,U,cs1,t,J,l,es',ES,hs,H,F,W,e,c,lY⟩:=hst;subst ES;rw[hs]at o m p;have D:=p _ _ _ rfl;have hsz:∀b,σ.mine b->grown Y.mine g l b:=λb r=>by
     rcases c.back b r with h|h
     .exact .inl (ht.mine b h)
     .rcases c.low b r with y|y
      .exact .inl (ht.mine b y)
      .exact .inr ⟨h,y⟩
    have A:∀a b,σ.rel a b->K b\/grown Y.mine g l b:=λa b s=>by
     rcases c.old a b s with h|h
     .exact(ht.dom a b h).imp id .inl
     .obtain⟨_,o',_,h2,_⟩:=e.obj a b s;exact .inr (.inr ⟨h,by
       grind⟩)
    have z:QB K Y.mine g (a0 t (J++base)) l es':=by refine⟨rfl,rfl,λb r u=>c.kept b r λh=>u (ht.mine b h),c.size,c.os,c.output,c.tape,c.drawn,λev aBq=>?_⟩;grind[vO,xB]
    have aBr:¬oD C.Q main K (HP base) post ⟨a0 t (J++base),l,grown Y.mine g l⟩:=λhc=>m ⟨⟨_,_,_,rfl,z⟩,λg2 w2 j4 e2=>AA⟩;have V:w1.drawn=pt w0.drawn B E (k+1):=by have LC:=e.sync;have aBs:=c.drawn;grind[pt,iH]
    refine Z (k+1) σ U cs1 w1 ?_ V AA Q;rw[D];refine⟨⟨t,J,rfl,H,F⟩,W,?_,Ren.le_trans ht.le c.le,hsz,A,λa b s=>?_,vad ht.size (vad i.size c.size)⟩
    .exact⟨e.obj,e.one,e.inj,e.nb,Nat.add_comm _ _,λj q M=>absurd M (Nat.not_lt_zero _),e.env,e.lone,e.still⟩
    .rcases c.old a b s with h|h
     .exact ht.old a b h
     .exact .inr (vad ht.size (vad i.size h))
 refine main n 0 d pu cs0 {w0 with tape:=T} ?_ rfl ?_ hrun
 .rw[I];subst QG;exact⟨⟨_,xD,rfl,QE,QF⟩,S,hw T,Ren.le_refl _,u,hK,λa b h=>.inl h,vac _⟩
 grind
def Xk(h:C.Good){base:fV}{c:Ren}(j:et C c pu ER)(i:iX C c cs0 xD)(d:iY pu cs0){K qY:dh}(e:∀T,eL C ⟨w0.drawn,mn.drawn,0,T⟩ c {w0 with tape:=T} mn)(g:∀b,c.mine b->qY b)(hK:∀a b,c.rel a b->K b\/qY b){R:Frame->List Frame->aS->Prop}(hrun:∀T,∃n dx cse bN,runN C.P n (lone pu (cs0++[eM f]) {w0 with tape:=T})=.next (lone dx (cse++[eM f]) bN)/\R dx cse bN)(main:Bool):
 jD C.Q main K (λX=>∃ρ fr cs w T,R fr cs w/\xC C K T c mn.heap.size base ρ fr cs w X) ⟨a0 ER (xD++base),mn,qY⟩:=(Xh (f:=f) h j i d e g hK hrun main).te
theorem jD.mono{Q:b4}{main:Bool}{K:dh}{post a:aV->Prop}{X:aV}(h:jD Q main K post X)(c:∀Y,post Y->a Y):jD Q main K a X:=by induction h with|done h=>exact .done (c _ h)|step ok _ b=>exact .step ok b
def aix(h:C.Good){fn:Func}{c:Code}(m:C.P.funcs[f]?=some fn)(p:fn.body=some c){args g:dp}{d:Ren}(r:aJ d args g){K qY:dh}(k:∀T,eL C ⟨w0.drawn,mn.drawn,0,T⟩ d {w0 with tape:=T} mn)(o:∀b,d.mine b->qY b)(hK:∀a b,d.rel a b->K b\/qY b){R:Ending->aS->Prop}(y:∀e w,R e w->e≠ .outgrown)(j:∀T,Calls C.P f args {w0 with tape:=T} R)(main:Bool)(base:fV):
 jD C.Q main K (λX=>∃ρ fr w T e,R e w/\fr.fn=f/\fr.leaving C.P w e/\xC C K T d mn.heap.size base ρ fr [] w X) ⟨a0 (Frame.enter C.Q f g .normal) base,mn,qY⟩:=by
 have q:iY (Frame.enter C.P f args .normal) []:=by unfold Frame.enter;exact⟨Y,Y⟩
 refine(Xk (f:=f) (base:=base) (R:=λfr cs w=>cs=[]/\∃e,R e w/\fr.fn=f/\fr.leaving C.P w e) h (.enter h.funcs r m p J1) .nil q k o hK (λT=>?_) main).mono ?_
 .obtain⟨e,bN,dx,t,i,x,s⟩:=j T [eM f];have u:Steps C.P (lone (Frame.enter C.P f args .normal) [eM f] {w0 with tape:=T}) (lone dx [eM f] bN):=by cases e with|outgrown=>grind|returned v=>exact i|panicked l=>exact i
  obtain⟨n,hn⟩:=u;grind
 grind
end
variable{ao:Type}
def LF:∀(l:List (String×ao)),l.all (λp=> !("" ==p.1))=true->l.lookup "" =none:=by grind
theorem aiA:Extern.allNextRows.lookup "" =none:=LF _ AJ
theorem aiB:Extern.allRows.lookup "" =none:=LF _ AJ
theorem aiC:Extern.allTypedRows.lookup "" =none:=LF _ AJ
theorem aiD:Extern.allGenericRows.lookup "" =none:=LF _ AJ
def iK(P:b4)(upd:Bool)(fn:Func):Bool:=fn.body.any (jR P upd)&&fn.name != "runtime.NumGoroutine"
def HU(P:b4)(upd:Bool)(fn:Func):Func:=if iK P upd fn then fn else{fn with name:= "",origin:= "",body:=none}
def ae(P:b4)(upd:Bool):b4:={P with funcs:=P.funcs.map (HU P upd)}
def ej(P:b4)(upd:Bool):cH:={P:=ae P upd,Q:=P,lV:=λc=>jR (ae P upd) upd c=true,upd:=upd}
theorem QH(P:b4)(u:Bool)(t:g4):(ae P u).underlying t=P.underlying t:=rfl
def Xm(P:b4)(u:Bool):∀(n:Nat)(t:g4),p9 (ae P u) n t=p9 P n t:=by intro n;induction n with|zero=>intro t;rfl|succ n a=>grind[p9,QH]
theorem QI(P:b4)(u:Bool)(x:uar):f_ (ae P u) x=f_ P x:=by cases x<;>rfl
theorem QJ(P:b4)(u:Bool):f_ (ae P u)=f_ P:=funext (QI P u)
def aiE(P:b4)(u:Bool)(op:BinOp)(t:g4):Be (ae P u) op t=Be P op t:=by simp_all[Be,Xm,QH]
theorem aiF(P:b4)(u:Bool)(t:g4):HA (ae P u) t=HA P t:=rfl
theorem aiG(P:b4)(u:Bool)(t:g4):HB (ae P u) t=HB P t:=rfl
theorem aiH(P:b4)(u:Bool)(t:g4):HD (ae P u) t=HD P t:=rfl
def aiI(P:b4)(u:Bool)(t:g4):xv (ae P u) t=xv P t:=by simp only[xv,Xm,QH]
def aiJ(P:b4)(u:Bool)(c:Call):EK (ae P u) c=EK P c:=by grind[EK,QJ]
def aiK(P:b4)(u:Bool)(c:Call):HI (ae P u) c=HI P c:=by grind[HI,QJ]
def Xn(P:b4)(upd u:Bool)(o:Op):mK (ae P u) upd o=mK P upd o:=by simp_all[mK,QJ,aiE,aiF,aiG,aiH,aiI,aiJ,aiK]
def Xo(P:b4)(upd u:Bool)(c:Code):jR (ae P u) upd c=jR P upd c:=by induction c with|region id ops d=>simp only[jR,Xn]|seq a b h g=>grind[jR]|cond c a b h g=>grind[jR,QI]|block id b e=>grind[jR]|loop b e=>grind[jR]|scope b e=>grind[jR]|rangeFunc f p a b h g=>grind[jR,QI]| _=>rfl
def Xp{P:b4}{upd:Bool}{fn:Func}(h:(ae P upd).funcs[f]?=some fn):∃a,P.funcs[f]?=some a/\fn=HU P upd a:=by simp only[ae,vcj]at h;grind
def bw{P:b4}{upd:Bool}{fn:Func}(h:P.funcs[f]?=some fn)(hk:iK P upd fn=true):(ae P upd).funcs[f]?=some fn:=by simp_all[ae,HU]
def aiL(P:b4)(upd:Bool):(ej P upd).Bf:=by
 refine⟨λf fn c h b=>?_,λf fn h b ρ a a' m=>?_⟩
 .obtain⟨d,h0,rfl⟩:=Xp h;unfold HU at b⊢;by_cases hk:iK P upd d=true
  .rw[vby hk]at b⊢;simp only[iK,vaf,bne_iff_ne,b,Option.any_some]at hk;exact⟨h0,(Xo P upd upd c).trans hk.1,hk.2⟩
  grind
 .obtain⟨d,h0,e⟩:=Xp h;have g:fn.name= "" /\fn.origin= "" :=by
   unfold HU at e;by_cases hk:iK P upd d=true
   .simp_all[iK]
   grind
  intro S w w' l hg _;exfalso;have k:Extern.findNext fn=none:=by grind[Extern.findNext,aiA]
  have j:Extern.find fn=none:=by grind[Extern.find,aiB,aiC,aiD]
  have:∃u w1,(callFunc f a).run (ae P upd) w=.halt (.unsupported (.extern u)) w1:=by unfold callFunc;refine⟨ "",w,?_⟩;have i:(ae P upd).funcs[f]?=some fn:=h;simp only[mH,Go.program,Sem.run,i,g.1,b,k,j];rfl
  obtain⟨u,w1,n⟩:=this;simp_all[Good,callFunc,ae]
def zB(i:TypeInfo):Prop:=∀v,i.zero=some v->iW v
def EU{d:TypeDesc}{s:String}{z:Value}{c:Bool}{n:Nat}(h:iW z):zB (Made.word d s z c n):=by intro v hv;grind[Made.word]
theorem kj.append{a b:dp}(d:kj a)(c:kj b):kj (a++b):=by
 intro i v h;rw[Array.getElem?_append]at h;split at h
 .exact d _ _ h
 .exact c _ _ h
def kj.aiM{z:dp}(b:kj z)(n:Nat):kj (Array.replicate n z).flatten:=by induction n with|zero=>intro i v h;grind|succ n a=>rw[vce];simp only[Array.flatten_push];exact a.append b
variable{aI:Type}
def aiN(I:aI->Prop)(f:ao->aI->Option (ForInStep aI))(hstep:∀a b r,I b->f a b=some r->∃c,r=.yield c/\I c):
 ∀(l:List ao)(b r:aI),I b->forIn l b f=some r->I r:=by
 intro l;induction l with|nil=>grind|cons a l d=>intro b r g h;simp only[List.forIn_cons]at h;cases e:f a b with|none=>grind|some s=>grind
variable{info:TypeId->Option TypeInfo}
def aiO(hi:∀t i,info t=some i->zB i){fs:Array Field}{i:TypeInfo}(h:Made.reckonStruct info fs=some i):zB i:=by
 unfold Made.reckonStruct at h;simp only[bind,vbe]at h;obtain⟨s,hs,h⟩:=h;have n:∀z,s.2.2.2.2.2.2.2.1=some z->kj z:=by
  rw[<-Array.forIn_toList]at hs;refine aiN (λs:Array Field×Nat×Nat×Nat×Nat×Bool×Bool×Option (Array Value)×String=>∀z,s.2.2.2.2.2.2.2.1=some z->kj z) _ ?_ _ _ _ ?_ hs
  .intro f b r l d;simp only[vbe]at d;obtain⟨j,k,d⟩:=d;have key:∀(c:Prop)[Decidable c](z:dp),(if c then none else b.2.2.2.2.2.2.2.1.bind λa=>j.zero.bind λv=>pure (a++v.cells))=some z->kj z:=by
    intro c _ z e;split at e
    .cases e
    .simp only[vbe,pure,vbi]at e;obtain⟨a,m,v,hv,rfl⟩:=e;exact(l a m).append (hi _ _ k v hv).cells
   have leaf:∀{x:Array Field×Nat×Nat×Nat×Nat×Bool×Bool×Option (Array Value)×String},(pure (ForInStep.yield x):Option (ForInStep _))=some r->(∀z,x.2.2.2.2.2.2.2.1=some z->kj z)->∃g,r=.yield g/\∀z,g.2.2.2.2.2.2.2.1=some z->kj z:=
    λp o=>⟨_,(van p).symm,o⟩
   split at d
   .cases d
   split at d
   .cases d
   split at d
   all_goals
    simp only[vbe]at d;obtain⟨_,_,d⟩:=d;split at d
    .exact leaf d λz e=>key _ z e
    .exact leaf d λz e=>key _ z e
  .intro z e;cases e;intro i v h;grind
 have dK:∀v,Option.map Value.agg s.2.2.2.2.2.2.2.1=some v->iW v:=by intro v hv;rw[vaj]at hv;obtain⟨z,e,rfl⟩:=hv;exact .agg (n z e)
 split at h
 .cases h;exact dK
 .cases h;exact dK
def aiP(hi:∀t i,info t=some i->zB i){d:TypeDesc}{i:TypeInfo}(h:Made.reckon info d=some i):zB i:=by
 cases d with
 |pointer e=>
  simp only[Made.reckon,bind,vbe]at h;obtain⟨j,_,h⟩:=h;split at h
  .cases h
  .split at h
   .cases h
   .simp only[vbe,pure,vbi]at h;obtain⟨_,_,rfl⟩:=h;exact EU .lu
  .simp only[vbe,pure,vbi]at h;obtain⟨_,_,rfl⟩:=h;exact EU .lu
 |slice e=>simp only[Made.reckon,bind,vbe,pure,vbi]at h;obtain⟨_,_,_,_,rfl⟩:=h;exact EU (.jP _ _)
 |map k e=>simp only[Made.reckon,bind,vbe,pure,vbi]at h;obtain⟨_,_,_,_,_,_,_,_,rfl⟩:=h;exact EU .pi
 |chan dir e=>simp only[Made.reckon,bind,vbe,pure,vbi]at h;obtain⟨_,_,_,_,rfl⟩:=h;exact EU .pj
 |func ps rs v=>simp only[Made.reckon,bind,vbe,pure,vbi]at h;obtain⟨_,_,rfl⟩:=h;exact EU .nilFunc
 |array n e=>
  simp only[Made.reckon,bind,vbe,pure,vbi]at h;obtain⟨j,b,_,_,rfl⟩:=h;intro v hv;simp only at hv;split at hv
  .cases hv
  .split at hv
   .cases hv;exact .agg λi v h=>AA
   .simp only[vaj]at hv;obtain⟨z,a,rfl⟩:=hv;exact .agg ((hi e j b z a).cells.aiM n)
 |struct fs=>exact aiO hi h
 | _=>cases h
def aiQ{T:Tables}(h:∀i∈T.types,zB i):∀(n:Nat)(t:g4)(i:TypeInfo),Made.infoAt T n t=some i->zB i:=by
 intro n;induction n with
 |zero=>intro t i hi;cases hi
 |succ n a=>
  intro t i hi;simp only[Made.infoAt]at hi;split at hi
  .exact h i (vbf hi)
  .simp only[vbe]at hi;obtain⟨d,_,hd⟩:=hi;exact aiP a hd
def aiR{P:b4}{upd:Bool}(h:(P.types.all λi=>i.zero.all (ik 8))=true):(ej P upd).rW:=by
 have ht:∀i∈P.types,zB i:=by intro i hi v hv;grind[Array.all_eq_true_iff_forall_mem,WS]
 intro t i v hi hv;have hi:P.info? t=some i:=hi;unfold Tables.info? at hi;split at hi
 .exact ht i (vbf hi) v hv
 .exact aiQ ht _ t i hi v hv
def Xq{P:b4}(upd:Bool)(h:(P.types.all λi=>i.zero.all (ik 8))=true)(a:P.follows .rangeFuncRecover=true):(ej P upd).Good:=
 ⟨Y,aiR h,aiL P upd,λ_=>Iff.rfl,a⟩
def eS(D M:dh):Ren:=⟨λa b=>a=b/\D b,M⟩
def aiS{a:Array ao}{b:Array aI}(h:a.size=b.size){i:Nat}{y:aI}(c:b[i]?=some y):∃x,a[i]?=some x:=by
 have hi:i<b.size:=by grind
 simp_all
section
variable{ρ σ:Ren}
def dr.right(h:∀a b,ρ.rel a b->σ.rel b b){a a':Addr}(k:dr ρ a a'):dr σ a' a':=⟨h _ _ k.1,Y,Y⟩
def s8.right(h:∀a b,ρ.rel a b->σ.rel b b){f f':Fn}(k:s8 ρ f f'):s8 σ f' f':=by cases k with|func f=>exact .func f|yield c=>exact .yield (h _ _ c)
theorem ar.right(h:∀a b,ρ.rel a b->σ.rel b b){v d:Value}(k:ar ρ v d):ar σ d d:=by
 have all:∀{a a':dp},a.size=a'.size->(∀(i:Nat)(v d:Value),a[i]?=some v->a'[i]?=some d->ar σ d d)->∀(i:Nat)(x y:Value),a'[i]?=some x->a'[i]?=some y->ar σ x y:=by grind
 induction k with|bool b=>exact .bool b|int k n=>exact .int k n|string s=>exact .string s|lu=>exact .lu|ptr r=>exact .ptr (r.right h)|jP l c=>exact .jP l c|slice l c r=>exact .slice l c (r.right h)|pi=>exact .pi|map r=>exact .map (h _ _ r)|pj=>exact .pj|func j o m _ _ g f=>exact .func (j.right h) Y Y (all o g) (all m f)|nilFunc=>exact .nilFunc|iface t _ e=>exact .iface t e|nilIface=>exact .nilIface|agg hs _ e=>exact .agg Y (all hs e)|tuple hs _ e=>exact .tuple Y (all hs e)
theorem aJ.right(h:∀a b,ρ.rel a b->σ.rel b b){a a':dp}(k:aJ ρ a a'):aJ σ a' a':=by refine⟨Y,λi x y c d=>?_⟩;rw[c]at d;cases d;obtain⟨z,e⟩:=aiS k.size c;exact(k.get i z x e c).right h
def cE.right{R:ao->aI->Prop}{c:aI->aI->Prop}(h:∀a b,R a b->c b b){l:List ao}{m:List aI}(k:cE R l m):cE c m m:=by induction k with|nil=>exact .nil|cons x _ d=>exact .cons (h _ _ x) d
theorem gN.right{C:cH}(h:∀a b,ρ.rel a b->σ.rel b b){o o':Obj}(k:gN C ρ o o'):gN C σ o' o'\/K_ o':=by cases k with|cells e hc f=>exact .inl (.cells e (hc.right h) ⟨λ_ x=>x,λ_=>Y⟩)|map c d=>exact .inl (.map c (d.right λa b x=>⟨x.key.right h,x.val.right h,Y⟩))|stringIter s p=>exact .inr trivial|A7 a b c=>exact .inr trivial|mapIter h a b c=>exact .inr trivial|loop h=>exact .inr trivial|deferred h=>exact .inr trivial|taken=>exact .inr trivial|number hn l=>exact .inl (.number (hn.right h) l)|shut h=>grind
end
def io(C:cH)(D M:dh)(w:aS):Prop:=∀b,D b->∃o,w.heap[b]?=some o/\(gN C (eS D M) o o\/K_ o)
def eL.closed{C:cH}{S:Sync}{ρ:Ren}(h:eL C S ρ w w')(M:dh):io C (λb=>∃a,ρ.rel a b) M w':=by rintro b ⟨a,e⟩;obtain⟨o,o',_,d,c⟩:=h.obj a b e;exact⟨o',d,c.right (σ:=eS (λb=>∃a,ρ.rel a b) M) λx y f=>⟨Y,x,f⟩⟩
def EV(C:cH)(D M:dh)(b:Nat)(o fC:Obj):Prop:=
 (gN C (eS D M) o o/\M b/\fC=o)\/
 (gN C (eS D M) o o/\¬M b/\((∃c e fr,o=.cells c e fr/\fC=.cells c e (0,c.size+fr.2))\/(∃a l,o=.number a l/\fC=o)\/(∃es k,o=.map es k/\C.upd=false/\fC=o)\/
  ((∀c e fr,o≠ .cells c e fr)/\(∀a l,o≠ .number a l)/\(C.upd=true\/∀es k,o≠ .map es k)/\fC=.coro none)))\/
 (¬gN C (eS D M) o o/\fC=.coro none)
def aiT(C:cH)(D M:dh)(b:Nat)(o:Obj):∃h,EV C D M b o h:=by
 by_cases d:gN C (eS D M) o o
 .by_cases f:M b
  .exact⟨o,.inl ⟨d,f,Y⟩⟩
  .cases o with
   |cells c e fr=>exact⟨_,.inr (.inl ⟨d,f,.inl ⟨c,e,fr,Y,Y⟩⟩)⟩
   |number a l=>exact⟨_,.inr (.inl ⟨d,f,.inr (.inl ⟨a,l,Y,Y⟩)⟩)⟩
   |map es k=>cases g:C.upd with|true=>exact⟨.coro none,.inr (.inl ⟨d,f,.inr (.inr (.inr ⟨Ad,Ad,.inl g,Y⟩))⟩)⟩|false=>exact⟨_,.inr (.inl ⟨d,f,.inr (.inr (.inl ⟨es,k,Y,g,Y⟩))⟩)⟩
   | _=>exact⟨.coro none,.inr (.inl ⟨d,f,.inr (.inr (.inr ⟨Ad,Ad,.inr Ad,Y⟩))⟩)⟩
 .exact⟨_,.inr (.inr ⟨d,Y⟩)⟩
def EV.rel{C:cH}{D M:dh}{b:Nat}{o j:Obj}(k:EV C D M b o j)(g:C.upd=true->M b\/¬gN C (eS D M) o o)(h:gN C (eS D M) o o\/K_ o):gN C (eS D M) j o:=by
 rcases k with⟨d,_,rfl⟩|⟨d,m,⟨c,e,fr,rfl,rfl⟩|⟨a,l,rfl,rfl⟩|⟨es,k,rfl,_,rfl⟩|⟨n1,ey,n,rfl⟩⟩|⟨d,rfl⟩
 .exact d
 .have f:=d;cases d with|cells _ hc p=>exact .cells e hc ⟨λi x=>⟨vav _,vap x.2 (Nat.le_add_left _ _)⟩,λx=>(g x).elim (λy=>absurd y m) (λy=>absurd f y)⟩
 .exact d
 .exact d
 .refine .shut ?_;have f:=d;cases d with|cells e _ _=>grind|number _ _=>grind|map _ _=>exact(n.elim (λx=>(g x).elim m λy=>y f) λx=>x _ _ Y).elim|shut h=>exact h| _=>trivial
 .exact .shut (h.resolve_left d)
def EV.still{C:cH}{D M:dh}{b:Nat}{o d:Obj}(k:EV C D M b o d)(f:C.upd=true->M b\/¬gN C (eS D M) o o)(j:¬M b):(C.upd=false/\∃c e fr,d=.cells c e fr/\∀i,i<c.size->xp fr i)\/(C.upd=false/\∃es k,d=.map es k)\/EB d:=by
 rcases k with⟨_,h,_⟩|⟨g,_,⟨c,e,fr,rfl,rfl⟩|⟨a,l,rfl,rfl⟩|⟨es,k,rfl,f,rfl⟩|⟨_,_,_,rfl⟩⟩|⟨_,rfl⟩
 .grind
 .exact .inl ⟨by
   grind,c,e,_,Y,λi hi=>⟨vav _,vap hi (vcx _ _)⟩⟩
 .exact .inr (.inr (.number a l))
 .grind
 .exact .inr (.inr .coro)
 .exact .inr (.inr .coro)
structure gP(C:cH)(D M:dh)(w w0:aS):Prop where
 size:w0.heap.size=w.heap.size
 drawn:w0.drawn=w.drawn
 os:w0.os=w.os
 obj:∀b o,w.heap[b]?=some o->∃fC,w0.heap[b]?=some fC/\EV C D M b o fC
def HV(C:cH)(D M:dh)(w:aS):∃w0,gP C D M w w0:=by obtain⟨f,a⟩:=vdn.1 λb=>vdn.1 λo=>aiT C D M b o;refine⟨{w with heap:=w.heap.mapIdx f},Ad,Y,Y,λb o h=>⟨f b o,?_,a b o⟩⟩;grind
theorem gP.rel{C:cH}{D M:dh}(h:gP C D M w w0)(p:io C D M w)(hg:∀g,g<=C.P.globals.size->D g)(m:C.upd=true->∀b,D b->M b\/∀o,w.heap[b]?=some o->¬gN C (eS D M) o o)(T:Nat->Question->Nat):
 eL C ⟨w0.drawn,w.drawn,0,T⟩ (eS D M) {w0 with tape:=T} w:=by
 refine⟨?_,?_,?_,λg h=>⟨Y,hg g h⟩,Nat.add_comm _ _,λj q u=>absurd u (Nat.not_lt_zero _),by show w0.os.env=_;rw[h.os],Y,?_⟩
 .rintro b r ⟨rfl,hd⟩;obtain⟨o,d,n⟩:=p b hd;obtain⟨l,f,i⟩:=h.obj b o d;exact⟨l,o,f,d,i.rel (λe=>(m e b hd).imp id λy=>y o d) n⟩
 .rintro a b r ⟨rfl,_⟩ ⟨rfl,_⟩;rfl
 .rintro a a' b ⟨rfl,_⟩ ⟨h,_⟩;grind
 .rintro b r ⟨rfl,hd⟩ t;obtain⟨o,d,n⟩:=p b hd;obtain⟨l,f,i⟩:=h.obj b o d;have f:({w0 with tape:=T}:aS).heap[b]?=some l:=f;rw[f];rcases i.still (λe=>(m e b hd).imp id λy=>y o d) t with⟨s,c,e,fr,rfl,v⟩|⟨s,es,k,rfl⟩|hd
  .grind
  .grind
  grind
theorem gP.cells{C:cH}{D M:dh}{w w0:aS}(h:gP C D M w w0)(q:io C D M w){b:Nat}(hd:D b){c:dp}{e:g4}{fr:ubs}(f:w.heap[b]?=some (.cells c e fr)):
 ∃pu,w0.heap[b]?=some (.cells c e pu)/\(M b->pu=fr):=by
 obtain⟨o,i,p⟩:=q b hd;rw[f]at i;cases i;have j:gN C (eS D M) (.cells c e fr) (.cells c e fr):=p.resolve_right λx=>x;obtain⟨r,g,n⟩:=h.obj b _ f;rcases n with⟨_,_,rfl⟩|⟨_,m,⟨t,s,aQ,d,rfl⟩|⟨a,l,d,_⟩|⟨es,k,d,_,_⟩|⟨n1,_,_,_⟩⟩|⟨hn,_⟩
 .exact⟨fr,g,λ_=>Y⟩
 .cases d;exact⟨_,g,λx=>absurd x m⟩
 .cases d
 .cases d
 .exact absurd Y (n1 _ _ _)
 .exact absurd j hn
def gP.Bm{C:cH}{D M:dh}(h:gP C D M w w0)(q:io C D M w)(c:C.upd=false\/∀b,D b->M b){b:Nat}(hd:D b){es:Array MapEntry}{k:Nat}(f:w.heap[b]?=some (.map es k)):
 w0.heap[b]?=some (.map es k)/\cE (qV (eS D M)) es.toList es.toList:=by
 obtain⟨o,i,p⟩:=q b hd;rw[f]at i;cases i;have e:gN C (eS D M) (.map es k) (.map es k):=p.resolve_right λx=>x;obtain⟨r,g,n⟩:=h.obj b _ f;refine⟨?_,by cases e with|map _ h=>exact h⟩;rcases n with⟨_,_,rfl⟩|⟨_,m,⟨t,s,aQ,d,rfl⟩|⟨a,l,d,_⟩|⟨es,k,d,_,rfl⟩|⟨_,_,j,_⟩⟩|⟨hn,_⟩
 .exact g
 .cases d
 .cases d
 .exact g
 .rcases c with c|c
  .exact(j.elim (λx=>by rw[c]at x;cases x) λx=>x _ _ Y).elim
  .exact absurd (c b hd) m
 .exact absurd e hn
def aiU{P:b4}{upd:Bool}(o:(ej P upd).Good){fn:Func}{c:Code}(l:P.funcs[f]?=some fn)(hk:iK P upd fn=true)(m:fn.body=some c){D M:dh}(p:io (ej P upd) D M w)(hg:∀g,g<=P.globals.size->D g){args:dp}(k:upd=true->∀b,D b->M b)(n:aJ (eS D M) args args){R:Ending->aS->Prop}(q:∀e w,R e w->e≠ .outgrown)(r:gP (ej P upd) D M w w0)(i:∀T,Calls (ae P upd) f args {w0 with tape:=T} R)(main:Bool)(base:fV):
 jD P main (λb=>D b/\¬M b) (λX=>∃ρ fr w1 T e,R e w1/\fr.fn=f/\fr.leaving (ae P upd) w1 e/\xC (ej P upd) (λb=>D b/\¬M b) T (eS D M) w.heap.size base ρ fr [] w1 X)
  ⟨a0 (Frame.enter P f args .normal) base,w,M⟩:=by
 have j:(ej P upd).P.funcs[f]?=some fn:=bw l hk;exact aix (C:=ej P upd) (w0:=w0) (mn:=w) o j m n (r.rel p hg λe b hd=>.inl (k e b hd)) (λb h=>h)
  (λa b h=>by by_cases d:M b;exact .inr d;exact .inl ⟨h.2,d⟩) q i main base
theorem xC.closed{C:cH}{K:dh}{T:Nat->Question->Nat}{c ρ:Ren}{n0:Nat}{base:fV}{X:aV}(h:xC C K T c n0 base ρ fr cs w X)(M:dh):
 io C (λb=>∃a,ρ.rel a b) M X.w:=h.world.closed M
end ax
open RowKit
def bo(w w':aS):Prop:=∀b o v,w.cell? (.a b o)=some v->w'.cell? (.a b o)=some v
theorem bo.refl(w:aS):bo w w:=λ_ _ _ h=>h
variable{a:aS}
theorem bo.trans{b c:aS}(h:bo a b)(k:bo b c):bo a c:=λx o v e=>k x o v (h x o v e)
variable{w:aS}{b:Nat}{v:Value}
def ff{o:Nat}(h:w.cell? (.a b o)=some v):b<w.heap.size:=by grind[World.cell?]
variable{w':aS}
def bo.bX(h:cJ w w'):bo w w':=λb o v e=>by rw[h.cell (p:=⟨b,o,none⟩) (ff e)];exact e
def aX{ao:Type}(w:aS)(c6:Nat)(R:aS->(Nat->Option Value)->ao->Prop)(v:Value)(xs:List ao):Prop:=
 ∃bK cap,v=.slice bK xs.length cap/\xs.length<=9223372036854775807/\
  ∀i(h:i<xs.length),∃b off,bK=some ⟨b,off,none⟩/\R w (λj=>w.cell? (.a b (off+i*c6+j))) xs[i]
def pm{ao:Type}(R:aS->(Nat->Option Value)->ao->Prop):Prop:=
 ∀w w' rd jV x,bo w w'->(∀j v,rd j=some v->jV j=some v)->R w rd x->R w' jV x
variable{c6:Nat}{ao:Type}
theorem aX.mono{R:aS->(Nat->Option Value)->ao->Prop}(k:pm R)(hk:bo w w'){xs:List ao}(h:aX w c6 R v xs):aX w' c6 R v xs:=by obtain⟨g,cap,hv,c,f⟩:=h;refine⟨g,cap,hv,c,λi hi=>?_⟩;obtain⟨b,off,d,a⟩:=f i hi;exact⟨b,off,d,k _ _ _ _ _ hk (λj v e=>hk _ _ _ e) a⟩
theorem aX.nil(w:aS)(c6:Nat)(R:aS->(Nat->Option Value)->ao->Prop):aX w c6 R (.N) []:=
 ⟨none,0,Y,Ad,AA⟩
def qb(_:aS)(rd:ual)(x:Int):Prop:=rd 0=some (.I x)
def Bo(_:aS)(rd:ual)(s:ByteArray):Prop:=rd 0=some (.string s)/\s.size<=9223372036854775807
def zC(_:aS)(rd:ual)(x:Bool):Prop:=rd 0=some (.bool x)
def LG(_:aS)(rd:ual)(t:ubl):Prop:=rd 0=some (.I t.1)/\rd 1=some (.I t.2)
theorem j6:pm qb:=λ_ _ _ _ _ _ a h=>a _ _ h
def QK:pm zC:=λ_ _ _ _ _ _ a h=>a _ _ h
def QL:pm Bo:=λ_ _ _ _ _ _ a h=>⟨a _ _ h.1,h.2⟩
def px:pm LG:=λ_ _ _ _ _ _ a h=>⟨a _ _ h.1,a _ _ h.2⟩
abbrev dP(w:aS):=aX w 1 qb
abbrev QM(w:aS):=aX w 1 Bo
abbrev HW(w:aS):=aX w 1 zC
abbrev gl(w:aS):=aX w 2 LG
structure aG where
 kind:Int
 bV:Int
 fU:List Int
 eF:List ByteArray
 dk:List Bool
structure tf(w:aS)(bj vs aY:Value)(c:aG):Prop where
 fU:dP w bj c.fU
 eF:QM w vs c.eF
 dk:HW w aY c.dk
def vS(w:aS)(rd:ual)(c:aG):Prop:=
 ∃bj vs aY,rd 0=some (.I c.kind)/\rd 1=some (.I c.bV)/\rd 2=some bj/\rd 3=some vs/\rd 4=some aY/\tf w bj vs aY c
variable{aY vs:Value}
theorem tf.mono(hk:bo w w'){bj:Value}{c:aG}(h:tf w bj vs aY c):tf w' bj vs aY c:=
 ⟨h.fU.mono j6 hk,h.eF.mono QL hk,h.dk.mono QK hk⟩
theorem tf.shape{bj:Value}{c:aG}(h:tf w bj vs aY c):∃d ci a b an e,bj=.slice d c.fU.length ci/\vs=.slice a c.eF.length b/\aY=.slice an c.dk.length e:=by obtain⟨d,ci,i,-,-⟩:=h.fU;obtain⟨a,b,g,-,-⟩:=h.eF;obtain⟨an,e,f,-,-⟩:=h.dk;grind
def tg:pm vS:=λ_ _ _ _ _ hk a⟨bj,vs,aY,h0,e,d,c,b,hc⟩=>
 ⟨bj,vs,aY,a _ _ h0,a _ _ e,a _ _ d,a _ _ c,a _ _ b,hc.mono hk⟩
abbrev nX(w:aS):=aX w 5 vS
def QN(w:aS)(rd:ual)(t:List aG):Prop:=∃v,rd 0=some v/\nX w v t
def HX:pm QN:=λ_ _ _ _ _ hk a⟨v,h0,h⟩=>⟨v,a _ _ h0,h.mono tg hk⟩
abbrev Bp(w:aS):=aX w 1 QN
structure QO where
 op:Int
 a:Int
 v:Int
 s:ByteArray
def Xt(_:aS)(rd:ual)(t:QO):Prop:=
 rd 0=some (.I t.op)/\rd 1=some (.I t.a)/\rd 2=some (.I t.v)/\rd 3=some (.string t.s)/\t.s.size<=9223372036854775807
def aiY:pm Xt:=λ_ _ _ _ _ _ a h=>⟨a _ _ h.1,a _ _ h.2.1,a _ _ h.2.2.1,a _ _ h.2.2.2.1,h.2.2.2.2⟩
abbrev aiZ(w:aS):=aX w 4 Xt
def Xu(w:aS)(rd:ual)(e:List QO):Prop:=∃v,rd 0=some v/\aiZ w v e
def ai0:pm Xu:=λ_ _ _ _ _ hk a⟨v,h0,h⟩=>⟨v,a _ _ h0,h.mono aiY hk⟩
abbrev ai1(w:aS):=aX w 1 Xu
abbrev ai2(w:aS):=aX w 2 LG
structure oE where
 op:Int
 a:Int
 b:Int
 HY:List (List QO)
 Bq:List Int
 others:List Int
 HZ:List (Int×Int)
structure EW(w:aS)(nY c7 ni b8:Value)(n:oE):Prop where
 HY:ai1 w nY n.HY
 Bq:dP w c7 n.Bq
 others:dP w ni n.others
 HZ:ai2 w b8 n.HZ
variable{b8 c7 nY ni:Value}
theorem EW.mono(hk:bo w w'){n:oE}(h:EW w nY c7 ni b8 n):EW w' nY c7 ni b8 n:=
 ⟨h.HY.mono ai0 hk,h.Bq.mono j6 hk,h.others.mono j6 hk,h.HZ.mono px hk⟩
theorem EW.shape{n:oE}(h:EW w nY c7 ni b8 n):∃vT ce d a c te aa b,nY=.slice vT n.HY.length ce/\c7=.slice d n.Bq.length a/\ni=.slice c n.others.length te/\b8=.slice aa n.HZ.length b:=by obtain⟨vT,ce,i,-,-⟩:=h.HY;obtain⟨d,a,g,-,-⟩:=h.Bq;obtain⟨c,te,f,-,-⟩:=h.others;obtain⟨aa,b,e,-,-⟩:=h.HZ;grind
def Xv(w:aS)(rd:ual)(n:oE):Prop:=
 ∃nY c7 ni b8,rd 0=some (.I n.op)/\rd 1=some (.I n.a)/\rd 2=some (.I n.b)/\rd 3=some nY/\rd 4=some c7/\rd 5=some ni/\rd 6=some b8/\EW w nY c7 ni b8 n
def QP:pm Xv:=λ_ _ _ _ _ hk a⟨nY,c7,ni,b8,h0,e,d,c,b,g,f,h⟩=>
 ⟨nY,c7,ni,b8,a _ _ h0,a _ _ e,a _ _ d,a _ _ c,a _ _ b,a _ _ g,a _ _ f,h.mono hk⟩
abbrev QQ(w:aS):=aX w 7 Xv
abbrev Br(t:ubl):Value:=.agg #[.I t.1,.I t.2]
variable{W w1:aS}
def Xw(a:cJ W w1):(∀b o,b<W.heap.size->w1.cell? (.a b o)=W.cell? (.a b o))/\(∀b o,b<W.heap.size->w1.frozen? ⟨b,o,none⟩=W.frozen? ⟨b,o,none⟩):=
 ⟨λb o h=>a.cell (p:=⟨b,o,none⟩) h,λb o h=>a.frozen (p:=⟨b,o,none⟩) h⟩
def after(B:Nat)(a:cJ W w1)(c:B<=W.heap.size):(∀b o,b<B->w1.cell? (.a b o)=W.cell? (.a b o))/\(∀b o,b<B->w1.frozen? ⟨b,o,none⟩=W.frozen? ⟨b,o,none⟩)/\B<=w1.heap.size:=
 ⟨λb o h=>(Xw a).1 b o AP,λb o h=>(Xw a).2 b o AP,by have:=a.size;omega⟩
theorem Below.step{B:Nat}{w W w1:aS}(a:cJ W w1)(h:Below B w W)(b:B<=W.heap.size):Below B w w1:=h.trans (a.mono b)
theorem bo.alloc(h:bo a w)(o:Obj):bo a (w.alloc o):=
 h.trans (bo.bX ((vaa _ _).alloc JT o))
theorem bo.drew(h:bo a w):bo a w.drew:=λb o v e=>by simpa using h b o v e
theorem bo.step{a W w1:aS}(h:bo a W)(b:cJ W w1):bo a w1:=h.trans (bo.bX b)
def ai(w:aS)(b:Nat)(cs:dp)(T:g4):Prop:=w.heap[b]?=some (.cells cs T (0,0))
variable{cs:dp}{T:g4}
def ai.lt(h:ai w b cs T):b<w.heap.size:=by grind[ai]
theorem ai.rules(h:ai w b cs T):(∀o,w.cell? (.a b o)=cs[o]?)/\(∀o,w.frozen? ⟨b,o,none⟩=false):=by grind[ai,World.cell?,World.frozen?]
def ai.all(h:ai w b cs T):(∀o,w.cell? (.a b o)=cs[o]?)/\(∀o,w.frozen? ⟨b,o,none⟩=false)/\b<w.heap.size:=⟨h.rules.1,h.rules.2,h.lt⟩
variable{B:Nat}
def ai.below(h:ai w b cs T)(a:Below B w w')(c:b<B):ai w' b cs T:=by unfold ai at *;rw[a.block b c];exact h
def ai.call(h:ai w b cs T)(a:cJ w w'):ai w' b cs T:=h.below a h.lt
theorem ai.alloc(h:ai w b cs T)(o:Obj):ai (w.alloc o) b cs T:=
 h.call ((vaa _ _).alloc JT o)
theorem ai.drew(h:ai w b cs T):ai w.drew b cs T:=h
def ai.new(w:aS)(cs:dp)(T:g4):ai (w.alloc (.cells cs T)) w.heap.size cs T:=by exact heap_alloc_new w _
def ai.set(h:ai w b cs T)(o:Nat)(v:Value):ai (w.setCell ⟨b,o,none⟩ v) b (cs.setIfInBounds o v) T:=by grind[ai,World.setCell]
def ai.gx(h:ai w b cs T){a:Addr}(c:b≠a.block)(v:Value):ai (w.setCell a v) b cs T:=by grind[ai,Below.heap_setCell]
structure py(P:b4)(t e:g4)(z:Value)(size bytes:Nat):Prop where
 ht:P.underlying t=some (.slice e)
 hi:(P.info? e).map (λi=>(i.zero,i.size,i.bytes))=some (some z,size,bytes)
 LI:z.cells.size=size
 hsz:0<size
variable{size:Nat}{z:Value}{e t:g4}{P:b4}{ops:eY}{Q:uai}
def LJ{bytes:Nat}(E:py P t e z size bytes)(w:aS){rest:uba}{o:Oper}{a:Act}(B:o.guard=none)(s x:uar)(p:o.op=.call {callee:=.builtin .append,args:=#[s,x],argTypes:=#[t,t]})(base:Nat)(v:Value)(n:Nat)(xs:uad)(hs:a.eval s=v)(C:w.ownsRow base e size v n xs)(b m c:Nat)(news:uad)(l:a.eval x=.S b 0 m c)(r:news.length=m*size)(F:∀j u,news[j]?=some u->w.cell? (.a b j)=some u)(y:∀u∈news,u.oneCell'=true)(q:0<m)(D:(n+m)*bytes<=140737488355328)(J:n+m<=9223372036854775807)(d:base<=w.heap.size)(H:Nat)(A:w.heap.size=H)(h:∀g cap w',w'.ownsRow base e size (.S g 0 (n+m) cap) (n+m) (xs++news)->w.grownBy w' v.ownBlock->(v.ownBlock=some g\/g=H)->g<w'.heap.size->wpList P ops Q rest (a.put o.dst (.S g 0 (n+m) cap)) w'):
 wpList P ops Q (o::rest) a w:=by
 obtain⟨i,hi,k,hsz,f⟩:=vch E.hi;exact wpList_append_lies w B s x t p base e i z size bytes E.ht hi k hsz f E.LI E.hsz v n xs hs C ⟨b,0,none⟩ m c news l r (λj u I=>by simp_all[vdz]) y q Fu D d H A h
def ai3{bytes:Nat}(E:py P t e z size bytes)(w:aS){o:Oper}{a:Act}{K:uag}{F:Prop}(B:o.guard=none)(s x:uar)(p:o.op=.call {callee:=.builtin .append,args:=#[s,x],argTypes:=#[t,t]})(base:Nat)(v:Value)(n:Nat)(xs:uad)(hs:a.eval s=v)(C:w.ownsRow base e size v n xs)(b m c:Nat)(news:uad)(l:a.eval x=.S b 0 m c)(r:news.length=m*size)(I:∀j u,news[j]?=some u->w.cell? (.a b j)=some u)(y:∀u∈news,u.oneCell'=true)(q:0<m)(D:(n+m)*bytes<=140737488355328)(L:n+m<=9223372036854775807)(d:base<=w.heap.size)(H:Nat)(A:w.heap.size=H)(h:∀g cap w',w'.ownsRow base e size (.S g 0 (n+m) cap) (n+m) (xs++news)->w.grownBy w' v.ownBlock->(v.ownBlock=some g\/g=H)->g<w'.heap.size->K (a.put o.dst (.S g 0 (n+m) cap)) w'):
 if Region.wanted o (yielded ops a.tmps)=true then Oper.wp P o a w K Q else F:=by
 obtain⟨i,hi,k,hsz,f⟩:=vch E.hi;exact step_append_lies w B s x t p base e i z size bytes E.ht hi k hsz f E.LI E.hsz v n xs hs C ⟨b,0,none⟩ m c news l r (λj u J=>by simp_all[vdz]) y q Fu D d H A h
def H2(l:uac):List Value:=l.flatMap λt=>[.I t.1,.I t.2]
theorem Xx(l:uac)(i:Nat)(hi:i<l.length):(H2 l)[i*2]?=some (.I l[i].1)/\(H2 l)[i*2+1]?=some (.I l[i].2):=by induction l generalizing i with|nil=>grind|cons t r a=>cases i with|zero=>simp[H2]|succ i=>grind[H2]
variable{n:Nat}{xs:uad}
theorem Bs{base:Nat}{g cap:Nat}(h:w.ownsRow base e size (.S g 0 n cap) n xs)(j:Nat)(u:Value)(a:xs[j]?=some u):w.cell? (.a g j)=some u:=by have:=h.cells (g:=g) Y j u a;rwa[vdz,vbm]at this
def gl.EY{base:Nat}{l:uac}(h:w.ownsRow base e 2 v l.length (H2 l))(a:l.length<=9223372036854775807):gl w v l:=by
 have b:=h;rcases b.2 with⟨rfl,h0⟩|⟨g,cap,bd,rfl,c⟩
 .grind[aX.nil]
 .refine⟨_,cap,Y,a,λi hi=>⟨g,0,Y,?_,?_⟩⟩
  .simp;grind[Bs,Xx]
  .simp;exact Bs h _ _ (Xx l i hi).2
def h9{base:Nat}(h:w.ownsRow base e size v n xs):∃a c,v=.slice a n c:=by
 rcases h.2 with⟨rfl,rfl⟩|⟨g,cap,bd,rfl,-⟩
 .grind
 grind
def H3{base:Nat}(h:w.ownsRow base e size v n xs)(b:Below B w w')(a:∀g,v.ownBlock=some g->g<B):w'.ownsRow base e size v n xs:=by
 refine⟨h.1,?_⟩;rcases h.2 with hn|⟨g,cap,bd,rfl,c,d,rest⟩
 .grind
 .refine .inr ⟨g,cap,bd,Y,c,?_,rest⟩;rw[b.block g (a g Y)];grind
def Xy{base:Nat}(h:w.ownsRow base e size v n xs)(a:cJ w w'):w'.ownsRow base e size v n xs:=
 H3 h a (λg hg=>(h.lt g hg).2)
theorem ai.grown{row:ubg}(h:ai w b cs T)(hg:w.grownBy w' row)(a:∀g,row=some g->b≠g):ai w' b cs T:=by unfold ai at *;rw[hg.block b (ai.lt h) AA];exact h
def QX{bytes:Nat}(E:py P t e z size bytes)(w:aS){rest:uba}{o:Oper}{a:Act}(hg:o.guard=none)(l c:uar)(d:o.op=Op.makeSlice t l c)(f kc:IntKind)(n:Nat)(j:a.eval l=.int f n)(hc:a.eval c=.int kc n)(r:bytes*n<=281474976710656)(hn:n<=9223372036854775807)(hK:∀w' bd,ai w' w.heap.size bd e->bd.size=n*size->cJ w w'->wpList P ops Q rest (a.put o.dst (.S w.heap.size 0 n n)) w'):
 wpList P ops Q (o::rest) a w:=by
 obtain⟨i,hi,h,hsz,q⟩:=vch E.hi;refine wpList_make_full w hg l c t d w.heap.size e i z size E.ht hi h hsz f kc _ _ n j hc Y Y AA Fu JT ?_;intro w' m b;rcases m.2 with⟨h0,_⟩|⟨g,cap,bd,hv,_,p,_,_,hs,_⟩
 .grind
 .simp at hv;obtain⟨rfl,rfl⟩:=hv;exact hK w' bd p hs ⟨b.os,b.tape,b.output,b.size,λk hk=>b.block k hk Ad⟩
theorem aX.shape{R:aS->(Nat->Option Value)->ao->Prop}{xs:List ao}(h:aX w c6 R v xs):∃a cap,v=.slice a xs.length cap/\xs.length<=9223372036854775807:=by obtain⟨a,cap,hv,b,-⟩:=h;grind
def fv(T:g4)(w:aS)(v:Value):Prop:=∀b off n c,v=.S b off n c->∃k,w.shape? b=some (T,k)
def fv.box(h:ai w b cs T)(off n c:Nat):fv T w (.S b off n c):=by intro g a d f e;simp at e;simp_all[ai,World.shape?]
def fv.EY{base:Nat}(h:w.ownsRow base T size v n xs):fv T w v:=by
 rcases h.2 with⟨rfl,_⟩|⟨g,cap,bd,rfl,_,hg,_⟩
 .intro b off n c e;grind
 simp_all[fv.box,ai]
def fv.call(h:fv T w v)(d:cJ w w'):fv T w' v:=by
 intro b off n c e;obtain⟨k,hk⟩:=h b off n c e;refine⟨k,?_⟩;have a:b<w.heap.size:=by grind[World.shape?]
 simp[World.shape?]at hk⊢;rw[d.block b a];exact hk
def fv.set(h:fv T w v)(a:Addr)(u:Value):fv T (w.setCell a u) v:=by intro b off n c e;obtain⟨k,hk⟩:=h b off n c e;refine⟨k,?_⟩;simp[World.shape?,World.setCell,vbb]at hk⊢;grind
theorem fv.grown(h:fv T w v){row:ubg}(hg:w.grownBy w' row)(d:∀b off n c,v=.S b off n c->row≠some b):fv T w' v:=by
 intro b off n c e;obtain⟨k,hk⟩:=h b off n c e;refine⟨k,?_⟩;have a:b<w.heap.size:=by grind[World.shape?]
 simp[World.shape?]at hk⊢;rw[hg.block b a AA];exact hk
def EZ(cs:dp)(l:uac)(k:Nat):Prop:=∀j(h:j<l.length),j<k->cs[j*2]?=some (.I l[j].1)/\cs[j*2+1]?=some (.I l[j].2)
theorem EZ.step{cs:dp}{l:uac}{k:Nat}(h:EZ cs l k)(hk:k<l.length)(hs:cs.size=l.length*2):
 EZ ((cs.setIfInBounds (k*2) (.I l[k].1)).setIfInBounds (k*2+1) (.I l[k].2)) l (k+1):=by
 intro j a b;by_cases e:j=k
 .grind
 .have:=h j a AP;grind
def gl.eN{l:uac}(h:ai w b cs T)(c:l.length<=9223372036854775807)(a:EZ cs l l.length)(cap:Nat):gl w (.S b 0 l.length cap) l:=by
 refine⟨_,cap,Y,c,λi hi=>⟨b,0,Y,?_,?_⟩⟩
 .simp;rw[h.rules.1];exact(a i hi hi).1
 .simp;rw[h.rules.1];exact(a i hi hi).2
namespace bS
open RowKit
structure jp(W W':aS):Prop where
 size:W.heap.size<=W'.heap.size
 cells:∀(b:Nat)(c:dp)(e:g4)(z:ubs),W.heap[b]?=some (Obj.cells c e z)->W'.heap[b]?=some (Obj.cells c e z)
variable{w:aS}
def jE{b:Nat}{o:Obj}(h:w.heap[b]?=some o):b<w.heap.size:=(vas.1 h).1
variable{W:aS}
def jp.below{W':aS}(h:cJ W W'):jp W W':=⟨h.size,λb _ _ _ e=>(h.block b (jE e)).trans e⟩
theorem jp.trans{A B C:aS}(h:jp A B)(k:jp B C):jp A C:=⟨vad h.size k.size,λb c e z x=>k.cells b c e z (h.cells b c e z x)⟩
variable{l:Nat}
theorem jp.put{r r':Loop}(h:W.heap[l]?=some (.loop r)):jp W (W.putObj l (.loop r')):=
 ⟨Ad,λb c e z x=>by
  grind[World.putObj_heap_other]⟩
variable{nZ:Nat}
def uq(o:Obj)(h:nZ<=l):Below nZ W (W.putObj l o):=
 ⟨Y,Y,Y,Ad,λk hk=>vat AP⟩
def LP(n:Nat)(P:b4)(g:Nat)(lb:dp)(Row:uau)(N nZ:Nat)(w0:aS):Prop:=
 ∀(l:Nat)(S:dh)(J:ubo)(W:aS),Below nZ w0 W->(∀t W,J t W->∀b,S b->b<W.heap.size)->(∀t W W',J t W->jp W W'->(∀b,S b->W'.heap[b]?=W.heap[b]?)->J t W')->
  (∀t x W1,J t W1->t<N->Row t W1 x->YieldAt Fence.wide (n-1) P l #[x] W1 λe W'=>e=.returned (.T)/\J (t+1) W'/\Below nZ W1 W')->
  J 0 W->CallsIn Fence.wide n P g (#[.func (.yield l) #[] #[]]++lb) W λe W'=>(∃v,e=.returned v)/\J N W'/\Below nZ W W'
def ajp{S:dh}{J:ubo}(a:∀t W,J t W->∀b,S b->b<W.heap.size)(d:∀t W W',J t W->jp W W'->(∀b,S b->W'.heap[b]?=W.heap[b]?)->J t W'):∀t W W',J t W->cJ W W'->J t W':=
 λt W W' h c=>d t W W' h (.below c) λb hs=>c.block b (a t W h b hs)
structure Ia(D D':dh)(W W':aS):Prop where
 less:∀b,b<W.heap.size->D' b->D b
 same:∀b,b<W.heap.size->¬D b->W'.heap[b]?=W.heap[b]?
def E4(X:Prop)(L n:Nat)(P:b4)(g:Nat)(lb:dp)(Row:uau)(N nZ:Nat)(w0:aS):Prop:=
 ∀(l:Nat)(S:dh)(J:ubj)(D:dh)(W:aS),Below nZ w0 W->(∀t D W,J t D W->∀b,S b\/D b->b<W.heap.size)->(∀t D W W',J t D W->jp W W'->(∀b,S b->W'.heap[b]?=W.heap[b]?)->J t D W')->
  (∀t x D W1,J t D W1->t<N->t<L->Row t W1 x->YieldAt Fence.wide (n-1) P l #[x] W1 λe W'=>e=.returned (.bool (decide (t+1≠L)))/\(∃D',J (t+1) D' W'/\(X->Ia D D' W1 W'))/\Below nZ W1 W')->
  J 0 D W->CallsIn Fence.wide n P g (#[.func (.yield l) #[] #[]]++lb) W λe W'=>(∃v,e=.returned v)/\(∃D',J (min N L) D' W')/\Below nZ W W'
variable{w0:aS}{L N n:Nat}
def LP.ajq{X:Prop}{P:b4}{g:Nat}{lb:dp}{Row:uau}(h:LP n P g lb Row N nZ w0)(v:N<L):E4 X L n P g lb Row N nZ w0:=by intro l S J D W o m k j s;rw[vcp AP];refine h l S (λt W=>∃D,J t D W) W o (λt W⟨D,h⟩ b i=>m t D W h b (.inl i)) (λt W W'⟨D,h⟩ a b=>⟨D,k t D W W' h a b⟩) (λt x u⟨D,a⟩ b c=>?_) ⟨D,s⟩;have:=j t x D u a b AP c;rw[show decide (t+1≠L)=true by simp;omega]at this;obtain⟨fn,tmps,aA,d,f,r⟩:=this;refine⟨fn,tmps,aA,d,f,r.mono ?_⟩;rintro e W' ⟨rfl,⟨D',q,-⟩,p⟩;exact⟨Y,⟨D',q⟩,p⟩
def XP{X:Prop}{ex:Exit}{d:Code}(hx:(∃id,ex=.exit id/\d=.exit id)\/(ex=.ret/\d=.ret))(aN:0<L){P:b4}{g:uar}{p:Tmp}{assign body:Code}{Q:uai}{a:Act}{gf:Nat}{lb:dp}{Row:uau}(hg:a.eval g=.func (.func gf) #[] lb)(tb:∀args w,(callFunc gf args).run P w=.ok (.enter gf args) w)(ti:E4 X L (n-1) P gf lb Row N nZ w0)(jF:Below nZ w0 w)(hn:nZ<=w.heap.size)(S:dh)(hS:∀b,S b->b<w.heap.size)(I:ubj)(s:∀t D W W',I t D W->jp W W'->(∀b,S b->W'.heap[b]?=W.heap[b]?)->I t D W')(hD:∀t D W,I t D W->∀b,D b->b<W.heap.size){D0:dh}(h0:I 0 D0 w)(C:Nat->Value->Act->aS->Prop)(Q2:∀t x a' W W',C t x a' W->jp W W'->(∀b,S b->W'.heap[b]?=W.heap[b]?)->C t x a' W')(Q3:∀(l t:Nat)(x:Value)(D:dh)(W:aS)(K:uag),I t D W->t<N->t<L->Row t W x->(∀a' W',cJ W W'->C t x a' W'->K a' W')->
  assign.wpIn (Fence.wide.inRound l) (n-1-1) P (Exit.then K (λ_ _ _=>False)) {tmps:=a.tmps.setIfInBounds p x,defers:=[]} W)(Bk:∀(l t:Nat)(x:Value)(a':Act)(D:dh)(W:aS),I t D W->t<N->t<L->C t x a' W->nZ<=W.heap.size->body.wpIn (Fence.wide.inRound l) (n-1-1) P (λe _ W'=>(e=if t+1=L then ex else .normal)/\KeepsOthers W W'/\Below nZ W W'/\∃D',I (t+1) D' W'/\(X->Ia D D' W W')) a' W)(hdone:∀D W,I (min N L) D W->Below nZ w W->W.heap[w.heap.size]?=some (.deferred (some []))->Q (if L<=N then ex else .normal) {a with defers:={target:=.collected w.heap.size,args:=#[]}::a.defers} W):
 (Code.rangeFunc g #[p] assign body).wpIn Fence.wide n P Q a w:=by
 refine wpIn_rangeFunc ?_;intro fn ij;obtain⟨rec,r⟩:∃rec:LoopState->Option Code->Loop,rec=λst d=>{state:=st,pending:=d,fn,tmps:=a.tmps,params:=#[p],assign,body,defers:=w.heap.size}:=⟨_,rfl⟩;obtain⟨k,Q4⟩:∃k,(w.alloc (.deferred (some []))).alloc (.loop (rec .ready none))=k:=⟨_,rfl⟩;have HL:k.heap[w.heap.size+1]?=some (.loop (rec .ready none)):=by grind[World.alloc_heap_new,World.size_alloc]
 have Q5:k.heap[w.heap.size]?=some (.deferred (some [])):=by grind[Below.heap_alloc,World.alloc_heap_new]
 have B:cJ w k:=by rw[<-Q4];exact((vaa _ w).alloc JT _).alloc Ad _
 refine⟨w.heap.size+1,[{target:=.collected w.heap.size,args:=#[]}],k,{target:=.fn (.func gf) lb,args:=#[.func (.yield (w.heap.size+1)) #[] #[]]},k,gf,#[.func (.yield (w.heap.size+1)) #[] #[]]++lb,k,?_,?_,λ_ _=>trivial,?_,λh=>Cm,?_⟩
 .simp_all[run_enterLoop_outer]
 .simp only[resolve,hg];simp[go_sem]
 .grind[invoke]
 .refine(ti (w.heap.size+1) (λb=>S b\/b=w.heap.size\/b=w.heap.size+1) (λt D' W=>((∃D,I t D W/\∀b,D' b↔D b\/b=w.heap.size+1)/\nZ<=W.heap.size/\w.heap.size<=W.heap.size)/\W.heap[w.heap.size+1]?=some (.loop (rec (if t=L then .done else .ready) (if t=L then some d else none)))/\W.heap[w.heap.size]?=some (.deferred (some []))) (λb=>D0 b\/b=w.heap.size+1) k (jF.trans (B.mono hn)) ?_ ?_ ?_ ⟨⟨⟨D0,s _ _ _ _ h0 (.below B) (λb hs=>B.block b (hS b hs)),λb=>Iff.rfl⟩,AA,B.size⟩,by rw[vbq AP,vbq AP];exact HL,Q5⟩).mono ?_
  .rintro t D' W ⟨⟨⟨D,hi,hd⟩,-,hw⟩,i,hk⟩ b c;have h1:=jE i;rcases c with(c|c|c)|c
   .have:=hS b c;omega
   .omega
   .omega
   .rcases(hd b).1 c with c|c
    .exact hD t D W hi b c
    .omega
  .rintro t D' W W' ⟨⟨⟨D,hi,hd⟩,zz,hw⟩,i,hk⟩ hc hs;exact⟨⟨⟨D,s t D W W' hi hc λb c=>hs b (.inl c),hd⟩,vad zz hc.size,vad hw hc.size⟩,(hs _ (.inr KK)).trans i,(hs _ (.inr J1)).trans hk⟩
  .rintro t x U W ⟨⟨⟨D,hi,hd⟩,nj,Bn⟩,i,hk⟩ A Ib b9;rw[vbq AP,vbq AP]at i;have V:∀(W:aS)(o:Obj) b,S b->(W.putObj (w.heap.size+1) o).heap[b]?=W.heap[b]?:=λW o b hs=>vat AA;have M:=run_yield (P:=P) (args:=#[x]) i AA;rw[r]at M;refine⟨fn,_,assign,body,M,roundIn_of_wpIn ij ?_⟩;clear M;have e1:(#[p].zip #[x]).foldl (λtmps(u:Tmp×Value)=>tmps.setIfInBounds u.1 u.2) a.tmps=a.tmps.setIfInBounds p x:=Ad;refine Eq.mp (vcm (λT=>Code.wpIn (Fence.wide.inRound (w.heap.size+1)) (n-1-1) P assign _ {tmps:=T,defers:=[]} W) e1.symm) ?_;refine Q3 _ t x D W _ hi A Ib b9 ?_;intro a' Ic m Q7;have H:=(m.block _ (jE i)).trans i;have eH:=(m.block _ (jE hk)).trans hk;refine⟨_,run_beginRound H AA,?_⟩;have jn:(Ic.putObj (w.heap.size+1) (.loop {rec .ready none with state:=.busy})).heap[w.heap.size+1]?=some (.loop {rec .ready none with state:=.busy}):=vcz (jE H);have jG:(Ic.putObj (w.heap.size+1) (.loop {rec .ready none with state:=.busy})).heap[w.heap.size]?=some (.deferred (some [])):=(vat AP).trans eH;refine wpIn_mono (Bk _ t x a' D _ (s _ _ _ _ (s _ _ _ _ hi (.below m) (λb hs=>m.block b AA)) (.put H) (V _ _)) A Ib (Q2 _ _ _ _ _ Q7 (.put H) (V _ _)) AA) ?_;rintro e bz oH ⟨F,sc,Z,D',zI,Y⟩;have J:=sc.same _ _ jn rfl;have Ie:=sc.same _ _ jG rfl;have hsz:=m.size;have R:=Z.size;simp at R;have q:=run_endRound (P:=P) (if t+1=L then some d else none) J;have uv:=jp.put (r':=rec (if t+1=L then .done else .ready) (if t+1=L then some d else none)) J;obtain⟨j,XQ⟩:∃j,oH.putObj (w.heap.size+1) (.loop (rec (if t+1=L then .done else .ready) (if t+1=L then some d else none)))=j:=⟨_,rfl⟩;replace q:(Instr.endRound (w.heap.size+1) (if t+1=L then some d else none)).run P oH=.ok (.bool (decide (t+1≠L))) j:=by rw[<-XQ];rw[r]at q⊢;rw[q];by_cases f:t+1=L<;>simp[f]
   have n3:(∃E,(((∃D,I (t+1) D j/\∀b,E b↔D b\/b=w.heap.size+1)/\nZ<=j.heap.size/\w.heap.size<=j.heap.size)/\j.heap[w.heap.size+1]?=some (.loop (rec (if t+1=L then .done else .ready) (if t+1=L then some d else none)))/\j.heap[w.heap.size]?=some (.deferred (some [])))/\(X->Ia U E W j))/\Below nZ W j:=by
    rw[<-XQ];refine⟨⟨λb=>D' b\/b=w.heap.size+1,⟨⟨⟨D',s _ _ _ _ zI uv (V _ _),λb=>Iff.rfl⟩,Aq,Aq⟩,vcz (jE J),(vat AP).trans Ie⟩,λkK=>⟨λb c h=>?_,λb c h=>?_⟩⟩,?_⟩
    .exact(hd b).2 (h.imp_left λh=>(Y kK).less b Aq h)
    .have z:¬b=w.heap.size+1:=λe=>h ((hd b).2 (.inr e));have mq:¬D b:=λe=>h ((hd b).2 (.inl e));rw[vat z,(Y kK).same b Aq mq,vat z,m.block b c]
    exact((m.mono nj).trans ((uq _ AP).trans Z)).trans (uq _ AP)
   by_cases f:t+1=L
   .rw[vby f]at q F;subst F;rcases hx with⟨id,rfl,rfl⟩|⟨rfl,rfl⟩<;>exact⟨_,_,q,rfl,n3⟩
   .rw[vbq f]at q F;subst F;exact⟨_,_,q,rfl,n3⟩
  .rintro e W2 ⟨⟨v,rfl⟩,⟨D',⟨⟨D,hi,-⟩,-⟩,i,hk⟩,c⟩;have y:=hdone _ _ (s _ _ _ _ hi (.put (r':={rec (if min N L=L then .done else .ready) (if min N L=L then some d else none)with state:=.exhausted}) i) λb hs=>vat AA) (((B.mono hn).trans c).trans (uq _ AP)) ((vat AP).trans hk);have O:=run_endLoop (P:=P) i (by rw[r];by_cases f:min N L=L<;>simp[f])
   by_cases f:L<=N
   .rw[vby f]at y;rcases hx with⟨id,rfl,rfl⟩|⟨rfl,rfl⟩
    .refine⟨some (.exit id),_,O.trans ?_,wpIn_exit y⟩;rw[r];simp[vcc f]
    .refine⟨some .ret,_,O.trans ?_,wpIn_ret y⟩;rw[r];simp[vcc f]
   .rw[vbq f]at y;refine⟨none,_,O.trans ?_,y⟩;rw[r];simp;omega
end bS
namespace ax
def ajU(Q:b4)(main:Bool)(K:dh)(post:aV->Prop)(Y X:aV):Prop:=
 ¬post X/\∃w' g1 w1 es,j5 K X w'/\stepG Q main X.g w'=.go g1 w1 es/\Y=⟨g1,w1,grown X.mine w' w1⟩
variable{K:dh}
def jD.acc{Q:b4}{main:Bool}{post:aV->Prop}{X:aV}(h:jD Q main K post X):Acc (ajU Q main K post) X:=by induction h with|done h=>exact⟨_,λY a=>absurd h a.1⟩|step _ _ b=>refine⟨_,λY a=>?_⟩;obtain⟨_,w',g1,w1,es,c,hs,rfl⟩:=a;grind
def jD.next{Q:b4}{main:Bool}{post:aV->Prop}{X:aV}(h:jD Q main K post X):
 post X\/∀w',j5 K X w'->∃g1 w1 es,stepG Q main X.g w'=.go g1 w1 es/\QB K X.mine w' g1 w1 es/\jD Q main K post ⟨g1,w1,grown X.mine w' w1⟩:=by
 cases h with|done h=>grind|step ok h=>refine .inr λw' a=>?_;obtain⟨g1,w1,es,hs,hg⟩:=ok w' a;grind
def j5.others{X:aV}{w w1:aS}(h:j5 K X w)(hk:∀b,K b\/X.mine b->w1.heap[b]?=w.heap[b]?)(hs:w.heap.size<=w1.heap.size)(c:w1.os.env=w.os.env):j5 K X w1:=
 ⟨λb a=>(hk b a).trans (h.heap b a),vad h.size hs,c.trans h.env⟩
theorem j5.refl(K:dh)(X:aV):j5 K X X.w:=⟨λ_ _=>Y,vac _,Y⟩
def xL{ao:Type}(r:ao->ao->Prop)(l' l:List ao):Prop:=∃i x y,l[i]?=some x/\r y x/\l'=l.set i y
theorem ajV{ao:Type}{r:ao->ao->Prop}{a:ao}(e:Acc r a):∀{l:List ao},Acc (xL r) l->Acc (xL r) (a::l):=by induction e with|intro a _ f=>intro l d;induction d with|intro l c ihl=>refine⟨_,?_⟩;rintro g ⟨i,x,y,hi,b,rfl⟩;cases i with|zero=>simp at hi;subst hi;exact f y b ⟨l,c⟩|succ i=>simp at hi;exact ihl _ ⟨i,x,y,hi,b,Y⟩
def ajW{ao:Type}{r:ao->ao->Prop}:∀(l:List ao),(∀x∈l,Acc r x)->Acc (xL r) l:=by intro l;induction l with|nil=>intro _;exact⟨_,λb⟨i,x,y,hi,_⟩=>AA⟩|cons a l c=>grind[ajV]
end ax
namespace bp
open Conc ConcM ax
structure fc where
 Lo:Type
 aO:Type
 a_:aO->Nat
 pD:aO->List Lo->Prop
 dZ:Lo->aO->aO->Prop
 K:Nat->Prop
 gT:Nat->Prop
 tq:aO->aS->Prop
 tok:Lo->Bool
 deaf:Lo->Nat
 past:Lo->Bool
 Left:Lo->Prop
 zero:Lo->Prop
 n7:Lo->aO->Prop
 gS:Loc->Prop
 eZ:Loc->Prop
 mu:Addr
 wg:Addr
 oK:Lo->Goroutine->Goroutine->Prop
structure fc.Good(Z:fc):Prop where
 refl:∀ ℓ γ,Z.dZ ℓ γ γ
 trans:∀ ℓ a b c,Z.dZ ℓ a b->Z.dZ ℓ b c->Z.dZ ℓ a c
 less:∀ ℓ γ aj,Z.dZ ℓ γ aj->aj=γ\/Z.a_ aj<Z.a_ γ
 mt:∀γ w w',(∀b,Z.gT b->w'.heap[b]?=w.heap[b]?)->Z.tq γ w->Z.tq γ w'
 np:∀b,Z.K b->¬Z.gT b
 one:∀γ(ls:List Z.Lo)(i j:Nat) a b,Z.pD γ ls->ls[i]?=some a->ls[j]?=some b->Z.tok a=true->Z.tok b=true->i=j
 nW:∀γ ls,Z.pD γ ls->∃(j:Nat)(l:Z.Lo),ls[j]?=some l/\¬Z.Left l/\¬Z.n7 l γ
 zero:∀γ(ls:List Z.Lo)(j:Nat) l,Z.pD γ ls->ls[j]?=some l->Z.zero l->j=0
 Fe:∀l,Z.gS l->∃b,fg l=some b/\Z.gT b
 BD:∀l,Z.eZ l->∃b,fg l=some b/\Z.gT b
 tp:∀l,Z.gS l->¬Z.eZ l
section
variable(Z:fc)
def hh(l:Z.Lo)(γ:Z.aO):Prop:=∃(ls:List Z.Lo)(i:Nat),ls[i]?=some l/\Z.pD γ ls
structure dQ(l:Z.Lo)(γ:Z.aO)(X:aV)(w:aS):Prop where
 rely:j5 Z.K X w
 mt:Z.tq γ w
 sees:hh Z l γ
 later:OsLater X.w.os w.os
 output:w.output=X.w.output
 tape:w.tape=X.w.tape
def we(e:Event):Prop:=e.loc=.mark .disable\/e.loc=.mark .enable\/(∃a,e.loc=.mark (.acquire a))\/(∃a,e.loc=.mark (.releaseMerge a))\/(e.write=true/\∃b,fg e.loc=some b/\Z.gT b)
def BF(l:Z.Lo)(g g1:uah)(es:uao):Prop:=(∃e∈es,we Z e)\/Z.oK l g g1
def tr(l:Z.Lo)(mine:dh)(d:Nat)(e:Event):Prop:=
 match e.loc with
 | .cell a=>(e.sync=false/\((Z.K a.block/\e.write=false)\/mine a.block\/(Z.gS (.cell a)/\Z.tok l=true))/\Z.past l=false)\/(e.sync=true/\Z.eZ (.cell a)/\0<d)
 | .obj r=>e.sync=false/\((Z.K r/\e.write=false)\/mine r)/\Z.past l=false
 | .mark m=>zR m\/(Z.zero l/\∃a,Z.eZ (.cell a)/\(m=.read a\/m=.write a))
 | .output=>True
 | .goroutines=>False
def oL(l:Z.Lo)(mine:dh):Nat->List Event->Prop
 | _,[]=>True
 |d,e::r=>tr Z l mine d e/\oL l mine (zS d e) r
structure li(mine:dh)(w' w1:aS):Prop where
 kept:∀b,b<w'.heap.size->¬mine b->¬Z.gT b->w1.heap[b]?=w'.heap[b]?
 size:w'.heap.size<=w1.heap.size
 os:OsLater w'.os w1.os
 output:w1.output=w'.output
 tape:w1.tape=w'.tape
structure Quiet(l:Z.Lo)(X:aV)(w':aS)(g1:uah)(w1:aS)(es:uao):Prop where
 run:g1.status=.running
 keep:li Z X.mine w' w1
 sh:∀b,b<w'.heap.size->Z.gT b->w1.heap[b]?=w'.heap[b]?
 evs:oL Z l (grown X.mine w' w1) (Z.deaf l) es.toList
 low:¬BF Z l X.g g1 es
def BG(l:Z.Lo)(γ:Z.aO)(l1:Z.Lo)(bA:Z.aO):Prop:=
 Z.a_ bA<Z.a_ γ/\∀(ls:List Z.Lo)(i:Nat),ls[i]?=some l->Z.pD γ ls->Z.pD bA (ls.set i l1)/\∀(j:Nat)(kN:Z.Lo),j≠i->ls[j]?=some kN->Z.dZ kN γ bA
def Ff(m:Mark):Event:=⟨.mark m,false,true⟩
def Says(l l1:Z.Lo)(mine:dh)(es:uao):Prop:=
 (Z.tok l1=Z.tok l/\Z.past l1=Z.past l/\Z.deaf l1=deafBehind (Z.deaf l) es/\oL Z l mine (Z.deaf l) es.toList)\/
 (es=#[Ff (.acquire Z.mu)]/\Z.deaf l=0/\Z.deaf l1=0/\Z.tok l=false/\Z.tok l1=true/\Z.past l1=Z.past l)\/
 (es=#[Ff (.releaseMerge Z.mu)]/\Z.deaf l=0/\Z.deaf l1=0/\Z.tok l=true/\Z.tok l1=false/\Z.past l1=Z.past l)\/
 (es=#[Ff (.releaseMerge Z.wg)]/\Z.deaf l=0/\Z.deaf l1=0/\Z.tok l1=Z.tok l/\Z.past l1=true)
structure Ya(Q:b4)(l:Z.Lo)(γ:Z.aO)(X:aV)(w':aS)(g1:uah)(w1:aS)(es:uao)(l1:Z.Lo)(bA:Z.aO):Prop where
 run:g1.status=.running
 L5:BF Z l X.g g1 es
 keep:li Z X.mine w' w1
 mt:Z.tq bA w1
 zU:BG Z l γ l1 bA
 says:Says Z l l1 (grown X.mine w' w1) es
 IA:mayWake Q X.g=true\/∀kN,Z.n7 kN γ->Z.n7 kN bA
structure Rn(l:Z.Lo)(γ:Z.aO)(X:aV)(w':aS)(g1 child:uah)(w1:aS)(es:uao)(l1:Z.Lo)(bA:Z.aO)(lc:Z.Lo):Prop where
 run:g1.status=.running
 Yb:child.status=.running
 keep:li Z X.mine w' w1
 mt:Z.tq bA w1
 a_:Z.a_ bA<Z.a_ γ
 zU:∀(ls:List Z.Lo),ls[0]?=some l->Z.pD γ ls->Z.pD bA (ls.set 0 l1++[lc])/\∀(j:Nat)(kN:Z.Lo),j≠0->ls[j]?=some kN->Z.dZ kN γ bA
 evs:oL Z l (grown X.mine w' w1) 0 es.toList
 deaf:Z.deaf l=0/\deafBehind 0 es=0/\Z.deaf l1=0/\Z.deaf lc=0
 tok:Z.tok l1=Z.tok l/\Z.tok lc=false
 past:Z.past l1=Z.past l/\Z.past lc=false
 IA:∀kN,Z.n7 kN γ->Z.n7 kN bA
 stays:¬Z.Left l1/\¬Z.Left lc
def Comes(Q:b4)(Stop:Bool->Z.Lo->aV->Prop)(m:Bool)(l:Z.Lo)(γ:Z.aO)(X:aV)(w':aS)(c:Z.Lo×Z.aO×Z.Lo):Prop:=
 (∃g1 w1 es,stepG Q m X.g w'=.go g1 w1 es/\Quiet Z l X w' g1 w1 es)\/
 (∃g1 w1 es,stepG Q m X.g w'=.go g1 w1 es/\Ya Z Q l γ X w' g1 w1 es c.1 c.2.1/\(Z.Left c.1->m=false/\Stop m c.1 ⟨g1,w1,grown X.mine w' w1⟩))\/
 (stepG Q m X.g w'=.go {X.g with status:=.blocked} w' #[]/\X.g.offers=none/\Z.n7 l γ/\¬Z.oK l X.g {X.g with status:=.blocked})\/
 (m=true/\∃g1 child w1 es,stepG Q m X.g w'=.spawn g1 child w1 es/\Rn Z l γ X w' g1 child w1 es c.1 c.2.1 c.2.2)
inductive bg(Q:b4)(Stop:Bool->Z.Lo->aV->Prop):Bool->Z.Lo->Z.aO->aV->Prop
 |stop {m:Bool} {l:Z.Lo} {γ:Z.aO} {X:aV} (h:Stop m l X):bg Q Stop m l γ X
 |step {m:Bool} {l:Z.Lo} {γ:Z.aO} {X:aV} (hs:X.g.status=.running) (ch:aS->Z.aO->Z.Lo×Z.aO×Z.Lo)
  (ok:∀w' aj,Z.dZ l γ aj->dQ Z l aj X w'->Comes Z Q Stop m l aj X w' (ch w' aj))
  (hq:∀w' aj g1 w1 es,Z.dZ l γ aj->dQ Z l aj X w'->stepG Q m X.g w'=.go g1 w1 es->g1.status=.running->¬BF Z l X.g g1 es->bg Q Stop m l aj ⟨g1,w1,grown X.mine w' w1⟩)
  (he:∀w' aj g1 w1 es,Z.dZ l γ aj->dQ Z l aj X w'->stepG Q m X.g w'=.go g1 w1 es->BF Z l X.g g1 es->bg Q Stop m (ch w' aj).1 (ch w' aj).2.1 ⟨g1,w1,grown X.mine w' w1⟩)
  (hm:∀w' aj g1 child w1 es,Z.dZ l γ aj->dQ Z l aj X w'->stepG Q m X.g w'=.spawn g1 child w1 es->bg Q Stop m (ch w' aj).1 (ch w' aj).2.1 ⟨g1,w1,grown X.mine w' w1⟩)
  (hc:∀w' aj g1 child w1 es,Z.dZ l γ aj->dQ Z l aj X w'->stepG Q m X.g w'=.spawn g1 child w1 es->bg Q Stop false (ch w' aj).2.2 (ch w' aj).2.1 ⟨child,w1,λ_=>False⟩):bg Q Stop m l γ X
end
section
variable{Z:fc}{Q:b4}{Stop:Bool->Z.Lo->aV->Prop}{m:Bool}{l:Z.Lo}{γ:Z.aO}{X:aV}
inductive Then(Q:b4)(Stop:Bool->Z.Lo->aV->Prop)(m:Bool)(l:Z.Lo)(γ:Z.aO)(X:aV)(w':aS):Prop
 |quiet {g1:uah} {w1:aS} {es:uao} (hs:stepG Q m X.g w'=.go g1 w1 es) (hq:Quiet Z l X w' g1 w1 es) (h:bg Z Q Stop m l γ ⟨g1,w1,grown X.mine w' w1⟩)
 |turn {g1:uah} {w1:aS} {es:uao} {l1:Z.Lo} {bA:Z.aO} (hs:stepG Q m X.g w'=.go g1 w1 es) (ht:Ya Z Q l γ X w' g1 w1 es l1 bA) (hl:Z.Left l1->m=false/\Stop m l1 ⟨g1,w1,grown X.mine w' w1⟩) (h:bg Z Q Stop m l1 bA ⟨g1,w1,grown X.mine w' w1⟩)
 |wait (hs:stepG Q m X.g w'=.go {X.g with status:=.blocked} w' #[]) (ho:X.g.offers=none) (hw:Z.n7 l γ) (hp:¬Z.oK l X.g {X.g with status:=.blocked})
 |born {g1 child:uah} {w1:aS} {es:uao} {l1:Z.Lo} {bA:Z.aO} {lc:Z.Lo} (hm:m=true) (hs:stepG Q m X.g w'=.spawn g1 child w1 es) (hb:Rn Z l γ X w' g1 child w1 es l1 bA lc)
  (h:bg Z Q Stop m l1 bA ⟨g1,w1,grown X.mine w' w1⟩) (hc:bg Z Q Stop false lc bA ⟨child,w1,λ_=>False⟩)
open Classical in
def bg.mk(hs:X.g.status=.running)(h:∀w' a,Z.dZ l γ a->dQ Z l a X w'->Then Q Stop m l a X w'):bg Z Q Stop m l γ X:=by
 have pick:∀w' a,∃c:Z.Lo×Z.aO×Z.Lo,Z.dZ l γ a->dQ Z l a X w'->Comes Z Q Stop m l a X w' c/\
  (∀g1 w1 es,stepG Q m X.g w'=.go g1 w1 es->g1.status=.running->¬BF Z l X.g g1 es->bg Z Q Stop m l a ⟨g1,w1,grown X.mine w' w1⟩)/\
  (∀g1 w1 es,stepG Q m X.g w'=.go g1 w1 es->BF Z l X.g g1 es->bg Z Q Stop m c.1 c.2.1 ⟨g1,w1,grown X.mine w' w1⟩)/\
  (∀g1 child w1 es,stepG Q m X.g w'=.spawn g1 child w1 es->bg Z Q Stop m c.1 c.2.1 ⟨g1,w1,grown X.mine w' w1⟩/\bg Z Q Stop false c.2.2 c.2.1 ⟨child,w1,λ_=>False⟩):=by
  intro w' a;by_cases i:Z.dZ l γ a/\dQ Z l a X w'
  .cases h w' a i.1 i.2 with|quiet hs hq h=>exact⟨(l,a,l),λ_ _=>⟨.inl AA,AA,AA,AA⟩⟩|turn hs ht g h=>exact⟨(_,_,l),λ_ _=>⟨.inr (.inl ⟨_,_,_,hs,ht,g⟩),λg1 w1 es e _ hn=>(by rw[hs]at e;cases e;exact absurd ht.L5 hn),AA,AA⟩⟩|wait hs p o n=>exact⟨(l,a,l),λ_ _=>⟨.inr AA,AA,λg1 w1 es e g=>(by rw[hs]at e;cases e;exact g.elim AA AA),AA⟩⟩|born j hs k h hc=>exact⟨(_,_,_),λ_ _=>⟨.inr (.inr (.inr ⟨j,_,_,_,_,hs,k⟩)),AA,AA,AA⟩⟩
  .exact⟨(l,a,l),AA⟩
 obtain⟨ch,b⟩:=vdn.1 λx:aS×Z.aO=>pick x.1 x.2;exact .step hs (λw' a=>ch (w',a)) AA (λw' a g1 w1 es f d=>(b (w',a) f d).2.1 g1 w1 es) (λw' a g1 w1 es f d=>(b (w',a) f d).2.2.1 g1 w1 es)
  (λw' a g1 c w1 es f d e=>((b (w',a) f d).2.2.2 g1 c w1 es e).1) AA
def bg.next(h:bg Z Q Stop m l γ X):Stop m l X\/(X.g.status=.running/\∀w' a,Z.dZ l γ a->dQ Z l a X w'->Then Q Stop m l a X w'):=by
 cases h with
 |stop h=>grind
 |step hs ch ok hq i k hc=>
  refine .inr ⟨hs,λw' a d b=>?_⟩;rcases ok w' a d b with⟨g1,w1,es,e,q⟩|⟨g1,w1,es,e,q,g⟩|⟨e,f,q,j⟩|⟨em,g1,c,w1,es,e,q⟩
  .exact .quiet e q (hq w' a g1 w1 es d b e q.run q.low)
  .exact .turn e q g (i w' a g1 w1 es d b e q.L5)
  .exact .wait e f q j
  .exact .born em e q AA AA
def bg.hV(G:Z.Good)(h:bg Z Q Stop m l γ X){e:Z.aO}(d:Z.dZ l γ e):bg Z Q Stop m l e X:=by
 cases h with
 |stop h=>exact .stop h
 |step hs ch ok hq g f hc=>
  exact .step hs ch (λw' a b=>ok w' a (G.trans _ _ _ _ d b)) (λw' a g1 w1 es b=>hq w' a g1 w1 es (G.trans _ _ _ _ d b)) (λw' a g1 w1 es b=>g w' a g1 w1 es (G.trans _ _ _ _ d b))
   (λw' a g1 c w1 es b=>f w' a g1 c w1 es (G.trans _ _ _ _ d b)) (λw' a g1 c w1 es b=>hc w' a g1 c w1 es (G.trans _ _ _ _ d b))
def L6(Z:fc)(Q:b4)(Stop:Bool->Z.Lo->aV->Prop)(y x:Bool×Z.Lo×Z.aO×aV):Prop:=
 ¬Stop x.1 x.2.1 x.2.2.2/\y.1=x.1/\y.2.1=x.2.1/\y.2.2.1=x.2.2.1/\∃w' g1 w1 es,dQ Z x.2.1 x.2.2.1 x.2.2.2 w'/\stepG Q x.1 x.2.2.2.g w'=.go g1 w1 es/\g1.status=.running/\¬BF Z x.2.1 x.2.2.2.g g1 es/\y.2.2.2=⟨g1,w1,grown x.2.2.2.mine w' w1⟩
def bg.acc(G:Z.Good)(h:bg Z Q Stop m l γ X):Acc (L6 Z Q Stop) (m,l,γ,X):=by induction h with|stop h=>exact⟨_,λy a=>absurd h a.1⟩|step hs ch ok hq q p hc o _ _ _=>refine⟨_,λy a=>?_⟩;obtain⟨_,e,d,c,w',g1,w1,es,f,hst,hrun,g,b⟩:=a;obtain⟨n,k,j,i⟩:=y;simp only at e d c b;subst e d c b;exact o w' _ g1 w1 es (G.refl _ _) f hst hrun g
end
open ConcN
def uy(P:b4)(m:Machine)(t:Trace)(q:Machine->Trace->Prop):Prop:=∃n m' cA,runNT P n m t=(.next m',cA)/\q m' cA
theorem uy.refl{P:b4}{m:Machine}{t:Trace}{q:Machine->Trace->Prop}(h:q m t):uy P m t q:=⟨0,m,t,Y,h⟩
theorem uy.step{P:b4}{m a:Machine}{t:Trace}{ops:Array MemOp}{q:Machine->Trace->Prop}(hs:stepT P m=(.next a,ops))(h:uy P a (t++ops) q):uy P m t q:=
 let⟨n,c,b,e,d⟩:=h
 ⟨n+1,c,b,by grind[runNT_succ_next],d⟩
theorem Yc{P:b4}:∀(n:Nat){k:Nat}{m a:Machine}{t cA:Trace},runNT P n m t=(.next a,cA)->runNT P (n+k) m t=runNT P k a cA
 |0,k,m,a,t,cA,h=>by simp_all[runNT]
 |n+1,k,m,a,t,cA,h=>by rw[show n+1+k=(n+k)+1 from AP];cases hs:stepT P m with|mk s ops=>cases s with|next m1=>rw[runNT_succ_next hs]at h⊢;exact Yc n h|ended o w=>simp[runNT,hs]at h
theorem uy.bind{P:b4}{m:Machine}{t:Trace}{q a:Machine->Trace->Prop}(h:uy P m t q)(hq:∀b cA,q b cA->uy P b cA a):uy P m t a:=by obtain⟨n,m1,d,j,g⟩:=h;obtain⟨k,e,c,i,f⟩:=hq m1 d g;exact⟨n+k,e,c,by grind[Yc],f⟩
def aj9{P:b4}{ao:Type}{r:ao->ao->Prop}(wf:WellFounded r)(Inv:ao->Machine->Trace->Prop)(q:Machine->Trace->Prop)(h:∀a m t,Inv a m t->q m t\/∃b ops c,stepT P m=(.next b,ops)/\r c a/\Inv c b (t++ops)):∀a m t,Inv a m t->uy P m t q:=by
 intro a;induction a using wf.induction with
 | _ a f=>
  intro m t e;rcases h a m t e with hq|⟨b,ops,c,hs,g,d⟩
  .exact .refl hq
  .exact .step hs AA
section
variable{ao:Type}(R:ao->ao->Prop)
def BI(y x:Nat×List ao×Nat×Nat):Prop:=
 y.1<x.1\/(y.1=x.1/\((xL R y.2.1 x.2.1/\Acc (xL R) x.2.1)\/(y.2.1=x.2.1/\(y.2.2.1<x.2.2.1\/(y.2.2.1=x.2.2.1/\y.2.2.2<x.2.2.2)))))
def aj_:WellFounded (BI R):=by
 have key:∀b,(∀c,c<b->∀v s k,Acc (BI R) (c,v,s,k))->∀v s k,Acc (BI R) (b,v,s,k):=by
  intro b g;have core:∀v,(∀a,xL R a v->Acc (xL R) v->∀s k,Acc (BI R) (b,a,s,k))->∀s k,Acc (BI R) (b,v,s,k):=by intro v hv s;induction s using Nat.strongRecOn with| _ s f=>intro k;induction k using Nat.strongRecOn with| _ k e=>refine⟨_,?_⟩;rintro⟨c,a,s',k'⟩ h;simp[BI]at h;grind
  intro v;by_cases hv:Acc (xL R) v
  .induction hv with|intro v _ d=>grind
  grind
 refine⟨λ⟨b,v,s,k⟩=>?_⟩;induction b using Nat.strongRecOn generalizing v s k with| _ b d=>grind
end
structure cr(Z:fc) where
 g:Goroutine
 l:Z.Lo
 X:aV
 n:Nat
section
variable(Z:fc)(Q:b4)(Stop:Bool->Z.Lo->aV->Prop)
inductive tt(m:Bool)(γ:Z.aO)(d:Nat)(r:cr Z):Prop
 |runs (hg:r.g=r.X.g) (hr:r.X.g.status=.running) (ht:bg Z Q Stop m r.l γ r.X) (hn:m=false->¬Stop m r.l r.X) (hd:d=Z.deaf r.l) (h0:r.n=0) (hl:¬Z.Left r.l)
 |waits (hg:r.g={r.X.g with status:=.blocked}) (hr:r.X.g.status=.running) (ho:r.X.g.offers=none) (ht:bg Z Q Stop m r.l γ r.X) (hn:¬Stop m r.l r.X) (hw:Z.n7 r.l γ) (hd:d=Z.deaf r.l) (h0:r.n=0) (hl:¬Z.Left r.l)
 |leaves (hm:m=false) (hq:QuitsD Q r.n d r.g) (hl:Z.Left r.l) (hs:Stop m r.l r.X)
def ja(base:Nat)(rs:List (cr Z))(size:Nat)(aT:ubg):kq:=
 {n:=rs.length,base,size,K:=Z.K,mine:=λj b=>∃r,rs[j]?=some r/\r.X.mine b,gS:=Z.gS,eZ:=Z.eZ,tok:=aT,mu:=Z.mu,wg:=Z.wg,past:=λj=>∃r,rs[j]?=some r/\Z.past r.l=true}
structure Inv(base:Nat)(rs:List (cr Z))(γ:Z.aO)(w:aS)(t:Trace):Prop where
 sits:∀(j:Nat)(r:cr Z),rs[j]?=some r->tt Z Q Stop (j==0) γ (Deaf t j) r
 tu:Z.pD γ (rs.map (·.l))
 mt:Z.tq γ w
 rely:∀(j:Nat)(r:cr Z),rs[j]?=some r->j5 Z.K r.X w/\OsLater r.X.w.os w.os/\w.output=r.X.w.output/\w.tape=r.X.w.tape
 sh:∀(j:Nat)(r:cr Z),rs[j]?=some r->∀b,r.X.mine b->¬Z.gT b/\¬Z.K b/\b<w.heap.size
 apart:∀(j k:Nat)(r s:cr Z),rs[j]?=some r->rs[k]?=some s->j≠k->∀b,r.X.mine b->¬s.X.mine b
 low:∀b,Z.K b\/Z.gT b->b<w.heap.size
 old:∀(j:Nat)(r:cr Z),rs[j]?=some r->j≠0->j<base->Z.Left r.l/\∀b,¬r.X.mine b
 aT:∃aT,(∀(j:Nat)(r:cr Z),rs[j]?=some r->(Z.tok r.l=true↔aT=some j))/\eo (ja Z base rs w.heap.size aT) t
 aka:0<rs.length
def kr(rs:List (cr Z)):Array Goroutine:=(rs.map (·.g)).toArray
end
def eo.conv{p c:kq}{t:Trace}(h:eo p t)(hn:c.n=p.n)(g:c.base=p.base)(hs:p.size<=c.size)(hK:c.K=p.K)(o:∀j b,c.mine j b->p.mine j b\/p.size<=b)(hg:c.gS=p.gS)(s:c.eZ=p.eZ)(ht:c.tok=p.tok)(n:c.mu=p.mu)(A:c.wg=p.wg)(v:∀j,c.past j->p.past j):eo c t:=by
 have hc:∀j,c.bd j->p.bd j:=λj f=>by grind[kq.bd]
 have x:∀j,p.bd j->c.bd j:=λj f=>by grind[kq.bd]
 refine⟨λi a d r cX=>?_,λi op hi=>by rw[hn];exact h.gs i op hi,λi a b d g=>vap (h.low i a b d g) hs,λi a b d u g m j f=>h.still i a b d u g (hK▸m) j (hc j f),λj i a b f d g B=>?_,λj f=>?_,λw i a d y=>?_,λi a d hs=>?_,h.qd,h.xM,λi j f z q=>?_⟩
 .refine(h.n6 i a d r cX).imp AA λk=>⟨by rw[hg];exact k.1,λb l=>⟨by rw[hK];exact(k.2 b l).1,λj f=>(o j b f).elim ((k.2 b l).2 j) (λe=>absurd (h.low i a b d l) AP)⟩⟩
 .exact(o j b B).elim (λe=>h.own j i a b (hc j f) d g e) (λe=>absurd (h.low i a b d g) AP)
 .obtain⟨D,C⟩:=h.tn j (ht▸f);grind
 .rw[n];exact(h.BC (ht▸w) i a d (hg▸y)).imp AA id
 .exact(h.eZ i a d (s▸hs)).imp id AA
 .rw[A];exact h.past i j f (v j z) q
variable{f:ubk}
section
variable{Z:fc}{Q:b4}{Stop:Bool->Z.Lo->aV->Prop}
structure Row(rs cv:List (cr Z))(i:Nat)(r1:cr Z)(f:ubk):Prop where
 len:cv.length=rs.length
 at_:cv[i]?=some r1
 hV:∀j,j≠i->cv[j]?=(rs[j]?).map λs=>{s with g:=f s.g}
def L8(rs:List (cr Z)){i:Nat}{r:cr Z}(hi:rs[i]?=some r)(r1:cr Z)(f:ubk):Row rs ((rs.map λs=>{s with g:=f s.g}).set i r1) i r1 f:=by
 have a:i<rs.length:=by grind
 refine⟨Ad,AA,λj b=>?_⟩;grind
def Rp(rs:List (cr Z))(i:Nat)(r1:cr Z)(f:ubk):kr Z ((rs.map λs=>{s with g:=f s.g}).set i r1)=((kr Z rs).map f).setIfInBounds i r1.g:=by grind[kr]
def Row.ls{rs cv:List (cr Z)}{i:Nat}{r1:cr Z}(h:Row rs cv i r1 f):cv.map (·.l)=(rs.map (·.l)).set i r1.l:=by
 apply vca;intro j;by_cases b:j=i
 .subst b;have a:j<rs.length:=by obtain⟨x,_⟩:=vab.1 h.at_;rw[<-h.len];exact x
  simp[h.at_,a]
 .rw[vba (Ne.symm b)];simp[h.hV j b];rfl
def Row.other{rs cv:List (cr Z)}{i:Nat}{r1:cr Z}(h:Row rs cv i r1 f){j:Nat}{s:cr Z}(b:j≠i)(hs:cv[j]?=some s):∃a,rs[j]?=some a/\s={a with g:=f a.g}:=by rw[h.hV j b]at hs;grind
theorem li.at{mine:dh}{w w1:aS}(d:Nat)(h:li Z mine (w.at d) w1):li Z mine w w1:=⟨h.kept,h.size,h.os,h.output,h.tape⟩
theorem j5.at{K:dh}{X:aV}{w:aS}(h:j5 K X w)(d:Nat):j5 K X (w.at d):=⟨h.heap,h.size,h.env⟩
theorem Inv.kept{base:Nat}{rs:List (cr Z)}{γ:Z.aO}{w:aS}{t:Trace}(G:Z.Good)(h:Inv Z Q Stop base rs γ w t){i:Nat}{r:cr Z}(hi:rs[i]?=some r){w1:aS}(hk:li Z r.X.mine w w1):
 (∀b,Z.K b->w1.heap[b]?=w.heap[b]?)/\∀(j:Nat)(s:cr Z),rs[j]?=some s->j≠i->∀b,s.X.mine b->w1.heap[b]?=w.heap[b]?:=by
 refine⟨λb a=>hk.kept b (h.low b (.inl a)) (λe=>(h.sh i r hi b e).2.1 a) (G.np b a),λj s d c b a=>?_⟩;have:=h.sh j s d b a;exact hk.kept b this.2.2 (h.apart j i s r d hi c b a) this.1
def Inv.parts{base:Nat}{rs cv:List (cr Z)}{γ:Z.aO}{w:aS}{t:Trace}(G:Z.Good)(h:Inv Z Q Stop base rs γ w t){i:Nat}{r r1:cr Z}(hi:rs[i]?=some r)(x:Row rs cv i r1 f){w1:aS}(hk:li Z r.X.mine w w1)(J:∀b,r1.X.mine b->r.X.mine b\/(w.heap.size<=b/\b<w1.heap.size)):
 (∀(j:Nat)(s:cr Z),cv[j]?=some s->∀b,s.X.mine b->¬Z.gT b/\¬Z.K b/\b<w1.heap.size)/\
 (∀(j k:Nat)(s s':cr Z),cv[j]?=some s->cv[k]?=some s'->j≠k->∀b,s.X.mine b->¬s'.X.mine b)/\
 (∀b,Z.K b\/Z.gT b->b<w1.heap.size)/\(∀aT,zQ (ja Z base cv w1.heap.size aT)):=by
 have A:∀(j:Nat)(s:cr Z),cv[j]?=some s->∀b,s.X.mine b->(∃m,rs[j]?=some m/\m.X.mine b)\/(j=i/\w.heap.size<=b/\b<w1.heap.size):=by
  intro j s n b d;by_cases v:j=i
  .subst v;rw[x.at_]at n;grind
  .obtain⟨m,a,rfl⟩:=x.other v n;grind
 have B:∀(j:Nat)(s:cr Z),cv[j]?=some s->∀b,s.X.mine b->¬Z.gT b/\¬Z.K b/\b<w1.heap.size:=by
  intro j s n b d;rcases A j s n b d with⟨m,a,c⟩|⟨_,a,c⟩
  .have:=h.sh j m a b c;exact⟨this.1,this.2.1,vap this.2.2 hk.size⟩
  .exact⟨λe=>absurd (h.low b (.inr e)) AP,λe=>absurd (h.low b (.inl e)) AP,c⟩
 have C:∀(j k:Nat)(s s':cr Z),cv[j]?=some s->cv[k]?=some s'->j≠k->∀b,s.X.mine b->¬s'.X.mine b:=by
  intro j k s s' n H q b d z;rcases A j s n b d with⟨m,a,c⟩|⟨K,a,c⟩<;>rcases A k s' H b z with⟨y,o,p⟩|⟨I,o,p⟩
  .exact h.apart j k m y a o q b c p
  .have:=(h.sh j m a b c).2.2;omega
  .have:=(h.sh k y o b p).2.2;omega
  grind
 have D:∀b,Z.K b\/Z.gT b->b<w1.heap.size:=λb d=>vap (h.low b d) hk.size;refine⟨B,C,D,λaT=>⟨?_,?_,?_,?_,G.tp,?_,λb d=>D b (.inl d),?_⟩⟩
 .rintro j k b ⟨s,a,c⟩ ⟨s',o,p⟩;grind
 .rintro j b ⟨s,a,c⟩;exact(B j s a b c).2.1
 .intro l b j hg g;obtain⟨u,a,c⟩:=G.Fe l hg;rw[g]at a;cases a;exact⟨λ⟨s,F,E⟩=>AA,λe=>G.np b e c⟩
 .intro l b j hg g;obtain⟨u,a,c⟩:=G.BD l hg;rw[g]at a;cases a;exact⟨λ⟨s,F,E⟩=>AA,λe=>G.np b e c⟩
 .rintro j b ⟨s,a,c⟩;exact(B j s a b c).2.2
 .intro l b g d;rcases g with g|g
  .obtain⟨u,a,c⟩:=G.Fe l g;rw[d]at a;cases a;exact D b (.inr c)
  .obtain⟨u,a,c⟩:=G.BD l g;rw[d]at a;cases a;exact D b (.inr c)
def Ye(G:Z.Good)(base:Nat)(rs:List (cr Z))(size:Nat)(aT:ubg):L3 (ja Z base rs size aT):=
 ⟨λl h=>let⟨_,a,_⟩:=G.Fe l h;Fb a,λl h=>let⟨_,a,_⟩:=G.BD l h;Fb a⟩
theorem Yf{p:kq}{j:Nat}{l:Z.Lo}{mine:dh}(hK:p.K=Z.K)(g:∀b,mine b->p.mine j b)(hg:p.gS=Z.gS)(hs:p.eZ=Z.eZ)(ht:Z.tok l=true->p.tok=some j)(f:Z.past l=false->¬p.past j)(h:Z.zero l->j=0):
 ∀(es:ubi)(d:Nat),oL Z l mine d es->Rk p j d es
 | [],_,_=>trivial
 |e::es,d,⟨c,i⟩=>by
  refine⟨?_,Yf hK g hg hs ht f h es _ i⟩;obtain⟨loc,wr,k⟩:=e;cases loc with
  |cell a=>
   rcases c with⟨x,y,z⟩|⟨x,y,z⟩
   .exact .inl AA
   .exact .inr AA
  |obj r=>exact⟨c.1,c.2.1.imp AA (g _),f c.2.2⟩
  |mark m=>exact c.imp id AA
  |output=>trivial
  |goroutines=>exact c
end
variable{es:uao}{g g1:uah}
section
section
variable{Z:fc}{Q:b4}{Stop:Bool->Z.Lo->aV->Prop}{base:Nat}{rs cv:List (cr Z)}{γ bA:Z.aO}{w w1:aS}{t:Trace}
def Inv.lt(h:Inv Z Q Stop base rs γ w t){i:Nat}{r:cr Z}(hi:rs[i]?=some r)(b:¬Z.Left r.l)(size:Nat)(aT:ubg):(ja Z base rs size aT).bd i:=by
 obtain⟨a,_⟩:=vab.1 hi;refine⟨a,?_⟩;rcases vbl i with e|e
 .grind
 .refine .inr (Nat.le_of_not_lt λc=>b (h.old i r hi AP c).1)
def L9(i:Nat)(fn:uaj)(pos:String)(m:Mark):MemOp.ofEvents i fn pos #[Ff m]=#[({g:=i,fn,pos,act:=.mark m}:MemOp)]:=by rw[ofEvents_eq];simp[Ff,MemAct.ofEvent]
def Inv.says(G:Z.Good)(h:Inv Z Q Stop base rs γ w t){i:Nat}{r r1:cr Z}(hi:rs[i]?=some r)(P:¬Z.Left r.l)(a:Row rs cv i r1 f)(hk:li Z r.X.mine w w1)(N:r1.X.mine=grown r.X.mine w w1)(hd:Deaf t i=Z.deaf r.l)(X:Z.tok r.l=false->Z.tok r1.l=true->∀(k:Nat)(s:cr Z),k≠i->rs[k]?=some s->Z.tok s.l=true->False)(hs:Says Z r.l r1.l (grown r.X.mine w w1) es)(fn:uaj)(pos:String):
 (∃aT,(∀(j:Nat)(s:cr Z),cv[j]?=some s->(Z.tok s.l=true↔aT=some j))/\eo (ja Z base cv w1.heap.size aT) (t++MemOp.ofEvents i fn pos es))/\Deaf (t++MemOp.ofEvents i fn pos es) i=Z.deaf r1.l:=by
 have H:∀b,r1.X.mine b->r.X.mine b\/(w.heap.size<=b/\b<w1.heap.size):=λb A=>by rw[N]at A;exact A
 obtain⟨hB,hC,hD,R⟩:=h.parts G hi a hk H;obtain⟨aT,U,B⟩:=h.aT;have z:∀aT,(ja Z base cv w1.heap.size aT).bd i:=λaT=>by have:=h.lt hi P w1.heap.size aT;unfold kq.bd ja at this⊢;simp only at this⊢;rw[a.len];grind
 have J:∀aT j b,(ja Z base cv w1.heap.size aT).mine j b->(ja Z base rs w.heap.size aT).mine j b\/w.heap.size<=b:=by
  rintro aT j b ⟨s,m,n⟩;by_cases c:j=i
  .subst c;rw[a.at_]at m;cases m;exact(H b n).imp (λe=>⟨r,hi,e⟩) (λe=>e.1)
  .obtain⟨q,u,rfl⟩:=a.other c m;exact .inl ⟨q,u,n⟩
 have L:(Z.past r1.l=Z.past r.l)->∀aT j,(ja Z base cv w1.heap.size aT).past j->(ja Z base rs w.heap.size aT).past j:=by
  rintro I aT j ⟨s,m,n⟩;by_cases c:j=i
  .subst c;rw[a.at_]at m;cases m;exact⟨r,hi,AA⟩
  .obtain⟨q,u,rfl⟩:=a.other c m;exact⟨q,u,n⟩
 have conv:(Z.past r1.l=Z.past r.l)->eo (ja Z base cv w1.heap.size aT) t:=λI=>
  B.conv a.len rfl hk.size rfl (J aT) rfl rfl rfl rfl rfl (L I aT)
 have T:∀(j:Nat)(s:cr Z),j≠i->cv[j]?=some s->(Z.tok s.l=true↔aT=some j):=by intro j s d M;obtain⟨q,u,rfl⟩:=a.other d M;grind
 rcases hs with⟨v,o,x,E⟩|⟨rfl,v,o,x,E,D⟩|⟨rfl,v,o,x,E,D⟩|⟨rfl,v,o,x,E⟩
 .refine⟨⟨aT,λj s d=>?_,?_⟩,by rw[Deaf_own,hd,x]⟩
  .by_cases c:j=i
   .subst c;rw[a.at_]at d;grind
   grind
  .have:=eo.step (R aT) (Ye G base cv w1.heap.size aT) (z aT) fn pos es.toList (conv o) (Yf (Z:=Z) (p:=ja Z base cv w1.heap.size aT) (j:=i) (l:=r.l) (mine:=grown r.X.mine w w1) rfl (λb A=>⟨r1,a.at_,BK⟩) rfl rfl (λht=>(U i r hi).1 ht)
    (λY⟨s,m,n⟩=>by rw[a.at_]at m;grind) (λO=>G.zero γ _ i r.l h.tu AA O) es.toList _ AA)
   omega
 .have F:aT=none:=by cases C:aT with|none=>rfl|some k=>exfalso;have K:=(B.tn k C).1;obtain⟨s,W⟩:∃s,rs[k]?=some s:=⟨rs[k]'K.1,vag K.1⟩;grind
  refine⟨⟨some i,λj s d=>?_,?_⟩,I4⟩
  .by_cases c:j=i
   .subst c;rw[a.at_]at d;grind
   grind
  .have h0:=conv D;rw[F]at h0;have:=eo.aj3 h0 rfl (y:={g:=i,fn,pos,act:=.mark (.acquire Z.mu)}) (z none) rfl AA;rw[L9];exact this
 .have C:aT=some i:=AA;refine⟨⟨none,λj s d=>?_,?_⟩,I4⟩
  .by_cases c:j=i
   .subst c;rw[a.at_]at d;grind
   grind
  .have h0:=conv D;rw[C]at h0;have:=eo.aj4 h0 (y:={g:=i,fn,pos,act:=.mark (.releaseMerge Z.mu)}) rfl rfl AA;rw[L9];exact this
 .refine⟨⟨aT,λj s d=>?_,?_⟩,I4⟩
  .by_cases c:j=i
   .subst c;rw[a.at_]at d;grind
   grind
  .have h0:eo {ja Z base cv w1.heap.size aT with past:=(ja Z base rs w.heap.size aT).past} t:=
    B.conv a.len rfl hk.size rfl (J aT) rfl rfl rfl rfl rfl (λj d=>d)
   have:=eo.aj5 h0 (y:={g:=i,fn,pos,act:=.mark (.releaseMerge Z.wg)}) (z aT) rfl AA (past:=(ja Z base cv w1.heap.size aT).past) (λk S=>by
    obtain⟨s,m,n⟩:=S;by_cases V:k=i
    .grind
    .obtain⟨q,u,rfl⟩:=a.other V m;exact .inl ⟨q,u,n⟩)
   simp_all[L9]
def Inv.own(G:Z.Good)(h:Inv Z Q Stop base rs γ w t){i:Nat}{r r1:cr Z}(hi:rs[i]?=some r)(y:¬Z.Left r.l)(g:Row rs cv i r1 f)(n:r1.X.w=w1)(hk:li Z r.X.mine w w1)(v:r1.X.mine=grown r.X.mine w w1)(H:Z.pD bA ((rs.map (·.l)).set i r1.l))(u:Z.tq bA w1){k:Trace}(F:∀(j:Nat)(s:cr Z),j≠i->cv[j]?=some s->tt Z Q Stop (j==0) bA (Deaf k j) s)(I:tt Z Q Stop (i==0) bA (Deaf k i) r1)(ht:∃aT,(∀(j:Nat)(s:cr Z),cv[j]?=some s->(Z.tok s.l=true↔aT=some j))/\eo (ja Z base cv w1.heap.size aT) k):Inv Z Q Stop base cv bA w1 k:=by
 have x:∀b,r1.X.mine b->r.X.mine b\/(w.heap.size<=b/\b<w1.heap.size):=λb c=>by rw[v]at c;exact c
 obtain⟨B,A,z,_⟩:=h.parts G hi g hk x;obtain⟨D,C⟩:=h.kept G hi hk;refine⟨λj s a=>?_,by rw[g.ls];grind,u,λj s a=>?_,B,A,z,λj s a h0 c=>?_,ht,by rw[g.len];grind⟩
 .by_cases e:j=i
  .subst e;rw[g.at_]at a;grind
  grind
 .by_cases e:j=i
  .subst e;rw[g.at_]at a;cases a;subst n;exact⟨⟨λ_ _=>Y,vac _,Y⟩,.refl _,Y,Y⟩
  .obtain⟨l,m,rfl⟩:=g.other e a;obtain⟨o,q,p,E⟩:=h.rely j l m;refine⟨⟨λb c=>?_,vad o.size hk.size,?_⟩,q.trans hk.os,hk.output.trans p,hk.tape.trans E⟩
   .rw[<-o.heap b c];grind
   .rw[<-o.env];obtain⟨d,hd⟩:=hk.os;rw[hd]
 .by_cases e:j=i
  .subst e;exact absurd (h.old j r hi h0 c).1 y
  .obtain⟨l,m,rfl⟩:=g.other e a;exact h.old j l m h0 c
theorem akg(w1:aS):∀{x:uah},x.offers=none->x.status=.running->({x with status:=.blocked}:uah).again w1=x:=by rintro⟨a,b,c,d,e⟩ g f;grind[Goroutine.again]
theorem tt.woken{m:Bool}{d:Nat}{s:cr Z}(G:Z.Good)(h:tt Z Q Stop m γ d s){w1:aS}(hrun:g1.status=.running)(c:Z.dZ s.l γ bA)(k:mayWake Q g=true\/(Z.n7 s.l γ->Z.n7 s.l bA)):
 tt Z Q Stop m bA d {s with g:=woken Q g g1 w1 s.g}:=by
 have l:(mayWake Q g&&g1.status != .blocked&&g1.status != .waiting)=mayWake Q g:=AA;cases h with
 |runs hg b ht hn hd h0 a=>
  have e:Go.Conc.woken Q g g1 w1 s.g=s.g:=by grind[Go.Conc.woken,again_running]
  rw[e];exact .runs hg b (ht.hV G c) hn hd h0 a
 |waits hg b j ht hn f hd h0 a=>
  cases n:mayWake Q g with
  |true=>
   have e:Go.Conc.woken Q g g1 w1 s.g=s.X.g:=by grind[Go.Conc.woken,akg]
   rw[e];exact .runs Y b (ht.hV G c) (λ_=>hn) hd h0 a
  |false=>
   have e:Go.Conc.woken Q g g1 w1 s.g=s.g:=by grind[Go.Conc.woken]
   rw[e];exact .waits hg b j (ht.hV G c) hn AA hd h0 a
 |leaves i hq a hs=>rw[woken_quitsD hq];exact .leaves i hq a hs
end
end
section
section
variable{Z:fc}{Q:b4}{Stop:Bool->Z.Lo->aV->Prop}{base:Nat}{rs cv:List (cr Z)}{γ bA:Z.aO}{w w1:aS}{t:Trace}
def akh{e:Event}(h:e.mute=true):∃m,(MemAct.ofEvent e)=.mark m/\zR m:=by
 obtain⟨loc,wr,a⟩:=e;cases loc<;>simp_all[Event.mute]
 grind[MemAct.ofEvent,zR]
theorem eo.mute{p:kq}{i:Nat}(hi:i<p.n)(fn:uaj)(pos:String):∀(l:ubi){t:Trace},eo p t->(∀e∈l,e.mute=true)->eo p (t++MemOp.ofEvents i fn pos l.toArray)
 | [],t,h,_=>by grind[ofEvents_eq]
 |e::l,t,h,d=>by
  obtain⟨m,c,b⟩:=akh (d e Ad);have:=eo.mute hi fn pos l (h.word (y:={g:=i,fn,pos,act:=.ofEvent e}) hi (by rw[c];cases m<;>simp[zR]at b<;>rfl) (λa=>by rw[c];cases m<;>simp[zR]at b<;>simp)) AA
  rw[ofEvents_eq]at this⊢;have f:t++#[({g:=i,fn,pos,act:=.ofEvent e}:MemOp)]++Array.map (λe=>({g:=i,fn,pos,act:=.ofEvent e}:MemOp)) l.toArray=t++Array.map (λe=>({g:=i,fn,pos,act:=.ofEvent e}:MemOp)) (e::l).toArray:=by apply Array.ext';simp
  rw[f]at this;exact this
def tv(rs:List (cr Z))(γ:Z.aO):List (Bool×Z.Lo×Z.aO×aV):=rs.mapIdx λj r=>(j==0,r.l,γ,r.X)
def Ma(rs:List (cr Z)):Nat:=(rs.map (·.n)).sum
def xN(g:uah):Nat:=match g.status with| .running=>1| _=>0
def jb(rs:List (cr Z)):Nat:=(rs.map λr=>xN r.g).sum
def meas(rs:List (cr Z))(γ:Z.aO):Nat×List (Bool×Z.Lo×Z.aO×aV)×Nat×Nat:=(Z.a_ γ,tv rs γ,Ma rs,jb rs)
theorem Fg:∀(l:uaa)(i x:Nat)(h:i<l.length),(l.set i x).sum+l[i]=l.sum+x
 |a::l,0,x,_=>AA
 |a::l,i+1,x,h=>by have:=Fg l i x EJ;simp;omega
theorem Fh(rs:List (cr Z))(γ:Z.aO)(j:Nat):(tv rs γ)[j]?=(rs[j]?).map λr=>(j==0,r.l,γ,r.X):=by simp[tv]
def Yg{i:Nat}{r1:cr Z}(h:Row rs cv i r1 f)(γ:Z.aO):tv cv γ=(tv rs γ).set i (i==0,r1.l,γ,r1.X):=by
 apply vca;intro j;by_cases b:j=i
 .subst b;have a:j<(tv rs γ).length:=by obtain⟨x,_⟩:=vab.1 h.at_;simp[tv,<-h.len,x]
  rw[Fh,h.at_,vcg a];rfl
 .rw[vba (Ne.symm b),Fh,Fh,h.hV j b,Option.map_map];rfl
def Inv.aki(G:Z.Good)(h:Inv Z Q Stop base rs γ w t):Acc (xL (L6 Z Q Stop)) (tv rs γ):=by refine ajW _ λx c=>?_;obtain⟨j,a⟩:=List.mem_iff_getElem?.1 c;rw[Fh]at a;obtain⟨r,d,rfl⟩:=vaj.1 a;cases h.sits j r d with|runs _ _ ht _ _ _ _=>exact ht.acc G|waits _ _ _ ht _ _ _ _ _=>exact ht.acc G|leaves e hq f hs=>exact⟨_,λy b=>absurd hs b.1⟩
def Rs(a:∀l X,Stop false l X->Z.Left l/\∃n,QuitsD Q n (Z.deaf l) X.g){m:Bool}{l1:Z.Lo}{wh:aV}(b:wh.g.status=.running)(ht:bg Z Q Stop m l1 bA wh)(e:Z.Left l1->m=false/\Stop m l1 wh):∃n,tt Z Q Stop m bA (Z.deaf l1) ⟨wh.g,l1,wh,n⟩:=by
 by_cases hs:m=false/\Stop m l1 wh
 .obtain⟨rfl,hs⟩:=hs;obtain⟨d,n,c⟩:=a l1 wh hs;exact⟨n,.leaves Y c d hs⟩
 .exact⟨0,.runs Y b ht AA Y Y AA⟩
def akj{i:Nat}{r:cr Z}(hi:rs[i]?=some r)(b:Z.pD γ (rs.map (·.l))){l1:Z.Lo}(a:BG Z r.l γ l1 bA):Z.pD bA ((rs.map (·.l)).set i l1)/\∀(j:Nat)(s:cr Z),j≠i->rs[j]?=some s->Z.dZ s.l γ bA:=by obtain⟨e,d⟩:=a.2 (rs.map (·.l)) i AA b;exact⟨e,λj s c hs=>d j s.l c AA⟩
theorem BM(rs:List (cr Z))(j:Nat):(kr Z rs)[j]?=(rs[j]?).map (·.g):=by simp[kr]
def Rt(Z:fc)(Stop:Bool->Z.Lo->aV->Prop)(rs:List (cr Z)):Prop:=∃r,rs[0]?=some r/\Stop true r.l r.X/\r.g=r.X.g
theorem Inv.at(h:Inv Z Q Stop base rs γ w t)(G:Z.Good)(d:Nat):Inv Z Q Stop base rs γ (w.at d) t:=
 ⟨h.sits,h.tu,G.mt γ w (w.at d) (λ_ _=>Y) h.mt,λj r a=>⟨j5.at (h.rely j r a).1 d,(h.rely j r a).2⟩,h.sh,h.apart,h.low,h.old,h.aT,h.aka⟩
def Inv.goes(G:Z.Good)(e:∀l X,Stop false l X->Z.Left l/\∃n,QuitsD Q n (Z.deaf l) X.g)(h:Inv Z Q Stop base rs γ w t){i:Nat}{r:cr Z}(hi:rs[i]?=some r)(c:¬Z.Left r.l)(hd:Deaf t i=Z.deaf r.l){l1:Z.Lo}(hk:li Z r.X.mine w w1)(g:Z.tq bA w1)(b:Z.pD bA ((rs.map (·.l)).set i l1))(D:∀(j:Nat)(s:cr Z),j≠i->rs[j]?=some s->Z.dZ s.l γ bA)(hrun:g1.status=.running)(z:Says Z r.l l1 (grown r.X.mine w w1) es)(B:mayWake Q r.g=true\/∀l,Z.n7 l γ->Z.n7 l bA)(ht:bg Z Q Stop (i==0) l1 bA ⟨g1,w1,grown r.X.mine w w1⟩)(p:Z.Left l1->(i==0)=false/\Stop (i==0) l1 ⟨g1,w1,grown r.X.mine w w1⟩)(fn:uaj)(pos:String):
 ∃cv,kr Z cv=((kr Z rs).map (woken Q r.g g1 w1)).setIfInBounds i g1/\Inv Z Q Stop base cv bA w1 (t++MemOp.ofEvents i fn pos es)/\tv cv γ=(tv rs γ).set i (i==0,l1,γ,⟨g1,w1,grown r.X.mine w w1⟩):=by
 obtain⟨n,x⟩:=Rs e (m:=i==0) (l1:=l1) (wh:=⟨g1,w1,grown r.X.mine w w1⟩) hrun ht p;let r1:cr Z:=⟨g1,l1,⟨g1,w1,grown r.X.mine w w1⟩,n⟩
 have a:=L8 rs hi r1 (woken Q r.g g1 w1);have E:i<rs.length:=(vab.1 hi).1;obtain⟨q,F⟩:=h.says (r1:=r1) (es:=es) G hi c a hk Y hd (λ_ v k s A C y=>A (G.one bA _ k i s.l l1 b AA AA y v)) z fn pos;refine⟨_,Rp rs i r1 _,h.own (r1:=r1) G hi c a Y hk Y b g (λj s d hs=>?_) AA q,Yg a γ⟩;obtain⟨f,u,rfl⟩:=a.other d hs;rw[Deaf_other t (g':=i) (Ne.symm d) _ (λop o=>by grind[ofEvents_eq])];exact(h.sits j f u).woken G hrun AA AA
end
end
section
section
variable{Z:fc}{Q:b4}{Stop:Bool->Z.Lo->aV->Prop}{base:Nat}{rs cv:List (cr Z)}{γ bA:Z.aO}{w w1:aS}{t:Trace}
def akl{i:Nat}{r r1:cr Z}(hi:rs[i]?=some r)(h:Row rs cv i r1 f)(m:r1.l=r.l)(l:r1.X=r.X){size:Nat}{aT:ubg}(k:eo (ja Z base rs size aT) t):eo (ja Z base cv size aT) t:=by
 refine k.conv h.len Y JT Y ?_ Y Y Y Y Y ?_
 .rintro j b ⟨s,a,g⟩;by_cases c:j=i
  .subst c;rw[h.at_]at a;cases a;exact .inl ⟨r,hi,AA⟩
  .obtain⟨d,e,rfl⟩:=h.other c a;exact .inl ⟨d,e,g⟩
 .rintro j ⟨s,a,g⟩;by_cases c:j=i
  .subst c;rw[h.at_]at a;cases a;exact⟨r,hi,AA⟩
  .obtain⟨d,e,rfl⟩:=h.other c a;exact⟨d,e,g⟩
def Inv.record(h:Inv Z Q Stop base rs γ w t){i:Nat}{r r1:cr Z}(hi:rs[i]?=some r)(e:Row rs cv i r1 f)(v:r1.l=r.l)(q:r1.X=r.X){g:Trace}(y:∀(j:Nat)(s:cr Z),j≠i->cv[j]?=some s->tt Z Q Stop (j==0) γ (Deaf g j) s)(z:tt Z Q Stop (i==0) γ (Deaf g i) r1)(x:∀size aT,eo (ja Z base rs size aT) t->eo (ja Z base rs size aT) g):Inv Z Q Stop base cv γ w g:=by
 have A:i<rs.length:=(vab.1 hi).1;have back:∀(j:Nat)(s:cr Z),cv[j]?=some s->∃b,rs[j]?=some b/\s.l=b.l/\s.X=b.X:=by
  intro j s a;by_cases l:j=i
  .subst l;rw[e.at_]at a;grind
  .obtain⟨b,c,rfl⟩:=e.other l a;grind
 refine⟨λj s a=>?_,?_,h.mt,λj s a=>?_,λj s a=>?_,λj k s s' a hk m=>?_,h.low,λj s a=>?_,?_,by rw[e.len];grind⟩
 .by_cases l:j=i
  .subst l;rw[e.at_]at a;grind
  grind
 .have:(rs.map (·.l)).set i r1.l=rs.map (·.l):=by apply vca;grind
  rw[e.ls,this];exact h.tu
 .obtain⟨b,d,_,c⟩:=back j s a;rw[c];exact h.rely j b d
 .obtain⟨b,d,_,c⟩:=back j s a;rw[c];exact h.sh j b d
 .obtain⟨b,d,_,c⟩:=back j s a;obtain⟨p,u,_,o⟩:=back k s' hk;rw[c,o];exact h.apart j k b p d u m
 .obtain⟨b,d,n,c⟩:=back j s a;rw[n,c];exact h.old j b d
 .obtain⟨aT,d,n⟩:=h.aT;refine⟨aT,λj s a=>?_,akl hi e v q (x _ _ n)⟩;grind
def Yh{i:Nat}{r r1:cr Z}(hi:rs[i]?=some r)(h:Row rs cv i r1 f):Ma cv+r.n=Ma rs+r1.n:=by
 obtain⟨c,b⟩:=vab.1 hi;have e:cv.map (·.n)=(rs.map (·.n)).set i r1.n:=by
  apply vca;intro j;by_cases a:j=i
  .subst a;rw[vcg AA,vbd,h.at_];rfl
  .rw[vba (Ne.symm a),vbd,vbd,h.hV j a,Option.map_map];rfl
 grind[Fg,Ma]
def akn{i:Nat}{r r1:cr Z}(hi:rs[i]?=some r)(h:Row rs cv i r1 id):jb cv+xN r.g=jb rs+xN r1.g:=by
 obtain⟨c,b⟩:=vab.1 hi;have e:(cv.map λr=>xN r.g)=(rs.map λr=>xN r.g).set i (xN r1.g):=by
  apply vca;intro j;by_cases a:j=i
  .subst a;rw[vcg AA,vbd,h.at_];rfl
  .rw[vba (Ne.symm a),vbd,vbd,h.hV j a,Option.map_map];rfl
 grind[Fg,jb]
def Yi{i:Nat}{r r1:cr Z}(hi:rs[i]?=some r)(h:Row rs cv i r1 f)(b:r1.l=r.l)(a:r1.X=r.X):tv cv γ=tv rs γ:=by
 rw[Yg h γ];apply vca;intro j;by_cases c:j=i
 .grind[Fh]
 grind
def ako(h:g1.status=.blocked)(w1:aS):woken Q g g1 w1=id:=by grind[woken]
def Yj{i:Nat}{fn:uaj}{pos:String}:∀op∈MemOp.ofEvents i fn pos es,op.g=i:=λop a=>by grind[ofEvents_eq]
theorem tt.hV{m:Bool}{d:Nat}{s:cr Z}(G:Z.Good)(h:tt Z Q Stop m γ d s)(e:Z.dZ s.l γ bA)(f:Z.n7 s.l γ->Z.n7 s.l bA):tt Z Q Stop m bA d s:=by cases h with|runs hg c ht hn hd h0 a=>exact .runs hg c (ht.hV G e) hn hd h0 a|waits hg c i ht hn b hd h0 a=>exact .waits hg c i (ht.hV G e) hn (f b) hd h0 a|leaves g hq a hs=>exact .leaves g hq a hs
def Inv.akp(G:Z.Good)(K:∀l X,Stop false l X->Z.Left l/\∃n,QuitsD Q n (Z.deaf l) X.g)(h:Inv Z Q Stop base rs γ w t)(vU:base<=rs.length){r:cr Z}(hi:rs[0]?=some r)(V:¬Z.Left r.l)(hd:Deaf t 0=Z.deaf r.l){l1 lc:Z.Lo}{child:uah}(a:Rn Z r.l γ r.X w g1 child w1 es l1 bA lc)(ht:bg Z Q Stop true l1 bA ⟨g1,w1,grown r.X.mine w w1⟩)(hc:bg Z Q Stop false lc bA ⟨child,w1,λ_=>False⟩)(fn v:uaj)(pos pos':String):
 ∃cv,kr Z cv=((kr Z rs).setIfInBounds 0 g1).push child/\Inv Z Q Stop base cv bA w1 (t++((MemOp.ofEvents 0 fn pos es).push {g:=0,fn,pos,act:=.go rs.length} |>.push {g:=rs.length,fn:=v,pos:=pos',act:=.start})):=by
 obtain⟨n,akk⟩:=Rs K (m:=true) (l1:=l1) (wh:=⟨g1,w1,grown r.X.mine w w1⟩) a.run ht (λh=>absurd h a.stays.1);obtain⟨bD,I⟩:=Rs K (m:=false) (l1:=lc) (wh:=⟨child,w1,λ_=>False⟩) a.Yb hc (λh=>absurd h a.stays.2);let r1:cr Z:=⟨g1,l1,⟨g1,w1,grown r.X.mine w w1⟩,n⟩
 let rc:cr Z:=⟨child,lc,⟨child,w1,λ_=>False⟩,bD⟩
 have o:=L8 rs hi r1 id;have H:(rs.map λs=>{s with g:=id s.g})=rs:=by simp_all
 rw[H]at o;have IC:Says Z r.l l1 (grown r.X.mine w w1) es:=.inl ⟨a.tok.1,a.past.1,by rw[a.deaf.1,a.deaf.2.1,a.deaf.2.2.1],by rw[a.deaf.1];exact a.evs⟩;obtain⟨⟨aT,L_,C⟩,BN⟩:=h.says (r1:=r1) (es:=es) G hi V o a.keep rfl hd (λh0 q _ _ _ _ _=>by rw[show r1.l=l1 from rfl,a.tok.1,h0]at q;cases q) IC fn pos;have U:∀b,r1.X.mine b->r.X.mine b\/(w.heap.size<=b/\b<w1.heap.size):=λb a=>a;obtain⟨hB,Y,W,_⟩:=h.parts G hi o a.keep U;obtain⟨ake,akf⟩:=h.kept G hi a.keep;obtain⟨lD,R⟩:=a.zU (rs.map (·.l)) AA h.tu;have hlen:(rs.set 0 r1).length=rs.length:=Ad;generalize F:rs.set 0 r1=D at o C L_ hB Y hlen;have ee:∀(j:Nat)(s:cr Z),(D++[rc])[j]?=some s->(j<rs.length/\D[j]?=some s)\/(j=rs.length/\s=rc):=by grind[List.getElem?_append_right]
 have e1:t++((MemOp.ofEvents 0 fn pos es).push {g:=0,fn,pos,act:=.go rs.length} |>.push {g:=rs.length,fn:=v,pos:=pos',act:=.start})=(t++MemOp.ofEvents 0 fn pos es)++#[({g:=0,fn,pos,act:=.go rs.length}:MemOp),{g:=rs.length,fn:=v,pos:=pos',act:=.start}]:=by apply Array.ext';simp
 rw[e1];generalize L:#[({g:=0,fn,pos,act:=.go rs.length}:MemOp),{g:=rs.length,fn:=v,pos:=pos',act:=.start}]=u;have E:∀j,Deaf ((t++MemOp.ofEvents 0 fn pos es)++u) j=Deaf (t++MemOp.ofEvents 0 fn pos es) j:=λj=>by have:=Deaf_append (t++MemOp.ofEvents 0 fn pos es) j u.toList;rw[Array.toArray_toList]at this;rw[this,<-L];rfl
 have IE:Deaf (t++MemOp.ofEvents 0 fn pos es) rs.length=0:=Deaf_absent λi op hi e=>by have:=C.gs i op hi;grind[ja]
 refine⟨D++[rc],?_,⟨λj s f=>?_,?_,a.mt,λj s f=>?_,λj s f=>?_,λj k s s' f hk T b Wp aCG=>?_,W,λj s f h0 Fi=>?_,?_,Ad⟩⟩
 .rw[<-F];unfold kr;rw[List.setIfInBounds_toArray,List.push_toArray,vcr,List.map_set];rfl
 .rw[E];rcases ee j s f with⟨z,c⟩|⟨rfl,rfl⟩
  .by_cases h0:j=0
   .grind
   .obtain⟨p,A,rfl⟩:=o.other h0 c;rw[Deaf_other t (g':=0) (Ne.symm h0) _ Yj];exact(h.sits j p A).hV G (R j p.l h0 AA) (a.IA p.l)
  .rw[IE];have:(rs.length==0)=false:=by grind
   rw[this];have N:=I;rw[a.deaf.2.2.2]at N;exact N
 .rw[vcr,o.ls];grind
 .rcases ee j s f with⟨z,c⟩|⟨rfl,rfl⟩
  .by_cases h0:j=0
   .subst h0;rw[o.at_]at c;cases c;exact⟨⟨λ_ _=>rfl,vac _,rfl⟩,.refl _,rfl,rfl⟩
   .obtain⟨p,A,rfl⟩:=o.other h0 c;obtain⟨J,P,O,BL⟩:=h.rely j p A;refine⟨⟨λb S=>?_,vad J.size a.keep.size,?_⟩,P.trans a.keep.os,a.keep.output.trans O,a.keep.tape.trans BL⟩
    .rw[<-J.heap b S];grind
    .rw[<-J.env];obtain⟨d,hd⟩:=a.keep.os;rw[hd]
  .exact⟨⟨λ_ _=>rfl,vac _,rfl⟩,.refl _,rfl,rfl⟩
 .grind
 .grind
 .rcases ee j s f with⟨z,c⟩|⟨rfl,rfl⟩
  .obtain⟨p,A,rfl⟩:=o.other h0 c;exact h.old j p A h0 Fi
  .omega
 .have Mc:Deaf (t++MemOp.ofEvents 0 fn pos es) 0=0:=by rw[BN];exact a.deaf.2.2.1
  have Yk:(ja Z base D w1.heap.size aT).n=rs.length:=hlen;have M:=C.aj7 (x:={g:=0,fn,pos,act:=.go rs.length}) (y:={g:=rs.length,fn:=v,pos:=pos',act:=.start}) AA AA Mc AA
   (λb⟨s,q,_⟩=>AA)
  rw[L]at M;refine⟨aT,λj s f=>?_,M.conv (by simp[ja]) rfl JT rfl ?_ rfl rfl rfl rfl rfl ?_⟩
  .rcases ee j s f with⟨_,c⟩|⟨rfl,rfl⟩
   .grind
   .rw[show rc.l=lc from rfl,a.tok.2];refine⟨AA,λe=>?_⟩;have:=(C.tn _ e).1.1;grind
  .rintro j b ⟨s,q,B⟩;rcases ee j s q with⟨_,c⟩|⟨rfl,rfl⟩
   .exact .inl ⟨s,c,B⟩
   grind
  .rintro j ⟨s,q,B⟩;rcases ee j s q with⟨_,c⟩|⟨rfl,rfl⟩
   .exact⟨s,c,B⟩
   .rw[show rc.l=lc from rfl,a.past.2]at B;cases B
end
end
section
section
variable{Z:fc}{Q:b4}{Stop:Bool->Z.Lo->aV->Prop}{base:Nat}{rs cv:List (cr Z)}{γ bA:Z.aO}{w w1:aS}{t:Trace}
def aku{n d:Nat}(h:QuitsD Q n d g):awake g:=λx e=>by rcases h.status with h|h<;>rw[h]at e<;>cases e
theorem Inv.awake(h:Inv Z Q Stop base rs γ w t):∀g∈kr Z rs,awake g:=by intro g hg;obtain⟨j,a⟩:=Array.mem_iff_getElem?.1 hg;rw[BM]at a;obtain⟨r,b,rfl⟩:=vaj.1 a;cases h.sits j r b with|runs hg c _ _ _ _ _=>intro x e;grind|waits hg _ _ _ _ _ _ _ _=>intro x e;grind|leaves _ hq _ _=>exact aku hq
def Inv.rel(h:Inv Z Q Stop base rs γ w t){j:Nat}{r:cr Z}(a:rs[j]?=some r):dQ Z r.l γ r.X w:=
 let⟨e,d,c,b⟩:=h.rely j r a
 ⟨e,h.mt,⟨rs.map (·.l),j,AA,h.tu⟩,d,c,b⟩
theorem Inv.step(G:Z.Good)(C:∀l X,Stop false l X->Z.Left l/\∃n,QuitsD Q n (Z.deaf l) X.g)(h:Inv Z Q Stop base rs γ w t)(V:base<=rs.length)(sl:ubb):
 Rt Z Stop rs\/∃cv U w' sl' ops,stepT Q (crowd (kr Z rs) w sl)=(.next (crowd (kr Z cv) w' sl'),ops)/\BI (L6 Z Q Stop) (meas cv U) (meas rs γ)/\Inv Z Q Stop base cv U w' (t++ops)/\base<=cv.length:=by
 by_cases cX:Rt Z Stop rs
 .grind
 refine .inr ?_;obtain⟨j,l,S,aCI,Md⟩:=G.nW γ _ h.tu;rw[vbd]at S;obtain⟨M,Rv,rfl⟩:=vaj.1 S;have L:M.g.status=.running:=by cases h.sits j M Rv with|runs hg E _ _ _ _ _=>grind|waits _ _ _ _ _ A _ _ _=>grind|leaves _ _ c _=>grind
 obtain⟨i,g,d,sl',hi,aCJ,hst⟩:=crowd_pick (P:=Q) (w:=w) (sl:=sl) h.awake ⟨j,M.g,by grind[BM],L⟩;rw[BM]at hi;obtain⟨r,a,rfl⟩:=vaj.1 hi;have E1:i<rs.length:=(vab.1 a).1;have f:=h.at G d;rw[hst];have N:(kr Z rs)[i]?=some r.g:=by grind[BM]
 have aCK:xN r.g=1:=by grind[xN]
 cases h.sits i r a with
 |runs hg E ht hn hd h0 c=>
  rcases ht.next with hs|⟨_,dg⟩
  .exfalso;rcases vbl i with e|e
   .subst e;exact cX ⟨r,a,hs,hg⟩
   grind
  .cases dg (w.at d) γ (G.refl _ _) (f.rel a)with
   |quiet q hq u=>
    rename_i g1 w1 es;rw[<-hg]at q;have oM:Z.tq γ w1:=by refine G.mt γ (w.at d) w1 (λb v=>?_) f.mt;exact hq.sh b (f.low b (.inr v)) v
    have IC:Says Z r.l r.l (grown r.X.mine (w.at d) w1) es:=by
     refine .inl ⟨rfl,rfl,?_,hq.evs⟩;have:∀(l:ubi)(d:Nat),(∀e∈l,¬we Z e)->deafBehind d l.toArray=d:=by intro l;induction l with|nil=>intro d _;rfl|cons e l ih=>intro d c;have he:=c e Ad;have h1:=ih d (λe' f=>c e' AA);grind[deafBehind,we]
     exact(this es.toList (Z.deaf r.l) (λe he A=>hq.low (.inl AA))).symm
    have K:(rs.map (·.l)).set i r.l=rs.map (·.l):=by apply vca;grind
    obtain⟨cv,z,y,T⟩:=f.goes G C a c hd hq.keep oM (by rw[K];exact h.tu) (λ_ s _ _=>G.refl _ _) hq.run IC AA u AA r.g.frame.fn r.g.frame.place;refine⟨cv,γ,w1,sl',_,by grind[runT_crowd_go],?_,y,?_⟩
    .refine .inr ⟨rfl,.inl ⟨⟨i,(i==0,r.l,γ,r.X),(i==0,r.l,γ,⟨g1,w1,grown r.X.mine (w.at d) w1⟩),by grind[meas,Fh],?_,T⟩,h.aki G⟩⟩;refine⟨?_,rfl,rfl,rfl,w.at d,g1,w1,es,f.rel a,AA,hq.run,hq.low,rfl⟩;intro hs;rcases vbl i with e|e
     .subst e;exact cX ⟨r,a,hs,hg⟩
     grind
    .have:=vcm Array.size z;grind[kr]
   |turn q hq h_ u=>rename_i g1 w1 es l1 bA;obtain⟨k1,k2⟩:=akj a f.tu hq.zU;obtain⟨cv,z,y,T⟩:=f.goes G C a c hd hq.keep hq.mt k1 k2 hq.run hq.says (by rw[hg];exact hq.IA) u h_ r.g.frame.fn r.g.frame.place;rw[<-hg]at q;refine⟨cv,bA,w1,sl',_,by grind[runT_crowd_go],.inl hq.zU.1,y,?_⟩;have:=vcm Array.size z;grind[kr]
   |wait q O A _=>
    rw[<-hg]at q;let r1:cr Z:={r with g:={r.X.g with status:=.blocked}}
    have m:=L8 rs a r1 id;have W:¬Stop (i==0) r.l r.X:=by
     intro hs;rcases vbl i with e|e
     .subst e;exact cX ⟨r,a,hs,hg⟩
     grind
    refine⟨_,γ,w.at d,sl',_,by rw[runT_crowd_go N q,ako (by rw[hg]),Rp rs i r1 id,hg],?_,?_,?_⟩
    .refine .inr ⟨rfl,.inr ⟨Yi a m rfl rfl,.inr ⟨?_,?_⟩⟩⟩
     .have:=Yh a m;simp only[meas];grind
     .have:=akn a m;simp only[meas];have e:xN r1.g=0:=rfl;omega
    .have I:∀fn pos,MemOp.ofEvents i fn pos #[]=#[]:=λ_ _=>by rw[ofEvents_eq];simp
     rw[I,Array.append_empty];refine f.record a m rfl rfl (λk s hk hs=>?_) (.waits rfl E O ht W A hd h0 c) (λ_ _ x=>x);obtain⟨D,H,rfl⟩:=m.other hk hs;exact h.sits k D H
    grind
   |born R q v u hc=>rename_i g1 child w1 es l1 bA lc;have I:i=0:=AA;subst I;rw[<-hg]at q;obtain⟨cv,z,y⟩:=f.akp G C V a c hd v u hc r.g.frame.fn child.frame.fn r.g.frame.place r.g.frame.place;refine⟨cv,bA,w1,sl',_,by grind[runT_crowd_spawn,kr],.inl v.a_,y,?_⟩;have:=vcm Array.size z;grind[kr]
 |waits hg E O ht hn A hd h0 c=>grind
 |leaves R hq c hs=>
  obtain⟨g,l,X,n⟩:=r;cases n with
  |zero=>have:=hq.1;grind
  |succ n=>
   rcases hq with⟨hf,_⟩|⟨_,g',es,aCL,q,F⟩
   .grind
   .let r1:cr Z:=⟨g',l,X,n⟩
    have J:stepG Q (i==0) g (w.at d)=.go g' (w.at d) es:=AA;have m:=L8 rs a r1 (woken Q g g' (w.at d));have l3:i≠0:=AA;refine⟨_,γ,w.at d,sl',_,by rw[runT_crowd_go N J,Rp rs i r1],?_,?_,?_⟩
    .refine .inr ⟨rfl,.inr ⟨Yi a m rfl rfl,.inl ?_⟩⟩;have:=Yh a m;simp only[meas];grind
    .refine f.record a m rfl rfl (λk s hk Y=>?_) (.leaves R (by grind[Deaf_own]) c hs) (λsize aT hT=>?_)
     .obtain⟨D,H,rfl⟩:=m.other hk Y;rw[Deaf_other t (g':=i) (Ne.symm hk) _ Yj];have B:g'.status=.running\/g'.status=.finished:=F.status;have key:=h.sits k D H;rcases B with B|B
      .exact key.woken G B (G.refl _ _) (.inr id)
      .have eqv:∀o,woken Q g g' (w.at d) o=woken Q g {g' with status:=.running} (w.at d) o:=λo=>by grind[woken]
       rw[eqv];exact key.woken G (g1:={g' with status:=.running}) rfl (G.refl _ _) (.inr id)
     .have:=eo.mute (p:=ja Z base rs size aT) (i:=i) E1 g.frame.fn g.frame.place es.toList hT AA;omega
    grind
def phase(G:Z.Good)(c:∀l X,Stop false l X->Z.Left l/\∃n,QuitsD Q n (Z.deaf l) X.g)(h:Inv Z Q Stop base rs γ w t)(g:base<=rs.length)(sl:ubb):
 uy Q (crowd (kr Z rs) w sl) t λd cA=>∃cv b w' sl',d=crowd (kr Z cv) w' sl'/\Rt Z Stop cv/\Inv Z Q Stop base cv b w' cA/\base<=cv.length:=by
 refine aj9 (aj_ (L6 Z Q Stop)) (λa m t=>∃rs γ w sl,m=crowd (kr Z rs) w sl/\a=meas rs γ/\Inv Z Q Stop base rs γ w t/\base<=rs.length) _ ?_ (meas rs γ) _ _ AA;rintro a m t ⟨rs,γ,w,sl,rfl,rfl,f,e⟩;rcases f.step G c e sl with hs|⟨cv,b,w',sl',ops,o,k,j,i⟩
 .grind
 grind
