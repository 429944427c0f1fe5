import Derived.WalkSpells
import Derived.WalkLawsBesides
import Derived.Deep.AppendLies
import Derived.RangeFuncNested
import Derived.Conc.HoldsTime
import Derived.Test.YtebcnmadaaimoaaGreatPAB
set_option linter.all false
set_option maxRecDepth 100000
set_option maxHeartbeats 16000000
namespace Go.Proofs.YtebcnmadaaimoaaGreat
abbrev cC(w v:Go.World):Prop:=Go.RowKit.Below w.heap.size w v
def vaa:=@Go.RowKit.Below.refl
def vas:=@Go.World.putObj_heap_other
def vat:=@Go.RowKit.Below.heap_setCell
def vbg:=@Go.World.alloc_heap_new
def vbm:=@Go.World.ownsRow_nil
def vbs:=@Go.Conc.mem_listed
def vbu:=@Go.Conc.stepG_mark0
def vbw:=@Go.bodyPost_ret
def vci:=@Go.info_parts
def vcj:=@Go.RowKit.Below.heap_alloc
def vck:=@Go.Conc.stepG_unwind_enter
def vcw:=@Go.Conc.stepG_markAt
def vcz:=@Go.Conc.seen_none
def vde:=@Go.World.putObj_heap_same
def vdn:=@Go.World.ownsRow.lt
def vds:=@Go.KeepsOthers.setCell
def vdv:=@Go.Conc.enter_at
def vdz:=@Go.Addr.add_lit
def vei:=@Go.Conc.goes_leave0
namespace az
def sL:Option Code->Bool
 |none=>true
 |some .ret=>true
 | _=>false
variable{aP fr:Frame}{a_ b0 cs:dZ}{w w' w1:aL}{g1:uai}{gN:uaq}
section
variable{C:cM}{S:Sync}{ρ:Ren}
theorem ajk{main main':Bool}{base:dZ}{l a:Nat}(jump:Option Code)(y:∀c,jump=some c->C.mg c)(q:eD C ρ fr aP)(m:jn C ρ cs a_)(p:jo fr cs)(u:eI C S ρ w w')(t:fr.roundOf=some l)(o:aP.roundOf=some a)(h:GStep.after (seen C.P fr.fn ((Instr.endRound l jump).events C.P w #[])) (match(Instr.endRound l jump).run C.P w with
  | .ok v w=>doReturn C.P main fr (cs++b0) none v w
  | .halt _ w=>.ended (.stuck "range over a function: no such loop" (fr.pos C.P)) w)=.go g1 w1 gN)(f:(i8 (match(Instr.endRound a jump).run C.Q w' with
  | .ok v w=>doReturn C.Q main' aP (a_++base) none v w
  | .halt _ w=>.ended (.stuck "range over a function: no such loop" (aP.pos C.Q)) w)).drawn<=S.bound):
 i9 C S ρ b0 base w' g1 w1 (GStep.after (seen C.Q aP.fn ((Instr.endRound a jump).events C.Q w' #[])) (match(Instr.endRound a jump).run C.Q w' with
  | .ok v w=>doReturn C.Q main' aP (a_++base) none v w
  | .halt _ w=>.ended (.stuck "range over a function: no such loop" (aP.pos C.Q)) w)):=by
 have E:ρ.rel l a:=by have:=q.roundOf;rw[t,o]at this;cases this;grind
 obtain⟨H,i⟩:=Af h;have lU:Good ((Instr.endRound l jump).run C.P w):=by cases b:(Instr.endRound l jump).run C.P w with|ok v j=>trivial|halt x j=>grind
 have B:(lz ((Instr.endRound a jump).run C.Q w')).drawn<=S.bound:=by cases b:(Instr.endRound a jump).run C.Q w' with|ok v j=>rw[b]at f;simp only[Xs]at f;exact f|halt x j=>rw[b]at f;exact f
 obtain⟨σ,F,k,g,D⟩:=aiP E jump y S w w' u lU B;obtain⟨d,hd,s⟩:=D #[];rw[vdf]at hd;rw[hd];refine i9.after g (λe z=>s e (xY z)) ?_;generalize(Instr.endRound l jump).run C.P w=r at k i;generalize(Instr.endRound a jump).run C.Q w'=r' at k;cases k with
 |ok hv n=>cases m with|nil=>have:=p.2;grind|cons A b=>exact Xy (q.mono g.le) (A.mono g.le) (jn.mono g.le b) p.QA n hv i
 |panic hv n=>cases i
 |goexit n=>cases i
def LY{main main':Bool}{base:dZ}(jump:Option Code)(p:∀c,jump=some c->C.mg c)(f:eD C ρ fr aP)(e:jn C ρ cs a_)(j:jo fr cs)(i:eI C S ρ w w')(L d:GStep)(k:fr.roundOf=none->L=(if sL jump=true then .go {frame:={fr with mode:=.returning},callers:=cs++b0,status:=.running,dying:=none} w else .ended (.stuck "exit, goto: no such block or label" (fr.pos C.P)) w))(r:∀l,fr.roundOf=some l->L=GStep.after (seen C.P fr.fn ((Instr.endRound l jump).events C.P w #[])) (match(Instr.endRound l jump).run C.P w with
  | .ok v w=>doReturn C.P main fr (cs++b0) none v w
  | .halt _ w=>.ended (.stuck "range over a function: no such loop" (fr.pos C.P)) w))(n:aP.roundOf=none->d=(if sL jump=true then .go {frame:={aP with mode:=.returning},callers:=a_++base,status:=.running,dying:=none} w' else .ended (.stuck "exit, goto: no such block or label" (aP.pos C.Q)) w'))(m:∀l,aP.roundOf=some l->d=GStep.after (seen C.Q aP.fn ((Instr.endRound l jump).events C.Q w' #[])) (match(Instr.endRound l jump).run C.Q w' with
  | .ok v w=>doReturn C.Q main' aP (a_++base) none v w
  | .halt _ w=>.ended (.stuck "range over a function: no such loop" (aP.pos C.Q)) w))(h:L=.go g1 w1 gN)(q:(i8 d).drawn<=S.bound):i9 C S ρ b0 base w' g1 w1 d:=by
 have b:=f.roundOf;cases h0:fr.roundOf with
 |none=>
  cases a:aP.roundOf with
  |some l=>rw[h0,a]at b;cases b
  |none=>
   rw[k h0]at h;rw[n a];split at h
   .rename_i g;rw[vbv g];cases h;exact sK (fr:=fr) e j i U U (f.uP .returning)
   grind
 |some l=>cases a:aP.roundOf with|none=>rw[h0,a]at b;cases b|some o=>grind[Ad,ajk]
theorem ajm(j:C.Good){main':Bool}{base:dZ}(z:eD C ρ fr aP)(p:jn C ρ cs a_)(F:jo fr cs)(E:eI C S ρ w w')(h:stepG.exec C.P true true fr (cs++b0) none w=.go g1 w1 gN)(hrun:g1.status=.running)(V:g1.dying=none)(g:(i8 (stepG.exec C.Q main' true aP (a_++base) none w')).drawn<=S.bound):
 i9 C S ρ b0 base w' g1 w1 (stepG.exec C.Q main' true aP (a_++base) none w'):=by
 have ht:=z.todo;have m8:=z.eval E.nD;have aZ:∀{t cN:fC},m7 C ρ t cN->i9 C S ρ b0 base w' (aY {fr with todo:=t} (cs++b0)) w (.go (aY {aP with todo:=cN} (a_++base)) w'):=λu=>sK (fr:=fr) p F E rfl rfl (z.xZ u);cases m:fr.todo with
 |nil=>
  cases q:aP.todo with
  |cons a l=>rw[m,q]at ht;cases ht
  |nil=>
   refine LY (main:=true) (main':=main') none (λc e=>Cn) z p F E (stepG.exec C.P true true fr (cs++b0) none w) _ ?_ ?_ ?_ ?_ h g
   .grind[stepG.exec,sL]
   .grind[stepG.exec,Sem.runT_eq]
   .grind[stepG.exec,sL]
   grind[stepG.exec,Sem.runT_eq]
 |cons i k=>
  cases q:aP.todo with
  |nil=>rw[m,q]at ht;cases ht
  |cons i' k'=>
   rw[m,q]at ht;cases ht with
   |cons hi hk=>
    cases hi with
    |@code c hok=>
     have A:=(j.oW c).1 hok;cases c with
     |skip=>unfold stepG.exec at h⊢;simp only[m]at h;simp only[q];cases h;exact aZ hk
     |label l=>unfold stepG.exec at h⊢;simp only[m]at h;simp only[q];cases h;exact aZ hk
     |seq a b=>simp only[j4,vaf]at A;unfold stepG.exec at h⊢;simp only[m]at h;simp only[q];cases h;exact aZ (.cons (.code ((j.oW _).2 A.1)) (.cons (.code ((j.oW _).2 A.2)) hk))
     |cond c a b=>
      simp only[j4,vaf]at A;unfold stepG.exec at h⊢;simp only[m]at h;simp only[q];have hv:=m8 c A.1.1;generalize fr.eval c=v at h hv;generalize aP.eval c=v' at hv;cases hv with
      |bool b=>
       cases h;refine aZ (.cons (.code ?_) hk);cases b
       .exact(j.oW _).2 A.2
       .exact(j.oW _).2 A.1.2
      | _=>cases h
     |block id b=>unfold stepG.exec at h⊢;simp only[m]at h;simp only[q];cases h;exact aZ (.cons (.code ((j.oW _).2 A)) (.cons (.inBlock id) hk))
     |loop b=>unfold stepG.exec at h⊢;simp only[m]at h;simp only[q];cases h;exact aZ (.cons (.code ((j.oW _).2 A)) (.cons (.inLoop ((j.oW _).2 A)) hk))
     |scope b=>unfold stepG.exec at h⊢;simp only[m]at h;simp only[q];cases h;exact aZ (.cons (.code ((j.oW _).2 A)) (.cons (.inScope ((j.oW _).2 A)) hk))
     |refuse s=>grind[stepG.exec]
     |ret=>
      refine LY (main:=true) (main':=main') (some .ret) (λc e=>AF) z p F E (stepG.exec C.P true true fr (cs++b0) none w) _ ?_ ?_ ?_ ?_ h g
      .grind[stepG.exec,sL]
      .grind[stepG.exec,Sem.runT_eq]
      .grind[stepG.exec,sL]
      grind[stepG.exec,Sem.runT_eq]
     |exit id=>
      have u:=ajd id hk;cases O:exitTo id k with
      |some t=>cases L:exitTo id k' with|none=>rw[O,L]at u;cases u|some cN=>rw[O,L]at u;cases u with|some u=>unfold stepG.exec at h⊢;simp only[m,O,ved]at h;simp only[q,L,ved];cases h;exact aZ u
      |none=>
       cases L:exitTo id k' with
       |some t=>rw[O,L]at u;cases u
       |none=>
        refine LY (main:=true) (main':=main') (some (.exit id)) (λc e=>AF) z p F E (stepG.exec C.P true true fr (cs++b0) none w) _ ?_ ?_ ?_ ?_ h g
        .grind[stepG.exec]
        .grind[stepG.exec,Sem.runT_eq]
        .grind[stepG.exec,sL]
        grind[stepG.exec,Sem.runT_eq]
     |goto id=>
      have u:=ajg j.oW id hk;cases O:gotoIn id k with
      |some t=>cases L:gotoIn id k' with|none=>rw[O,L]at u;cases u|some cN=>rw[O,L]at u;cases u with|some u=>unfold stepG.exec at h⊢;simp only[m,O,ved]at h;simp only[q,L,ved];cases h;exact aZ u
      |none=>
       cases L:gotoIn id k' with
       |some t=>rw[O,L]at u;cases u
       |none=>
        refine LY (main:=true) (main':=main') (some (.goto id)) (λc e=>AF) z p F E (stepG.exec C.P true true fr (cs++b0) none w) _ ?_ ?_ ?_ ?_ h g
        .grind[stepG.exec]
        .grind[stepG.exec,Sem.runT_eq]
        .grind[stepG.exec,sL]
        grind[stepG.exec,Sem.runT_eq]
     |region id ops draw=>
      simp only[j4,van]at A;unfold stepG.exec at h g⊢;simp only[m]at h;simp only[q]at g⊢;cases draw with
      |false=>simp only[Bool.not_false,vdg]at h⊢;cases h;exact aZ (.cons (.inRegion A _) hk)
      |true=>
       simp only[Bool.not_true,vai,vef]at h g⊢;have eq:(Question.order aP.fn id)=.order fr.fn id:=by rw[z.fn]
       rw[eq]at g⊢;rw[j.follows];have U:(lz ((Go.choose (.order fr.fn id)).run C.Q w')).drawn<=S.bound:=by cases J:(Go.choose (.order fr.fn id)).run C.Q w' with|ok v H=>rw[J]at g;exact g|halt x H=>rw[J]at g;exact g
       have Z:=aq.choose (C:=C) (ρ:=ρ) (.order fr.fn id) S w w' E (by unfold Go.choose;simp only[Sem.run,Question.forced];trivial) U;obtain⟨σ,tA,D,B,_⟩:=Z;generalize(Go.choose (.order fr.fn id)).run C.P w=r at D h;generalize(Go.choose (.order fr.fn id)).run C.Q w'=r' at D;cases D with|ok ht Q=>subst ht;cases h;refine⟨σ,_,cs,_,a_,_,_,rfl,rfl,?_,jn.mono B.le p,F.same rfl rfl,Q,B,Ab⟩;exact(z.mono B.le).xZ (.cons (.inRegion A _) (m7.mono B.le hk))|panic=>cases h|goexit=>cases h
     |rangeFunc f params assign body=>
      simp only[j4,vaf]at A;unfold stepG.exec at h g⊢;simp only[m,vau]at h;simp only[q,vau]at g⊢;obtain⟨ku,K⟩:=Af h;rw[Ad]at g;have QF:=Xj (C:=C) (ρ:=ρ) fr.fn z.known z.tmps params ((j.oW _).2 A.1.2) ((j.oW _).2 A.2) z.roundOf;have QG:Instr.enterLoop aP.fn aP.tmps params assign body aP.roundOf=Instr.enterLoop fr.fn aP.tmps params assign body aP.roundOf:=by rw[z.fn]
      rw[QG]at g⊢;have U:(lz ((Instr.enterLoop fr.fn aP.tmps params assign body aP.roundOf).run C.Q w')).drawn<=S.bound:=by cases J:(Instr.enterLoop fr.fn aP.tmps params assign body aP.roundOf).run C.Q w' with|ok v H=>rw[J]at g;exact vad (vad (BS C.Q _ H).1 (Fl C.Q _ _ none _ H)) g|halt x H=>rw[J]at g;exact g
      have lU:Good ((Instr.enterLoop fr.fn fr.tmps params assign body fr.roundOf).run C.P w):=by cases J:(Instr.enterLoop fr.fn fr.tmps params assign body fr.roundOf).run C.P w with|ok v H=>trivial|halt x H=>grind
      obtain⟨σ,tA,D,B,cr⟩:=QF S w w' E lU U;obtain⟨d,hd,W⟩:=cr #[];rw[vdf]at hd;rw[hd];refine i9.after B (λe m=>W e (xY m)) ?_;generalize(Instr.enterLoop fr.fn fr.tmps params assign body fr.roundOf).run C.P w=r at D K;generalize(Instr.enterLoop fr.fn aP.tmps params assign body aP.roundOf).run C.Q w'=r' at D g;cases D with
      |@ok a b z9 _ eK Q=>
       obtain⟨l,mark⟩:=a;obtain⟨N,Ig⟩:=b;obtain⟨P,tB⟩:=eK;have I:=z.mono B.le;have nI:eD C σ {fr with todo:=.inRangeFunc l::k,defers:=mark++fr.defers} {aP with todo:=.inRangeFunc N::k',defers:=Ig++aP.defers}:=
        ⟨I.fn,I.known,I.tmps,.cons (.inRangeFunc P) (m7.mono B.le hk),cL.append tB I.defers,I.mode,I.kind,I.plain,I.roundOf⟩
       have QH:=nI.eval Q.nD;refine QC j.funcs nI (jn.mono B.le p) (F.same rfl rfl) Q ?_ (.inl j.QD) (j.follows _) K hrun V g;refine .bind (R:=z8) ?_ λcv x y _ hd=>Ic j.same j.Fp j.funcs hd.target hd.args;have Y:=QH f A.1.1;simp only[resolve];revert Y;generalize Frame.eval _ f=v;generalize Frame.eval _ f=v';intro Y;unfold Deferred.ofValue;have hy:aM σ #[Value.func (.yield l) #[] #[]] #[Value.func (.yield N) #[] #[]]:=.one (.H0 (.yield P) (.nil σ) (.nil σ));have mi:aM σ ((#[Operand.const (.func (.yield l) #[] #[])]:uav).map (Frame.eval {fr with todo:=.inRangeFunc l::k,defers:=mark++fr.defers})) ((#[Operand.const (.func (.yield N) #[] #[])]:uav).map (Frame.eval {aP with todo:=.inRangeFunc N::k',defers:=Ig++aP.defers})):=by grind[Frame.eval]
       cases Y with|func ib h1 h3 h4 aQ=>exact .pure ⟨.fn ib ⟨h3,aQ⟩,aM.append ⟨h1,h4⟩ mi⟩|nilFunc=>exact .pure ⟨.nil,mi⟩| _=>exact .stuck
      |panic=>cases K
      |goexit=>cases K
    |inBlock id=>unfold stepG.exec at h⊢;simp only[m]at h;simp only[q];cases h;exact aZ hk
    |inScope g=>unfold stepG.exec at h⊢;simp only[m]at h;simp only[q];cases h;exact aZ hk
    |inLoop g=>unfold stepG.exec at h⊢;simp only[m]at h;simp only[q];cases h;exact aZ (.cons (.code g) (.cons (.inLoop g) hk))
    |@inRegion ops B6 todo=>
     cases todo with
     |nil=>unfold stepG.exec at h⊢;simp only[m]at h;simp only[q];cases h;exact aZ hk
     |cons n rest=>
      unfold stepG.exec at h g⊢;simp only[m]at h;simp only[q]at g⊢;rw[<-Xx z.tmps ops]at g⊢;split at h
      .rename_i Ih;rw[vbv Ih]at g⊢;have X:∃o,ops[n]?=some o:=by grind
       obtain⟨o,D⟩:=X;have B7:=B6 o (vbe D);have h1:fr.oper?=some o:=FQ;have j5:aP.oper?=some o:=FQ;have M:=z.roundOf;unfold stepG.oper at h g⊢;simp only[h1]at h;simp only[j5]at g⊢;have plain:stepG.apply C.P true fr (cs++b0) none (execOp fr.eval o) w=.go g1 w1 gN->(i8 (stepG.apply C.Q true aP (a_++base) none (execOp aP.eval o) w')).drawn<=S.bound->i9 C S ρ b0 base w' g1 w1 (stepG.apply C.Q true aP (a_++base) none (execOp aP.eval o) w'):=λu hy=>
        QC j.funcs z p F E (Xr j.same j.Fp j.funcs m8 B7) (.inl j.QD) (j.follows _) u hrun V hy
       cases h0:fr.roundOf with
       |none=>cases T:aP.roundOf with|some l=>rw[h0,T]at M;cases M|none=>grind
       |some l=>cases T:aP.roundOf with|none=>rw[h0,T]at M;cases M|some N=>rw[h0,T]at M;cases M with|some P=>cases hc:o.op with|defer c=>rw[hc]at B7;cases B7| _=>simp only[h0,hc]at h;simp only[T,hc]at g;exact plain h g
      .rename_i Ih;rw[vbp Ih];cases h;exact sK (fr:=fr) p F E (Ae _ _).1 (Ae _ _).2 (z.finish (.undef ρ))
    |inRangeFunc P=>grind[stepG.exec]
    |@endRangeFunc l N P=>
     unfold stepG.exec at h g⊢;simp only[m,vau]at h;simp only[q,vau]at g⊢;obtain⟨ku,K⟩:=Af h;rw[Ad]at g;have U:(lz ((Instr.endLoop N).run C.Q w')).drawn<=S.bound:=by cases J:(Instr.endLoop N).run C.Q w' with|ok v H=>rw[J]at g;exact g|halt x H=>rw[J]at g;cases x<;>exact g
     have lU:Good ((Instr.endLoop l).run C.P w):=by cases J:(Instr.endLoop l).run C.P w with|ok v H=>trivial|halt x H=>rw[J]at K;cases x with|panic v=>trivial| _=>cases K
     obtain⟨σ,tA,D,B,cr⟩:=aiQ P j.same S w w' E lU U;obtain⟨d,hd,W⟩:=cr #[];rw[vdf]at hd;rw[hd];refine i9.after B (λe m=>W e (xY m)) ?_;generalize(Instr.endLoop l).run C.P w=r at D K;generalize(Instr.endLoop N).run C.Q w'=r' at D;have I:=z.mono B.le;have qD:=jn.mono B.le p;cases D with
     |@ok a b z9 _ eK Q=>obtain⟨e,hj⟩:=eK;subst e;cases K;refine sK (fr:=fr) qD F Q rfl rfl (I.xZ (cL.append ?_ (m7.mono B.le hk)));cases a with|none=>exact .nil|some c=>exact .cons (.code (hj c rfl)) .nil
     |panic hv Q=>cases K;exact sK (fr:=fr) qD F Q (tx _ _).1 (tx _ _).2 (I.raise (.cons ⟨hv,rfl,rfl⟩ .nil))
     |goexit=>cases K
    |beginRound=>unfold stepG.exec at h g⊢;simp only[m]at h;simp only[q]at g⊢;refine QC j.funcs z p F E (.bind (R:=λ_(_ _:Unit)=>True) ?_ λ_ _ _ _ _=>.pure .skip) (.inl j.QD) (j.follows _) h hrun V g;have M:=z.roundOf;generalize fr.roundOf=a at M;generalize aP.roundOf=b at M;cases M with|none=>exact .stuck|some P=>exact Xk P j.same
end
variable{g:uai}{es:uaq}{cN t:df}{a b:GStep}
section
section
variable{C:cM}{S:Sync}{ρ:Ren}
def ajn(c:C.cn):∀(l:List ResultVar)(ρ:Ren),aM ρ t cN->aq C ρ (λσ a b=>cL (ar σ) a b)
 (l.mapM λ| .tmp x=>pure (t.getD x undef)| .cell a ty=>do Go.loadVar ty (<-Go.asAddr (t.getD a undef))) (l.mapM λ| .tmp x=>pure (cN.getD x undef)| .cell a ty=>do Go.loadVar ty (<-Go.asAddr (cN.getD a undef))):=by
 intro l;induction l with|nil=>intro ρ _;simp only[List.mapM_nil];exact .pure .nil|cons r l d=>intro ρ h;simp only[List.mapM_cons];refine .bind (R:=ar) ?_ λσ v g l1 hv=>.bind (d σ (h.mono l1)) λj a b l2 f=>.pure (.cons (hv.mono l2) f);cases r with|tmp x=>exact .pure (h.getD (.undef ρ) x)|cell a ty=>exact .bind (aq.asAddr c (h.getD (.undef ρ) a)) λσ p i _ e=>aq.loadVar c ty e
def ajo(g:C.cn)(fn:Func)(h:aM ρ t cN):aq C ρ ar (results fn t) (results fn cN):=by
 unfold results;refine .bind (R:=aM) ?_ λσ a b _ c=>.pure ?_
 .rw[vcm,vcm];exact .bind (f:=λl=>Pure.pure l.toArray) (f':=λl=>Pure.pure l.toArray) (ajn g fn.results.toList ρ h) λσ a b _ c=>.pure (aM.LD c)
 .by_cases d:a.size=1
  .have e:b.size=1:=c.size▸d;rw[dif_pos d,dif_pos e];exact c.get 0 _ _ AF AF
  .have e:¬b.size=1:=c.size▸d;rw[dif_neg d,dif_neg e];exact .E9 c
def ajp{c:Prop}[Decidable c](h:(if c then a else b)=.go g w es)(d:∀g w es,a≠ .go g w es):¬c/\b=.go g w es:=by grind
def i9.ite{c:Prop}[Decidable c]{base:dZ}(hn:¬c)(h:i9 C S ρ b0 base w' g1 w1 b):i9 C S ρ b0 base w' g1 w1 (if c then a else b):=by grind
def ajq(p:C.Good){base:dZ}{d i:Deferred}(D:eD C ρ fr aP)(s:jn C ρ cs a_)(o:jo fr cs)(L:eI C S ρ w w')(hd:z8 ρ d i)(h:callDeferred C.P fr (cs++b0) none d w=.go g1 w1 gN)(hrun:g1.status=.running)(H:g1.dying=none)(n:(i8 (callDeferred C.Q aP (a_++base) none i w')).drawn<=S.bound):i9 C S ρ b0 base w' g1 w1 (callDeferred C.Q aP (a_++base) none i w'):=by
 have T:∀{t cN:Target}{m A:FrameMode},uM ρ t cN->uO ρ m A->((t matches .nil)&&(m matches .panicking _))=((cN matches .nil)&&(A matches .panicking _)):=λht O=>by cases ht<;>cases O<;>rfl
 have E:=T hd.target D.mode;have z:=Xu C.Q aP (a_++base) none i w';unfold callDeferred at h⊢;simp only[vau]at h⊢;obtain⟨B,h⟩:=ajp h (λ_ _ _=>Ab);refine i9.ite (λb=>B (Eq.trans E b)) ?_;have z:=vad (z.resolve_left λb=>B (Eq.trans E b)) n;obtain⟨W,a⟩:=Af h;clear h;have lU:Good ((invoke d.target d.args).run C.P w):=by cases M:(invoke d.target d.args).run C.P w with|ok V I=>trivial|halt x I=>rw[M]at a;cases x with|panic v=>trivial|goexit=>trivial|blocked=>grind|waiting=>grind|unsupported u=>cases a|exit c=>cases a|fatal m=>grind[Xv]|throw m=>exact absurd H (QB a)|stuck m=>cases a
 obtain⟨σ,J,q,f,R⟩:=Ic p.same p.Fp p.funcs hd.target hd.args S w w' L lU z;obtain⟨dd,l,K⟩:=R #[];rw[vdf]at l;rw[l];have k:=D.mono f.le;have j:=jn.mono f.le s;generalize(invoke d.target d.args).run C.P w=r at q a;generalize(invoke i.target i.args).run C.Q w'=r' at q;have evs:∀e∈seen C.Q aP.fn dd,wu σ e:=λe Q=>K e (xY Q);cases q with
 |@ok _ _ F _ hn g=>have keep:i9 C S ρ b0 base w' (aY fr (cs++b0)) F (GStep.after (seen C.Q aP.fn dd) (.go (aY aP (a_++base)) J)):=i9.after f evs (sK j o g rfl rfl k);cases hn with|value hv=>cases a;exact keep|skip=>cases a;exact keep|enter y N n=>cases a;refine i9.after f evs ?_;exact⟨σ,_,fr::cs,_,aP::a_,_,_,rfl,rfl,.enter p.funcs y N n Kj,.cons k j,o.push,g,.refl _ _,Ab⟩|round P U ht y n=>cases a;refine i9.after f evs ?_;exact⟨σ,_,fr::cs,_,aP::a_,_,_,rfl,rfl,.round P U ht y n Kj,.cons k j,o.push,g,.refl _ _,Ab⟩
 |panic hv g=>cases a;exact i9.after f evs (sK (fr:=fr) j o g (tx _ _).1 (tx _ _).2 (k.raise (.cons ⟨hv,rfl,rfl⟩ .nil)))
 |goexit g=>cases a;exact i9.after f evs (sK (fr:=fr) j o g (tx _ _).1 (tx _ _).2 (k.raise (.cons ⟨.undef σ,rfl,rfl⟩ .nil)))
def Fs(fr:Frame)(cs:dZ):Prop:=cs=[]/\fr.defers=[]/\(fr.mode=.returning\/∃l,fr.mode=.panicking l)
theorem XA(H:C.Good){main':Bool}{base:dZ}(k:eD C ρ fr aP)(u:jn C ρ cs a_)(D:jo fr cs)(B:eI C S ρ w w')(ajr:fr.mode≠ .run)(Y:¬Fs fr cs)(h:unwind C.P true fr (cs++b0) none w=.go g1 w1 gN)(hrun:g1.status=.running)(T:g1.dying=none)(b:(i8 (unwind C.Q main' aP (a_++base) none w')).drawn<=S.bound):i9 C S ρ b0 base w' g1 w1 (unwind C.Q main' aP (a_++base) none w'):=by
 have n:=k.defers;cases hd:fr.defers with
 |cons d ds=>
  cases A:aP.defers with
  |nil=>rw[hd,A]at n;cases n
  |cons K R=>
   rw[hd,A]at n;cases n with
   |cons p y=>
    have plain:(∀r,d.target≠ .collected r)->i9 C S ρ b0 base w' g1 w1 (unwind C.Q main' aP (a_++base) none w'):=by
     intro hn;have pJ:∀r,K.target≠ .collected r:=by intro r e;have:=p.target;rw[e]at this;generalize hq:d.target=q at this;cases this;grind
     have e1:unwind C.P true fr (cs++b0) none w=callDeferred C.P {fr with defers:=ds} (cs++b0) none d w:=by unfold unwind;grind
     have e2:unwind C.Q main' aP (a_++base) none w'=callDeferred C.Q {aP with defers:=R} (a_++base) none K w':=by unfold unwind;grind
     rw[e1]at h;rw[e2]at b⊢;exact ajq H (k.B4 y) u (D.same rfl rfl) B p h hrun T b
    obtain⟨t,a⟩:=d;obtain⟨cN,a'⟩:=K;cases t with
    |collected r=>
     have N:=p.target;cases N with
     |collected M=>
      rename_i r';unfold unwind at h b⊢;simp only[hd,vau]at h;simp only[A,vau]at b⊢;obtain⟨V,j⟩:=Af h;rw[Ad]at b;have I:(lz ((Instr.takeDeferred r').run C.Q w')).drawn<=S.bound:=by cases hq:(Instr.takeDeferred r').run C.Q w' with|ok v m=>rw[hq]at b;exact b|halt x m=>rw[hq]at b;exact b
      have lU:Good ((Instr.takeDeferred r).run C.P w):=by cases hq:(Instr.takeDeferred r).run C.P w with|ok v m=>trivial|halt x m=>grind
      obtain⟨σ,U,s,i,L⟩:=aiR M S w w' B lU I;obtain⟨dd,g,E⟩:=L #[];rw[vdf]at g;rw[g];refine i9.after i (λe F=>E e (xY F)) ?_;generalize(Instr.takeDeferred r).run C.P w=q at s j;generalize(Instr.takeDeferred _).run C.Q w'=q' at s;cases s with|ok hv J=>cases j;exact sK (fr:=fr) (jn.mono i.le u) D J rfl rfl ((k.mono i.le).B4 (cL.append hv (rG.mono i.le y)))|panic=>cases j|goexit=>cases j
    | _=>grind
 |nil=>
  have A:aP.defers=[]:=by rw[hd]at n;generalize aP.defers=q at n;cases n;rfl
  have f:=k.mode;obtain⟨fn,c,O,Q⟩:=k.known;obtain⟨hq,_,_⟩:=H.funcs.body _ _ _ O Q;rw[k.fn]at hq;cases u with
  |nil=>exfalso;apply Y;refine⟨rfl,hd,?_⟩;cases z:fr.mode with|run=>grind|returning=>grind|panicking l=>grind
  |@cons c_ L0 cs a_ P y=>
   unfold unwind at h b⊢;simp only[hd]at h;simp only[A]at b⊢;cases z:fr.mode with
   |run=>grind
   |returning=>
    rw[z]at f;cases o:aP.mode with
    |run=>rw[o]at f;cases f
    |panicking l=>rw[o]at f;cases f
    |returning=>
     simp only[z,O,vau]at h;simp only[o,hq,vau]at b⊢;obtain⟨V,j⟩:=Af h;rw[Ad]at b;have I:(lz ((results fn aP.tmps).run C.Q w')).drawn<=S.bound:=by cases p:(results fn aP.tmps).run C.Q w' with|ok v m=>rw[p]at b;simp only[Xs]at b;exact b|halt x m=>rw[p]at b;cases x<;>exact b
     have lU:Good ((results fn fr.tmps).run C.P w):=by cases p:(results fn fr.tmps).run C.P w with|ok v m=>trivial|halt x m=>grind
     obtain⟨σ,U,s,i,L⟩:=ajo H.same fn k.tmps S w w' B lU I;obtain⟨dd,g,E⟩:=L #[];rw[vdf]at g;rw[g];refine i9.after i (λe F=>E e (xY F)) ?_;generalize(results fn fr.tmps).run C.P w=q at s j;generalize(results fn aP.tmps).run C.Q w'=q' at s;cases s with|ok hv J=>exact Xy (k.mono i.le) (P.mono i.le) (jn.mono i.le y) D.QA J hv j|panic=>cases j|goexit=>cases j
   |panicking l=>
    rw[z]at f;cases o:aP.mode with
    |run=>rw[o]at f;cases f
    |returning=>rw[o]at f;cases f
    |panicking l'=>
     rw[o]at f;cases f with
     |panicking Z=>
      have X:fr.catches C.P=false:=AF;have W:aP.catches C.Q=false:=by grind[Frame.catches]
      simp only[z,X]at h;simp only[W];cases h;exact sK (fr:=c_) y D.QA B (tx _ _).1 (tx _ _).2 (P.raise Z)
theorem aju(m:C.Good){main':Bool}{base:dZ}(e:eD C ρ fr aP)(d:jn C ρ cs a_)(n:jo fr cs)(j:eI C S ρ w w')(i:¬Fs fr cs)(h:stepG C.P true (aY fr (cs++b0)) w=.go g1 w1 gN)(hrun:g1.status=.running)(f:g1.dying=none)(k:(i8 (stepG C.Q main' (aY aP (a_++base)) w')).drawn<=S.bound):i9 C S ρ b0 base w' g1 w1 (stepG C.Q main' (aY aP (a_++base)) w'):=by
 have a:=e.mode;cases c:fr.mode with
 |run=>rw[c]at a;cases b:aP.mode with|run=>grind[stepG,aY,ajm]| _=>rw[b]at a;cases a
 |returning=>rw[c]at a;cases b:aP.mode with|returning=>grind[stepG,aY,XA]| _=>rw[b]at a;cases a
 |panicking l=>rw[c]at a;cases b:aP.mode with|panicking g=>grind[stepG,aY,XA]| _=>rw[b]at a;cases a
end
end
def Ii(g:uai):Prop:=(g.dying=none/\(g.status=.blocked\/g.status=.waiting))\/∃d f,g.dying=some d/\d.fatal=some f/\d.calling=false/\(g.status=.running\/g.status=.blocked)
def Kind:GStep->Prop
 | .go g _ _=>(g.status=.running/\g.dying=none)\/Ii g
 | .ended .. =>True
 | _=>False
variable{s:GStep}
theorem Kind.after(h:Kind s):Kind (GStep.after es s):=by cases s<;>exact h
def Kind.ite{c:Prop}[Decidable c](e:Kind a)(d:Kind b):Kind (if c then a else b):=by grind
def Kind.pos{c:Prop}[Decidable c](h:c)(d:Kind a):Kind (if c then a else b):=by grind
def QI{ps:List ByteArray}{m:String}{b:Bool}:Kind (dieOf fr ps m b w):=.inr (.inr ⟨_,_,U,U,U,.inl U⟩)
def XB{P:cf}{d:Option Dying}{m:String}:Kind (endFatal P fr cs d m w):=by
 unfold endFatal;simp only[];split
 .exact QI
 .trivial
 .trivial
def QJ:Result Next->Prop
 | .ok (.value _) _ | .ok .skip _ | .ok (.enter ..) _ | .ok (.round ..) _=>True
 | .ok _ _=>False
 | .halt (.unsupported (.initOrder _)) _=>False
 | .halt _ _=>True
section
variable{C:cM}{S:Sync}{ρ:Ren}
def L1{s s':Sem Next}(hs:aq C ρ (pI C) s s')(c:eI C S ρ w w')(d:(lz (s'.run C.Q w')).drawn<=S.bound):QJ (s.run C.P w):=by
 by_cases hg:Good (s.run C.P w)
 .obtain⟨σ,w1,a,_,_⟩:=hs S w w' c hg d;generalize s.run C.P w=r at a;generalize s'.run C.Q w'=r' at a;cases a with|ok h _=>cases h<;>trivial|panic=>trivial|goexit=>trivial
 .cases b:s.run C.P w with
  |ok v w1=>rw[b]at hg;exact absurd trivial hg
  |halt x w1=>
   rw[b]at hg;cases x with
   |unsupported u=>cases u<;>first|trivial|exact absurd trivial hg
   | _=>trivial
def QK{P:cf}{s:Sem Next}(h:QJ (s.run P w)):Kind (stepG.apply P true fr cs none s w):=by
 unfold stepG.apply;simp only[vau,vdg];refine Kind.after ?_;cases d:s.run P w with
 |ok e w1=>rw[d]at h;cases e with|value v=>exact .inl ⟨U,U⟩|skip=>exact .inl ⟨U,U⟩|enter f a=>exact .inl ⟨U,U⟩|round l f t a b=>exact .inl ⟨U,U⟩| _=>exact absurd h id
 |halt x w1=>
  rw[d]at h;cases x with
  |panic v=>exact .inl ⟨U,U⟩
  |goexit=>exact .inl ⟨U,U⟩
  |blocked=>exact .inr (.inl ⟨U,.inl U⟩)
  |waiting=>exact .inr (.inl ⟨U,.inr U⟩)
  |unsupported u=>cases u<;>first|trivial|exact absurd h id
  |exit c=>trivial
  |fatal m=>exact XB
  |throw m=>exact QI
  |stuck m=>trivial
def ajv{P:cf}{d:Deferred}(h:QJ ((invoke d.target d.args).run P w)):Kind (callDeferred P fr cs none d w):=by
 unfold callDeferred;refine Kind.ite trivial ?_;simp only[vau];refine Kind.after ?_;cases e:(invoke d.target d.args).run P w with
 |ok g w1=>rw[e]at h;cases g with|value v=>exact .inl ⟨U,U⟩|skip=>exact .inl ⟨U,U⟩|enter f a=>exact .inl ⟨U,U⟩|round l f t a b=>exact .inl ⟨U,U⟩| _=>exact absurd h id
 |halt x w1=>rw[e]at h;cases x with|panic v=>exact .inl ⟨U,U⟩|goexit=>exact .inl ⟨U,U⟩|blocked=>exact .inr (.inl ⟨U,.inl U⟩)|waiting=>exact .inr (.inl ⟨U,.inr U⟩)|unsupported u=>trivial|exit c=>trivial|fatal m=>exact XB|throw m=>exact QI|stuck m=>trivial
def XC{P:cf}{main:Bool}{c:Frame}{v:Value}:Kind (doReturn P main fr (c::cs) none v w):=by unfold doReturn;simp only[];split<;>exact .inl ⟨U,U⟩
theorem ajw{P:cf}{main:Bool}{r:Result Value}(a:jo fr cs){l:Nat}(b:fr.roundOf=some l):
 Kind (GStep.after es (match r with| .ok v w=>doReturn P main fr (cs++b0) none v w| .halt _ w=>.ended (.stuck "range over a function: no such loop" (fr.pos P)) w)):=by
 refine Kind.after ?_;cases r with|halt x w=>trivial|ok v w=>cases cs with|nil=>have:=a.2;grind|cons c cs=>exact XC
def L3{P:cf}{main:Bool}(jump:Option Code)(b:jo fr cs)(L:GStep)(a:fr.roundOf=none->L=(if sL jump=true then .go {frame:={fr with mode:=.returning},callers:=cs++b0,status:=.running,dying:=none} w else .ended (.stuck "exit, goto: no such block or label" (fr.pos P)) w))(c:∀l,fr.roundOf=some l->L=GStep.after (seen P fr.fn ((Instr.endRound l jump).events P w #[])) (match(Instr.endRound l jump).run P w with
  | .ok v w=>doReturn P main fr (cs++b0) none v w
  | .halt _ w=>.ended (.stuck "range over a function: no such loop" (fr.pos P)) w)):Kind L:=by
 cases h0:fr.roundOf with
 |none=>
  rw[a h0];split
  .exact .inl ⟨U,U⟩
  .trivial
 |some l=>grind[ajw]
theorem XD(i:C.Good){main':Bool}{base:dZ}(j:eD C ρ fr aP)(h:jn C ρ cs a_)(A:eI C S ρ w w')(J:fr.mode≠ .run)(z:¬Fs fr cs)(p:(i8 (unwind C.Q main' aP (a_++base) none w')).drawn<=S.bound):Kind (unwind C.P true fr (cs++b0) none w):=by
 have b:=j.defers;cases hd:fr.defers with
 |cons d ds=>
  cases s:aP.defers with
  |nil=>rw[hd,s]at b;cases b
  |cons g k=>
   rw[hd,s]at b;cases b with
   |cons f B=>
    have plain:(∀r,d.target≠ .collected r)->Kind (unwind C.P true fr (cs++b0) none w):=by
     intro hn;have M:∀r,g.target≠ .collected r:=by intro r e;have:=f.target;rw[e]at this;generalize hq:d.target=q at this;cases this;grind
     have I:unwind C.P true fr (cs++b0) none w=callDeferred C.P {fr with defers:=ds} (cs++b0) none d w:=by unfold unwind;grind
     have H:unwind C.Q main' aP (a_++base) none w'=callDeferred C.Q {aP with defers:=k} (a_++base) none g w':=by unfold unwind;grind
     rw[I];rw[H]at p;rcases Xu C.Q {aP with defers:=k} (a_++base) none g w' with o|F
     .have K:∀{t cN:Target}{m n:FrameMode},uM ρ t cN->uO ρ m n->((t matches .nil)&&(m matches .panicking _))=((cN matches .nil)&&(n matches .panicking _)):=λht D=>by cases ht<;>cases D<;>rfl
      have u:=Eq.trans (K f.target j.mode) o;unfold callDeferred;exact Kind.pos u trivial
     .exact ajv (L1 (Ic i.same i.Fp i.funcs f.target f.args) A (vad F p))
    obtain⟨t,a⟩:=d;obtain⟨cN,a'⟩:=g;cases t with
    |collected r=>unfold unwind;simp only[hd,vau];refine Kind.after ?_;cases(Instr.takeDeferred r).run C.P w with|ok v w1=>exact .inl ⟨U,U⟩|halt x w1=>trivial
    | _=>grind
 |nil=>
  obtain⟨fn,c,y,L⟩:=j.known;cases h with
  |nil=>exfalso;apply z;refine⟨U,hd,?_⟩;cases E:fr.mode with|run=>grind|returning=>grind|panicking l=>grind
  |@cons c_ N cs a_ o B=>
   unfold unwind;simp only[hd];cases E:fr.mode with
   |run=>grind
   |returning=>simp only[y,vau];refine Kind.after ?_;cases(results fn fr.tmps).run C.P w with|ok v w1=>exact XC|halt x w1=>cases x<;>trivial
   |panicking l=>
    simp only[];split
    .trivial
    .exact .inl ⟨U,U⟩
theorem ajx(h:C.Good){main':Bool}{base:dZ}(j:eD C ρ fr aP)(H:jo fr cs)(E:eI C S ρ w w')(d:(i8 (stepG.exec C.Q main' true aP (a_++base) none w')).drawn<=S.bound):Kind (stepG.exec C.P true true fr (cs++b0) none w):=by
 have ht:=j.todo;have Y:=j.eval E.nD;cases e:fr.todo with
 |nil=>
  refine L3 (main:=true) (P:=C.P) (w:=w) (b0:=b0) none H (stepG.exec C.P true true fr (cs++b0) none w) ?_ ?_
  .grind[stepG.exec,sL]
  grind[stepG.exec,Sem.runT_eq]
 |cons i k=>
  cases B:aP.todo with
  |nil=>rw[e,B]at ht;cases ht
  |cons i' k'=>
   rw[e,B]at ht;cases ht with
   |cons hi hk=>
    cases hi with
    |@code c hok=>
     have D:=(h.oW c).1 hok;cases c with
     |skip=>unfold stepG.exec;simp only[e];exact .inl ⟨rfl,rfl⟩
     |label l=>unfold stepG.exec;simp only[e];exact .inl ⟨rfl,rfl⟩
     |seq a b=>unfold stepG.exec;simp only[e];exact .inl ⟨rfl,rfl⟩
     |cond c a b=>unfold stepG.exec;simp only[e];cases fr.eval c with|bool b=>exact .inl ⟨rfl,rfl⟩| _=>trivial
     |block id b=>unfold stepG.exec;simp only[e];exact .inl ⟨rfl,rfl⟩
     |loop b=>unfold stepG.exec;simp only[e];exact .inl ⟨rfl,rfl⟩
     |scope b=>unfold stepG.exec;simp only[e];exact .inl ⟨rfl,rfl⟩
     |refuse s=>unfold stepG.exec;simp only[e];trivial
     |ret=>
      refine L3 (main:=true) (P:=C.P) (w:=w) (b0:=b0) (some .ret) H (stepG.exec C.P true true fr (cs++b0) none w) ?_ ?_
      .grind[stepG.exec,sL]
      grind[stepG.exec,Sem.runT_eq]
     |exit id=>
      cases L:exitTo id k with
      |some t=>unfold stepG.exec;simp only[e,L,ved];exact .inl ⟨rfl,rfl⟩
      |none=>
       refine L3 (main:=true) (P:=C.P) (w:=w) (b0:=b0) (some (.exit id)) H (stepG.exec C.P true true fr (cs++b0) none w) ?_ ?_
       .grind[stepG.exec,sL]
       grind[stepG.exec,Sem.runT_eq]
     |goto id=>
      cases L:gotoIn id k with
      |some t=>unfold stepG.exec;simp only[e,L,ved];exact .inl ⟨rfl,rfl⟩
      |none=>
       refine L3 (main:=true) (P:=C.P) (w:=w) (b0:=b0) (some (.goto id)) H (stepG.exec C.P true true fr (cs++b0) none w) ?_ ?_
       .grind[stepG.exec,sL]
       grind[stepG.exec,Sem.runT_eq]
     |region id ops draw=>unfold stepG.exec;simp only[e];cases draw with|false=>exact .inl ⟨rfl,rfl⟩|true=>simp only[Bool.not_true,vai,vef];cases(Go.choose (.order fr.fn id)).run C.P w with|ok v w1=>exact .inl ⟨rfl,rfl⟩|halt x w1=>trivial
     |rangeFunc f params assign body=>
      simp only[j4,vaf]at D;unfold stepG.exec at d⊢;simp only[e,vau];simp only[B,vau]at d;refine Kind.after ?_;rw[Ad]at d;have QF:=Xj (C:=C) (ρ:=ρ) fr.fn j.known j.tmps params ((h.oW _).2 D.1.2) ((h.oW _).2 D.2) j.roundOf;have QG:Instr.enterLoop aP.fn aP.tmps params assign body aP.roundOf=Instr.enterLoop fr.fn aP.tmps params assign body aP.roundOf:=by rw[j.fn]
      rw[QG]at d;have gw:(lz ((Instr.enterLoop fr.fn aP.tmps params assign body aP.roundOf).run C.Q w')).drawn<=S.bound:=by cases F:(Instr.enterLoop fr.fn aP.tmps params assign body aP.roundOf).run C.Q w' with|ok v u=>rw[F]at d;exact vad (vad (BS C.Q _ u).1 (Fl C.Q _ _ none _ u)) d|halt x u=>rw[F]at d;exact d
      by_cases lU:Good ((Instr.enterLoop fr.fn fr.tmps params assign body fr.roundOf).run C.P w)
      .obtain⟨σ,tA,A,T,cr⟩:=QF S w w' E lU gw;generalize(Instr.enterLoop fr.fn fr.tmps params assign body fr.roundOf).run C.P w=r at A;generalize(Instr.enterLoop fr.fn aP.tmps params assign body aP.roundOf).run C.Q w'=r' at A d;cases A with
       |@ok a b z9 _ eK U=>
        obtain⟨l,mark⟩:=a;obtain⟨q,V⟩:=b;obtain⟨p,W⟩:=eK;have m:=j.mono T.le;have X:eD C σ {fr with todo:=.inRangeFunc l::k,defers:=mark++fr.defers} {aP with todo:=.inRangeFunc q::k',defers:=V++aP.defers}:=
         ⟨m.fn,m.known,m.tmps,.cons (.inRangeFunc p) (m7.mono T.le hk),cL.append W m.defers,m.mode,m.kind,m.plain,m.roundOf⟩
        have QH:=X.eval U.nD;refine QK (L1 ?_ U (vad (Fl C.Q _ _ none _ _) d));refine .bind (R:=z8) ?_ λcv x y _ hd=>Ic h.same h.Fp h.funcs hd.target hd.args;have J:=QH f D.1.1;simp only[resolve];revert J;generalize Frame.eval _ f=v;generalize Frame.eval _ f=v';intro J;unfold Deferred.ofValue;have O:aM σ #[Value.func (.yield l) #[] #[]] #[Value.func (.yield q) #[] #[]]:=.one (.H0 (.yield p) (.nil σ) (.nil σ));have N:aM σ ((#[Operand.const (.func (.yield l) #[] #[])]:uav).map (Frame.eval {fr with todo:=.inRangeFunc l::k,defers:=mark++fr.defers})) ((#[Operand.const (.func (.yield q) #[] #[])]:uav).map (Frame.eval {aP with todo:=.inRangeFunc q::k',defers:=V++aP.defers})):=by grind[Frame.eval]
        cases J with|func ib K h3 h4 aQ=>exact .pure ⟨.fn ib ⟨h3,aQ⟩,aM.append ⟨K,h4⟩ N⟩|nilFunc=>exact .pure ⟨.nil,N⟩| _=>exact .stuck
       |panic=>trivial
       |goexit=>trivial
      .cases F:(Instr.enterLoop fr.fn fr.tmps params assign body fr.roundOf).run C.P w with|ok v u=>rw[F]at lU;exact absurd trivial lU|halt x u=>trivial
    |inBlock id=>unfold stepG.exec;simp only[e];exact .inl ⟨rfl,rfl⟩
    |inScope d=>unfold stepG.exec;simp only[e];exact .inl ⟨rfl,rfl⟩
    |inLoop d=>unfold stepG.exec;simp only[e];exact .inl ⟨rfl,rfl⟩
    |@inRegion ops B6 todo=>
     cases todo with
     |nil=>unfold stepG.exec;simp only[e];exact .inl ⟨rfl,rfl⟩
     |cons n rest=>
      unfold stepG.exec at d⊢;simp only[e];simp only[B]at d;rw[<-Xx j.tmps ops]at d;split
      .rename_i Ih;rw[vbv Ih]at d;have I:∃o,ops[n]?=some o:=by grind
       obtain⟨o,A⟩:=I;have M:=B6 o (vbe A);have K:fr.oper?=some o:=FQ;have Z:aP.oper?=some o:=FQ;have g:=j.roundOf;unfold stepG.oper at d⊢;simp only[K];simp only[Z]at d;have plain:(i8 (stepG.apply C.Q true aP (a_++base) none (execOp aP.eval o) w')).drawn<=S.bound->Kind (stepG.apply C.P true fr (cs++b0) none (execOp fr.eval o) w):=λO=>
        QK (L1 (Xr h.same h.Fp h.funcs Y M) E (vad (Fl C.Q _ _ none _ _) O))
       cases h0:fr.roundOf with
       |none=>cases z:aP.roundOf with|some l=>rw[h0,z]at g;cases g|none=>grind
       |some l=>cases z:aP.roundOf with|none=>rw[h0,z]at g;cases g|some q=>rw[h0,z]at g;cases g with|some p=>cases Q:o.op with|defer c=>rw[Q]at M;cases M| _=>simp only[z,Q]at d;exact plain d
      .exact .inl ⟨rfl,rfl⟩
    |inRangeFunc p=>unfold stepG.exec;simp only[e];trivial
    |@endRangeFunc l q p=>unfold stepG.exec;simp only[e,vau];refine Kind.after ?_;cases(Instr.endLoop l).run C.P w with|ok v w1=>exact .inl ⟨rfl,rfl⟩|halt x w1=>cases x with|panic v=>exact .inl ⟨rfl,rfl⟩| _=>trivial
    |beginRound=>unfold stepG.exec at d⊢;simp only[e];simp only[B]at d;refine QK (L1 (.bind (R:=λ_(_ _:Unit)=>True) ?_ λ_ _ _ _ _=>.pure .skip) E (vad (Fl C.Q _ _ none _ _) d));have g:=j.roundOf;generalize fr.roundOf=a at g;generalize aP.roundOf=b at g;cases g with|none=>exact .stuck|some p=>exact Xk p h.same
def ajy(j:C.Good){main':Bool}{base:dZ}(e:eD C ρ fr aP)(d:jn C ρ cs a_)(k:jo fr cs)(h:eI C S ρ w w')(g:¬Fs fr cs)(i:(i8 (stepG C.Q main' (aY aP (a_++base)) w')).drawn<=S.bound):Kind (stepG C.P true (aY fr (cs++b0)) w):=by
 have a:=e.mode;cases c:fr.mode with
 |run=>rw[c]at a;cases b:aP.mode with|run=>grind[stepG,aY,ajx]| _=>rw[b]at a;cases a
 |returning=>rw[c]at a;cases b:aP.mode with|returning=>grind[stepG,aY,XD]| _=>rw[b]at a;cases a
 |panicking l=>rw[c]at a;cases b:aP.mode with|panicking f=>grind[stepG,aY,XD]| _=>rw[b]at a;cases a
end
def lV(g:uai)(w:aL):Machine:={world:=w,gs:=#[g],rest:={timers:=#[],alone:=none,slice:=none}}
theorem ajz(fr:Frame)(cs:dZ)(w:aL):lone fr cs w=lV (aY fr cs) w:=rfl
def ajA{P:cf}(hs:g.status=.running):move P (lV g w)=.goroutine (lV g w) 0:=by simp[move,ask,askOn,lV,runnable_eq,due,ahead,Goroutine.canRun,vcq,choose,pure,Sem.run,Question.forced,hs]
def B8{P:cf}(a:g.status=.running)(h:stepG P true g w=s):
 (∀g1 w1 es,s=.go g1 w1 es->step P (lV g w)=.next (lV g1 w1))/\(∀o w1 es,s=.ended o w1 es->step P (lV g w)=.ended o w1):=by
 rw[step,stepT,ajA a];grind[runT,lV]
def XE{P:cf}{m1:Machine}(hs:g.status=.blocked\/g.status=.waiting)(h:step P (lV g w)=.next m1):m1=lV g w:=by
 rcases hs with hs|hs
 .exfalso;have dN:∀x:GStep,∃o w1,(match(motive:=GStep->Move) x with| .ended o w _=>Move.machine (.ended o w)| _=>.machine (.ended (.stuck "" "") default))=.machine (.ended o w1):=λx=>by cases x<;>exact⟨_,_,U⟩
  have:∃o w1,move P (lV g w)=.machine (.ended o w1):=by simp only[move,ask,askOn,lV,runnable_eq,due,ahead];simp[Goroutine.canRun,vcq,hs,pure];exact dN _
  grind[step,stepT]
 .have:move P (lV g w)=.machine (.next (lV g w)):=by simp[move,ask,askOn,lV,runnable_eq,due,ahead,Goroutine.canRun,vcq,hs,pure]
  grind[step,stepT]
def ajB{P:cf}{d:Dying}{f:Fatal}(a:d.calling=false):(∃o w1 es,writeOn P fr d f w=.ended o w1 es)\/∃g1 w1 es,writeOn P fr d f w=.go g1 w1 es/\Ii g1:=by
 unfold writeOn;simp only[];split
 .grind
 .split
  .exact .inr ⟨_,_,_,U,.inr ⟨_,_,U,U,a,.inl U⟩⟩
  .exact .inr ⟨_,_,_,U,.inr ⟨_,_,U,U,a,.inr U⟩⟩
  .grind
  grind
theorem ajC{P:cf}{m1:Machine}(hd:Ii g)(h:step P (lV g w)=.next m1):∃g1 w1,m1=lV g1 w1/\Ii g1:=by
 rcases hd with⟨c,b⟩|⟨d,f,c,b,i,a⟩
 .exact⟨g,w,XE b h,.inl ⟨c,b⟩⟩
 .rcases a with a|a
  .have e:stepG P true g w=writeOn P g.frame d f w:=by obtain⟨fr,cs,st,k,off⟩:=g;simp only at c;subst c;obtain⟨todo,texts,calling,pending,Ah,hand,fatal⟩:=d;simp only at b i;subst b;subst i;rfl
   rcases ajB (P:=P) (fr:=g.frame) (f:=f) (w:=w) i with⟨o,w1,es,j⟩|⟨g1,w1,es,j,l⟩
   .rw[(B8 a (e.trans j)).2 _ _ _ U]at h;cases h
   .rw[(B8 a (e.trans j)).1 _ _ _ U]at h;grind
  .exact⟨g,w,XE (.inl a) h,.inr ⟨d,f,c,b,i,.inr a⟩⟩
variable{dE:Frame}{cse:dZ}{bW:aL}
theorem ajD{P:cf}:∀(n:Nat)(g:uai)(w:aL),Ii g->runN P n (lV g w)≠ .next (lone dE cse bW):=by
 intro n;induction n with
 |zero=>
  intro g w hd h;simp only[runN,Stepped.next.injEq,ajz]at h;have:g=aY dE cse:=by simp_all[lV]
  subst this;rcases hd with⟨_,a⟩|⟨d,f,b,_⟩
  .rcases a with a|a<;>cases a
  .cases b
 |succ n c=>intro g w hd h;rw[runN]at h;grind[ajC]
def eS(f:uaj):Frame:={fn:=f,tmps:=#[],todo:=[.code (.refuse "")],defers:=[{target:=.nil,args:=#[]}],mode:=.run,kind:=.normal,roundOf:=none}
variable{f:uaj}
def XF{P:cf}:∀(n:Nat)(w:aL),(∀v,runN P n (lone ((eS f).finish v) [] w)≠ .next (lone dE (cs++[eS f]) bW))/\∀l,runN P n (lone ((eS f).raise l) [] w)≠ .next (lone dE (cs++[eS f]) bW):=by
 intro n w;have short:∀{fr:Frame}{w:aL},lone fr [] w≠lone dE (cs++[eS f]) bW:=by simp_all[lone]
 cases n with
 |zero=>grind[runN]
 |succ n=>
  refine⟨λv h=>?_,λl h=>?_⟩
  .rw[runN]at h;have e:∃o w1,(stepG P true (aY ((eS f).finish v) []) w).bare=.ended o w1:=⟨_,_,U⟩;obtain⟨o,w1,e⟩:=e;rw[step_lone_ended e]at h;cases h
  .rw[runN]at h;have e:∃o w1,(stepG P true (aY ((eS f).raise l) []) w).bare=.ended o w1:=⟨_,_,U⟩;obtain⟨o,w1,e⟩:=e;rw[step_lone_ended e]at h;cases h
section
variable{C:cM}{S:Sync}{ρ:Ren}
theorem XG{a:Frame}{cs1:dZ}(h:lone fr cs w=lone a cs1 w1):fr=a/\cs=cs1/\w=w1:=by simp_all[lone]
def ajE{P:cf}{fn:Func}{n:Nat}(k:P.funcs[fr.fn]?=some fn)(hk:fr.kind=.normal)(i:Fs fr []):
 runN P (n+1) (lone fr [eS f] w)≠ .next (lone dE (cse++[eS f]) bW):=by
 intro h;rw[runN]at h;obtain⟨_,hd,c|⟨l,c⟩⟩:=i
 .have e:stepG P true (aY fr [eS f]) w=GStep.after (seen P fr.fn ((results fn fr.tmps).events P w #[])) (match(results fn fr.tmps).run P w with
   | .ok v w=>doReturn P true fr [eS f] none v w
   | .halt (.stuck s) w=>.ended (.stuck s (fr.pos P)) w
   | .halt _ w=>.ended (.stuck "return: the result variables cannot be read" (fr.pos P)) w):=by
   grind[stepG,aY,unwind,Sem.runT_eq]
  cases b:(results fn fr.tmps).run P w with
  |ok v w1=>rw[b]at e;simp only[doReturn,hk,GStep.after]at e;rw[show step P (lone fr [eS f] w)=.next (lV (aY ((eS f).finish v) []) w1)from(B8 (g:=aY fr [eS f]) U e).1 _ _ _ U]at h;exact(XF (cs:=cse) n w1).1 v h
  |halt x w1=>
   have:∃o a es,stepG P true (aY fr [eS f]) w=.ended o a es:=by rw[e,b];cases x<;>exact⟨_,_,_,U⟩
   obtain⟨o,a,es,d⟩:=this;rw[show step P (lone fr [eS f] w)=.ended o a from(B8 (g:=aY fr [eS f]) U d).2 _ _ _ U]at h;cases h
 .have j:fr.catches P=false:=by grind[Frame.catches]
  have e:stepG P true (aY fr [eS f]) w=.go (aY ((eS f).raise l) []) w:=by grind[stepG,aY,unwind]
  rw[show step P (lone fr [eS f] w)=.next (lV (aY ((eS f).raise l) []) w)from(B8 (g:=aY fr [eS f]) U e).1 _ _ _ U]at h;exact(XF (cs:=cse) n w).2 l h
def ajF(l:C.Good){main':Bool}{base:dZ}{n:Nat}(e:eD C ρ fr aP)(a:jn C ρ cs a_)(d:jo fr cs)(i:eI C S ρ w w')(j:(i8 (stepG C.Q main' (aY aP (a_++base)) w')).drawn<=S.bound)(hrun:runN C.P n (lone fr (cs++[eS f]) w)=.next (lone dE (cse++[eS f]) bW)):
 (cs=cse/\fr=dE/\w=bW)\/∃k g1 w1,n=k+1/\i9 C S ρ [eS f] base w' g1 w1 (stepG C.Q main' (aY aP (a_++base)) w')/\runN C.P k (lV g1 w1)=.next (lone dE (cse++[eS f]) bW):=by
 cases n with
 |zero=>grind[runN,XG,List.append_cancel_right]
 |succ k=>
  obtain⟨fn,c,h,r⟩:=e.known;by_cases b:Fs fr cs
  .obtain⟨p,m⟩:=b;subst p;exact absurd hrun (ajE h d.1 ⟨U,m⟩)
  .right;have hk:=ajy l (b0:=[eS f]) e a d i b j;rw[runN]at hrun;cases hs:stepG C.P true (aY fr (cs++[eS f])) w with
   |go g1 w1 es=>
    rw[hs]at hk;rw[show step C.P (lone fr (cs++[eS f]) w)=.next (lV g1 w1)from(B8 (g:=aY fr (cs++[eS f])) U hs).1 _ _ _ U]at hrun;rcases hk with⟨s,hd⟩|q
    .grind[aju]
    grind[ajD]
   |ended o w1 es=>rw[show step C.P (lone fr (cs++[eS f]) w)=.ended o w1 from(B8 (g:=aY fr (cs++[eS f])) U hs).2 _ _ _ U]at hrun;grind
   | _=>rw[hs]at hk;exact absurd hk id
end
structure aX where
 g:Goroutine
 w:aL
 mine:Nat->Prop
structure kv(K:c7)(X:aX)(w':aL):Prop where
 heap:∀b,K b\/X.mine b->w'.heap[b]?=X.w.heap[b]?
 size:X.w.heap.size<=w'.heap.size
 env:w'.os.env=X.w.os.env
def grown(mine:c7)(w' w1:aL):Nat->Prop:=λb=>mine b\/(w'.heap.size<=b/\b<w1.heap.size)
def x2(K mine:c7)(e:Event):Prop:=
 match e.loc with
 | .cell a=>(K a.block\/mine a.block)/\(e.write=true->mine a.block)/\e.sync=false
 | .obj r=>(K r\/mine r)/\(e.write=true->mine r)/\e.sync=false
 | .mark .noRoom| .mark (.extern _)| .output=>True
 | _=>False
structure QL(K mine:c7)(w':aL)(g1:uai)(w1:aL)(es:uaq):Prop where
 run:g1.status=.running
 ow:g1.dying=none
 kept:∀b,b<w'.heap.size->¬mine b->w1.heap[b]?=w'.heap[b]?
 size:w'.heap.size<=w1.heap.size
 os:w1.os=w'.os
 output:w1.output=w'.output
 tape:w1.tape=w'.tape
 drawn:w'.drawn<=w1.drawn
 evs:∀e∈es,x2 K (grown mine w' w1) e
def L4(K mine:c7)(w':aL)(s:GStep):Prop:=∃g1 w1 es,s=.go g1 w1 es/\QL K mine w' g1 w1 es
inductive i_(Q:cf)(main:Bool)(K:c7)(post:aX->Prop):aX->Prop
 |done {X:aX} (h:post X):i_ Q main K post X
 |step {X:aX} (ok:∀w',kv K X w'->L4 K X.mine w' (stepG Q main X.g w'))
  (h:∀w' g1 w1 es,kv K X w'->stepG Q main X.g w'=.go g1 w1 es->i_ Q main K post ⟨g1,w1,grown X.mine w' w1⟩):i_ Q main K post X
inductive oX(Q:cf)(main:Bool)(K:c7)(Inv post:aX->Prop):aX->Prop
 |done {X:aX} (h:post X):oX Q main K Inv post X
 |step {X:aX} (inv:Inv X) (ok:∀w',kv K X w'->L4 K X.mine w' (stepG Q main X.g w'))
  (h:∀w' g1 w1 es,kv K X w'->stepG Q main X.g w'=.go g1 w1 es->oX Q main K Inv post ⟨g1,w1,grown X.mine w' w1⟩):oX Q main K Inv post X
section
variable{Q:cf}{main:Bool}{K:c7}{Inv post:aX->Prop}
def oX.tC{X:aX}(h:oX Q main K Inv post X):i_ Q main K post X:=by induction h with|done h=>exact .done h|step _ ok _ a=>exact .step ok a
def QM(Q:cf)(main:Bool)(K:c7)(Inv post:aX->Prop)(X:aX)(w':aL):Prop:=
 kv K X w'/\¬(L4 K X.mine w' (stepG Q main X.g w')/\∀g1 w1 es,stepG Q main X.g w'=.go g1 w1 es->oX Q main K Inv post ⟨g1,w1,grown X.mine w' w1⟩)
theorem QN{X:aX}(h:¬oX Q main K Inv post X):¬post X/\∃w',Inv X->QM Q main K Inv post X w':=by
 refine⟨λc=>h (.done c),vaw λhn=>h ?_⟩;have key:Inv X/\∀w',kv K X w'->L4 K X.mine w' (stepG Q main X.g w')/\∀g1 w1 es,stepG Q main X.g w'=.go g1 w1 es->oX Q main K Inv post ⟨g1,w1,grown X.mine w' w1⟩:=
  ⟨vaw λb=>hn ⟨X.w,λh=>absurd h b⟩,λw' a=>vaw λb=>hn ⟨w',λ_=>⟨a,b⟩⟩⟩
 exact .step key.1 (λw' a=>(key.2 w' a).1) (λw' g1 w1 es a hs=>(key.2 w' a).2 g1 w1 es hs)
def ajG(Q:cf)(main:Bool)(K:c7)(Inv post:aX->Prop)(a:aX):∃(X:Nat->aX)(v:Nat->aL),X 0=a/\(∀k,¬oX Q main K Inv post (X k)->Inv (X k)->QM Q main K Inv post (X k) (v k))/\
 ∀k g1 w1 es,stepG Q main (X k).g (v k)=.go g1 w1 es->X (k+1)=⟨g1,w1,grown (X k).mine (v k) w1⟩:=by
 have pick:∀X:aX,∃w':aL,¬oX Q main K Inv post X->Inv X->QM Q main K Inv post X w':=by
  intro X;by_cases h:oX Q main K Inv post X
  .simp_all
  simp_all[QN]
 obtain⟨p,b⟩:=vdq.1 pick;refine⟨λk=>Nat.rec a (λ_ X=>match stepG Q main X.g (p X)with| .go g1 w1 _=>⟨g1,w1,grown X.mine (p X) w1⟩| _=>X) k,λk=>p _,U,λk=>b _,λk g1 w1 es h=>?_⟩;grind
end
def Ij(base:dZ)(X:aX):Prop:=∃fr cs,X.g=aY fr (cs++base)
def pK(c_:Nat)(B E:uas):Nat->Nat
 |0=>c_
 |k+1=>pK c_ B E k+(E k-B k)
def XH(c_:Nat)(B E:uas){k l:Nat}(h:k<=l):pK c_ B E k<=pK c_ B E l:=by induction h with|refl=>grind|step _ a=>exact vad a (vdc _ _)
open Classical in
def ajH(c_:Nat)(B E:uas)(c:Nat->Nat->Question->Nat):∃T:Nat->Question->Nat,∀k j q,B k+j<E k->T (pK c_ B E k+j) q=c k (B k+j) q:=by
 refine⟨λi q=>if h:∃k,pK c_ B E k<=i/\i<pK c_ B E (k+1)then c (Classical.choose h) (B (Classical.choose h)+(i-pK c_ B E (Classical.choose h))) q else 0,λk j q f=>?_⟩;have b:∃k',pK c_ B E k'<=pK c_ B E k+j/\pK c_ B E k+j<pK c_ B E (k'+1):=⟨k,vdc _ _,by grind[pK]⟩;simp only[dif_pos b];have e:=Classical.choose_spec b;generalize Classical.choose b=k' at e;have hk:k'=k:=by
  rcases Nat.lt_trichotomy k' k with a|d|a
  .have:=XH c_ B E (Nat.succ_le_of_lt a);grind
  .exact d
  .have:=XH c_ B E (Nat.succ_le_of_lt a);grind[pK]
 grind
variable{Ft pL:Frame}{cs0 x4:dZ}{mG w0:aL}
section
variable{C:cM}{S:Sync}{ρ:Ren}
def eI.rely{K:c7}{X:aX}{bound:Nat}(h:eI C S ρ w X.w)(d:kv K X w')(hd:∀a b,ρ.rel a b->K b\/X.mine b)(ht:∀j q,w'.drawn+j<bound->w.tape (w.drawn+j) q=w'.tape (w'.drawn+j) q):eI C ⟨w.drawn,w'.drawn,bound,S.T⟩ ρ w w':=
 ⟨λb c e=>by
  obtain⟨o,o',i,g,f⟩:=h.obj b c e;exact⟨o,o',i,(d.heap c (hd b c e)).trans g,f⟩,
  h.one,h.inj,h.nD,Nat.add_comm _ _,ht,h.env.trans d.env.symm,h.lone,h.still⟩
structure x3(C:cM)(K:c7)(T:Nat->Question->Nat)(j6:Ren)(n0:Nat)(base:dZ)(ρ:Ren)(fr:Frame)(cs:dZ)(w:aL)(X:aX):Prop where
 frames:∃aP a_,X.g=aY aP (a_++base)/\eD C ρ fr aP/\jn C ρ cs a_
 bottom:jo fr cs
 world:eI C ⟨w.drawn,X.w.drawn,0,T⟩ ρ w X.w
 le:Ren.le j6 ρ
 mine:∀b,ρ.mine b->X.mine b
 dom:∀a b,ρ.rel a b->K b\/X.mine b
 old:∀a b,ρ.rel a b->j6.rel a b\/n0<=b
 size:n0<=X.w.heap.size
def XI(hC:C.Good){base:dZ}{d:Ren}(QO:eD C d pL Ft)(QP:jn C d cs0 x4)(P:jo pL cs0){K rK:c7}(W:∀T,eI C ⟨w0.drawn,mG.drawn,0,T⟩ d {w0 with tape:=T} mG)(u:∀b,d.mine b->rK b)(hK:∀a b,d.rel a b->K b\/rK b){R:Frame->List Frame->aL->Prop}(hrun:∀T,∃n dE cse bW,runN C.P n (lone pL (cs0++[eS f]) {w0 with tape:=T})=.next (lone dE (cse++[eS f]) bW)/\R dE cse bW)(main:Bool):
 oX C.Q main K (Ij base) (λX=>∃ρ fr cs w T,R fr cs w/\x3 C K T d mG.heap.size base ρ fr cs w X) ⟨aY Ft (x4++base),mG,rK⟩:=by
 generalize Ik:(λX=>∃ρ fr cs w T,R fr cs w/\x3 C K T d mG.heap.size base ρ fr cs w X)=post
 have aDd:∀X,(∃ρ fr cs w T,R fr cs w/\x3 C K T d mG.heap.size base ρ fr cs w X)->post X:=AF
 clear Ik
 apply vaw
 intro hn
 generalize QQ:(⟨aY Ft (x4++base),mG,rK⟩:aX)=L5 at hn
 obtain⟨X,v,I,ox,dr⟩:=ajG C.Q main K (Ij base) post L5
 let B:Nat->Nat:=λk=>(v k).drawn
 let E:Nat->Nat:=λk=>(i8 (stepG C.Q main (X k).g (v k))).drawn
 obtain⟨T,hT⟩:=ajH w0.drawn B E λk=>(v k).tape
 obtain⟨n,dE,cse,bW,hrun,L6⟩:=hrun T
 have main:∀(n k:Nat)(ρ:Ren)(fr:Frame)(cs:dZ)(w:aL),x3 C K T d mG.heap.size base ρ fr cs w (X k)->w.drawn=pK w0.drawn B E k->¬oX C.Q main K (Ij base) post (X k)->
  runN C.P n (lone fr (cs++[eS f]) w)=.next (lone dE (cse++[eS f]) bW)->False:=by
  intro n;induction n with
  |zero=>grind[runN,XG,List.append_cancel_right,QN]
  |succ n V=>
   intro k ρ fr cs w ht hd L Z;obtain⟨p,l⟩:=ox k L (by obtain⟨aP,a_,hg,_⟩:=ht.frames;exact⟨aP,a_,hg⟩);have o:=dr k;have O:=hT k;have N:B k=(v k).drawn:=rfl;have m:E k=(i8 (stepG C.Q main (X k).g (v k))).drawn:=rfl;generalize hv:v k=g at p l o O N m;generalize aDe:X k=Y at ht L p l o m;obtain⟨aP,a_,hg,cb,x⟩:=ht.frames;have fx:eI C ⟨w.drawn,g.drawn,E k,T⟩ ρ w g:=ht.world.rely p ht.dom λj q M=>by have:=O j q AF;rw[N,<-hd]at this;rw[ht.world.lone];grind
   rw[hg]at m l o;rcases ajF hC cb x ht.bottom fx (vbk m.symm) Z with⟨h1,h2,h3⟩|⟨n',g1,w1,Aj,hst,Ak⟩
   .grind[QN]
   .cases Aj;obtain⟨σ,Q,cs1,t,J,i,es',Fu,hs,H,F,U,e,c,m8⟩:=hst;subst Fu;rw[hs]at m l o;have D:=o _ _ _ rfl;have hsz:∀b,σ.mine b->grown Y.mine g i b:=λb r=>by
     rcases c.back b r with h|h
     .exact .inl (ht.mine b h)
     .rcases c.low b r with y|y
      .exact .inl (ht.mine b y)
      .exact .inr ⟨h,y⟩
    have A:∀a b,σ.rel a b->K b\/grown Y.mine g i b:=λa b s=>by
     rcases c.old a b s with h|h
     .exact(ht.dom a b h).imp id .inl
     .obtain⟨_,o',_,h2,_⟩:=e.obj a b s;exact .inr (.inr ⟨h,by
       grind⟩)
    have z:QL K Y.mine g (aY t (J++base)) i es':=by refine⟨rfl,rfl,λb r u=>c.kept b r λh=>u (ht.mine b h),c.size,c.os,c.output,c.tape,c.drawn,λev aDf=>?_⟩;grind[wu,x2]
    have aDg:¬oX C.Q main K (Ij base) post ⟨aY t (J++base),i,grown Y.mine g i⟩:=λhc=>l ⟨⟨_,_,_,rfl,z⟩,λg2 w2 ku e2=>AF⟩;have S:w1.drawn=pK w0.drawn B E (k+1):=by have L8:=e.sync;have aDh:=c.drawn;grind[pK,i8]
    refine V (k+1) σ Q cs1 w1 ?_ S AF Ak;rw[D];refine⟨⟨t,J,rfl,H,F⟩,U,?_,Ren.le_trans ht.le c.le,hsz,A,λa b s=>?_,vad ht.size (vad p.size c.size)⟩
    .exact⟨e.obj,e.one,e.inj,e.nD,Nat.add_comm _ _,λj q M=>absurd M (Nat.not_lt_zero _),e.env,e.lone,e.still⟩
    .rcases c.old a b s with h|h
     .exact ht.old a b h
     .exact .inr (vad ht.size (vad p.size h))
 refine main n 0 d pL cs0 {w0 with tape:=T} ?_ rfl ?_ hrun
 .rw[I];subst QQ;exact⟨⟨_,x4,rfl,QO,QP⟩,P,W T,Ren.le_refl _,u,hK,λa b h=>.inl h,vac _⟩
 grind
def XL(h:C.Good){base:dZ}{c:Ren}(j:eD C c pL Ft)(i:jn C c cs0 x4)(d:jo pL cs0){K rK:c7}(e:∀T,eI C ⟨w0.drawn,mG.drawn,0,T⟩ c {w0 with tape:=T} mG)(g:∀b,c.mine b->rK b)(hK:∀a b,c.rel a b->K b\/rK b){R:Frame->List Frame->aL->Prop}(hrun:∀T,∃n dE cse bW,runN C.P n (lone pL (cs0++[eS f]) {w0 with tape:=T})=.next (lone dE (cse++[eS f]) bW)/\R dE cse bW)(main:Bool):
 i_ C.Q main K (λX=>∃ρ fr cs w T,R fr cs w/\x3 C K T c mG.heap.size base ρ fr cs w X) ⟨aY Ft (x4++base),mG,rK⟩:=(XI (f:=f) h j i d e g hK hrun main).tC
theorem i_.mono{Q:cf}{main:Bool}{K:c7}{post a:aX->Prop}{X:aX}(h:i_ Q main K post X)(c:∀Y,post Y->a Y):i_ Q main K a X:=by induction h with|done h=>exact .done (c _ h)|step ok _ b=>exact .step ok b
def ajO(h:C.Good){fn:Func}{c:Code}(m:C.P.funcs[f]?=some fn)(p:fn.body=some c){args g:df}{d:Ren}(r:aM d args g){K rK:c7}(k:∀T,eI C ⟨w0.drawn,mG.drawn,0,T⟩ d {w0 with tape:=T} mG)(o:∀b,d.mine b->rK b)(hK:∀a b,d.rel a b->K b\/rK b){R:Ending->aL->Prop}(x:∀e w,R e w->e≠ .outgrown)(j:∀T,Calls C.P f args {w0 with tape:=T} R)(main:Bool)(base:dZ):
 i_ C.Q main K (λX=>∃ρ fr w T e,R e w/\fr.fn=f/\fr.leaving C.P w e/\x3 C K T d mG.heap.size base ρ fr [] w X) ⟨aY (Frame.enter C.Q f g .normal) base,mG,rK⟩:=by
 have q:jo (Frame.enter C.P f args .normal) []:=by unfold Frame.enter;exact⟨U,U⟩
 refine(XL (f:=f) (base:=base) (R:=λfr cs w=>cs=[]/\∃e,R e w/\fr.fn=f/\fr.leaving C.P w e) h (.enter h.funcs r m p KB) .nil q k o hK (λT=>?_) main).mono ?_
 .obtain⟨e,bW,dE,y,i,u,s⟩:=j T [eS f];have t:Steps C.P (lone (Frame.enter C.P f args .normal) [eS f] {w0 with tape:=T}) (lone dE [eS f] bW):=by cases e with|outgrown=>grind|returned v=>exact i|panicked l=>exact i
  obtain⟨n,hn⟩:=t;grind
 grind
end
variable{ap:Type}
def L_:∀(l:List (String×ap)),l.all (λp=> !("" ==p.1))=true->l.lookup "" =none:=by grind
theorem ajR:Extern.allNextRows.lookup "" =none:=L_ _ AQ
theorem ajS:Extern.allRows.lookup "" =none:=L_ _ AQ
theorem ajT:Extern.allTypedRows.lookup "" =none:=L_ _ AQ
theorem ajU:Extern.allGenericRows.lookup "" =none:=L_ _ AQ
def ir(P:cf)(upd:Bool)(fn:Func):Bool:=fn.body.any (j4 P upd)&&fn.name != "runtime.NumGoroutine"
def Io(P:cf)(upd:Bool)(fn:Func):Func:=if ir P upd fn then fn else{fn with name:= "",origin:= "",body:=none}
def ae(P:cf)(upd:Bool):cf:={P with funcs:=P.funcs.map (Io P upd)}
def da(P:cf)(upd:Bool):cM:={P:=ae P upd,Q:=P,mg:=λc=>j4 (ae P upd) upd c=true,upd:=upd}
theorem QR(P:cf)(u:Bool)(t:uaa):(ae P u).underlying t=P.underlying t:=rfl
def XN(P:cf)(u:Bool):∀(n:Nat)(t:uaa),qC (ae P u) n t=qC P n t:=by intro n;induction n with|zero=>intro t;rfl|succ n a=>grind[qC,QR]
theorem QS(P:cf)(u:Bool)(x:uap):gu (ae P u) x=gu P x:=by cases x<;>rfl
theorem QT(P:cf)(u:Bool):gu (ae P u)=gu P:=funext (QS P u)
def ajV(P:cf)(u:Bool)(op:BinOp)(t:uaa):B2 (ae P u) op t=B2 P op t:=by simp_all[B2,XN,QR]
theorem ajW(P:cf)(u:Bool)(t:uaa):H6 (ae P u) t=H6 P t:=rfl
theorem ajX(P:cf)(u:Bool)(t:uaa):H7 (ae P u) t=H7 P t:=rfl
theorem ajY(P:cf)(u:Bool)(t:uaa):H8 (ae P u) t=H8 P t:=rfl
def ajZ(P:cf)(u:Bool)(t:uaa):xT (ae P u) t=xT P t:=by simp only[xT,XN,QR]
def aj0(P:cf)(u:Bool)(c:Call):Fj (ae P u) c=Fj P c:=by grind[Fj,QT]
def aj1(P:cf)(u:Bool)(c:Call):Ib (ae P u) c=Ib P c:=by grind[Ib,QT]
def XO(P:cf)(upd u:Bool)(o:Op):m6 (ae P u) upd o=m6 P upd o:=by simp_all[m6,QT,ajV,ajW,ajX,ajY,ajZ,aj0,aj1]
def XP(P:cf)(upd u:Bool)(c:Code):j4 (ae P u) upd c=j4 P upd c:=by induction c with|region id ops d=>simp only[j4,XO]|seq a b h g=>grind[j4]|cond c a b h g=>grind[j4,QS]|block id b e=>grind[j4]|loop b e=>grind[j4]|scope b e=>grind[j4]|rangeFunc f p a b h g=>grind[j4,QS]| _=>rfl
def XQ{P:cf}{upd:Bool}{fn:Func}(h:(ae P upd).funcs[f]?=some fn):∃a,P.funcs[f]?=some a/\fn=Io P upd a:=by simp only[ae,vcl]at h;grind
def bB{P:cf}{upd:Bool}{fn:Func}(h:P.funcs[f]?=some fn)(hk:ir P upd fn=true):(ae P upd).funcs[f]?=some fn:=by simp_all[ae,Io]
def aj2(P:cf)(upd:Bool):(da P upd).B3:=by
 refine⟨λf fn c h b=>?_,λf fn h b ρ a a' m=>?_⟩
 .obtain⟨d,h0,rfl⟩:=XQ h;unfold Io at b⊢;by_cases hk:ir P upd d=true
  .rw[vbv hk]at b⊢;simp only[ir,vaf,bne_iff_ne,b,Option.any_some]at hk;exact⟨h0,(XP P upd upd c).trans hk.1,hk.2⟩
  grind
 .obtain⟨d,h0,e⟩:=XQ h;have g:fn.name= "" /\fn.origin= "" :=by
   unfold Io at e;by_cases hk:ir P upd d=true
   .simp_all[ir]
   grind
  intro S w w' l hg _;exfalso;have k:Extern.findNext fn=none:=by grind[Extern.findNext,ajR]
  have j:Extern.find fn=none:=by grind[Extern.find,ajS,ajT,ajU]
  have:∃u w1,(callFunc f a).run (ae P upd) w=.halt (.unsupported (.extern u)) w1:=by unfold callFunc;refine⟨ "",w,?_⟩;have i:(ae P upd).funcs[f]?=some fn:=h;simp only[m2,Go.program,Sem.run,i,g.1,b,k,j];rfl
  obtain⟨u,w1,n⟩:=this;simp_all[Good,callFunc,ae]
def Al(i:TypeInfo):Prop:=∀v,i.zero=some v->jm v
def Fw{d:TypeDesc}{s:String}{z:Value}{c:Bool}{n:Nat}(h:jm z):Al (Made.word d s z c n):=by intro v hv;grind[Made.word]
theorem kL.append{a b:df}(d:kL a)(c:kL b):kL (a++b):=by
 intro i v h;rw[Array.getElem?_append]at h;split at h
 .exact d _ _ h
 .exact c _ _ h
def kL.aj3{z:df}(b:kL z)(n:Nat):kL (Array.replicate n z).flatten:=by induction n with|zero=>intro i v h;grind|succ n a=>rw[vcg];simp only[Array.flatten_push];exact a.append b
variable{aK:Type}
def aj4(I:aK->Prop)(f:ap->aK->Option (ForInStep aK))(hstep:∀a b r,I b->f a b=some r->∃c,r=.yield c/\I c):
 ∀(l:List ap)(b r:aK),I b->forIn l b f=some r->I r:=by
 intro l;induction l with|nil=>grind|cons a l d=>intro b r g h;simp only[List.forIn_cons]at h;cases e:f a b with|none=>grind|some s=>grind
variable{info:TypeId->Option TypeInfo}
def aj5(hi:∀t i,info t=some i->Al i){fs:Array Field}{i:TypeInfo}(h:Made.reckonStruct info fs=some i):Al i:=by
 unfold Made.reckonStruct at h;simp only[bind,vbd]at h;obtain⟨s,hs,h⟩:=h;have n:∀z,s.2.2.2.2.2.2.2.1=some z->kL z:=by
  rw[<-Array.forIn_toList]at hs;refine aj4 (λs:Array Field×Nat×Nat×Nat×Nat×Bool×Bool×Option (Array Value)×String=>∀z,s.2.2.2.2.2.2.2.1=some z->kL z) _ ?_ _ _ _ ?_ hs
  .intro f b r l d;simp only[vbd]at d;obtain⟨j,k,d⟩:=d;have key:∀(c:Prop)[Decidable c](z:df),(if c then none else b.2.2.2.2.2.2.2.1.bind λa=>j.zero.bind λv=>pure (a++v.cells))=some z->kL z:=by
    intro c _ z e;split at e
    .cases e
    .simp only[vbd,pure,vbh]at e;obtain⟨a,m,v,hv,rfl⟩:=e;exact(l a m).append (hi _ _ k v hv).cells
   have leaf:∀{x:Array Field×Nat×Nat×Nat×Nat×Bool×Bool×Option (Array Value)×String},(pure (ForInStep.yield x):Option (ForInStep _))=some r->(∀z,x.2.2.2.2.2.2.2.1=some z->kL z)->∃g,r=.yield g/\∀z,g.2.2.2.2.2.2.2.1=some z->kL z:=
    λp o=>⟨_,(vaq p).symm,o⟩
   split at d
   .cases d
   split at d
   .cases d
   split at d
   all_goals
    simp only[vbd]at d;obtain⟨_,_,d⟩:=d;split at d
    .exact leaf d λz e=>key _ z e
    .exact leaf d λz e=>key _ z e
  .intro z e;cases e;intro i v h;grind
 have dN:∀v,Option.map Value.agg s.2.2.2.2.2.2.2.1=some v->jm v:=by intro v hv;rw[vaj]at hv;obtain⟨z,e,rfl⟩:=hv;exact .agg (n z e)
 split at h
 .cases h;exact dN
 .cases h;exact dN
def aj6(hi:∀t i,info t=some i->Al i){d:TypeDesc}{i:TypeInfo}(h:Made.reckon info d=some i):Al i:=by
 cases d with
 |pointer e=>
  simp only[Made.reckon,bind,vbd]at h;obtain⟨j,_,h⟩:=h;split at h
  .cases h
  .split at h
   .cases h
   .simp only[vbd,pure,vbh]at h;obtain⟨_,_,rfl⟩:=h;exact Fw .lQ
  .simp only[vbd,pure,vbh]at h;obtain⟨_,_,rfl⟩:=h;exact Fw .lQ
 |slice e=>simp only[Made.reckon,bind,vbd,pure,vbh]at h;obtain⟨_,_,_,_,rfl⟩:=h;exact Fw (.j2 _ _)
 |map k e=>simp only[Made.reckon,bind,vbd,pure,vbh]at h;obtain⟨_,_,_,_,_,_,_,_,rfl⟩:=h;exact Fw .pD
 |chan dir e=>simp only[Made.reckon,bind,vbd,pure,vbh]at h;obtain⟨_,_,_,_,rfl⟩:=h;exact Fw .pE
 |func ps rs v=>simp only[Made.reckon,bind,vbd,pure,vbh]at h;obtain⟨_,_,rfl⟩:=h;exact Fw .nilFunc
 |array n e=>
  simp only[Made.reckon,bind,vbd,pure,vbh]at h;obtain⟨j,b,_,_,rfl⟩:=h;intro v hv;simp only at hv;split at hv
  .cases hv
  .split at hv
   .cases hv;exact .agg λi v h=>AF
   .simp only[vaj]at hv;obtain⟨z,a,rfl⟩:=hv;exact .agg ((hi e j b z a).cells.aj3 n)
 |struct fs=>exact aj5 hi h
 | _=>cases h
def aj7{T:Tables}(h:∀i∈T.types,Al i):∀(n:Nat)(t:uaa)(i:TypeInfo),Made.infoAt T n t=some i->Al i:=by
 intro n;induction n with
 |zero=>intro t i hi;cases hi
 |succ n a=>
  intro t i hi;simp only[Made.infoAt]at hi;split at hi
  .exact h i (vbe hi)
  .simp only[vbd]at hi;obtain⟨d,_,hd⟩:=hi;exact aj6 a hd
def aj8{P:cf}{upd:Bool}(h:(P.types.all λi=>i.zero.all (i7 8))=true):(da P upd).sE:=by
 have ht:∀i∈P.types,Al i:=by intro i hi v hv;grind[Array.all_eq_true_iff_forall_mem,Xl]
 intro t i v hi hv;have hi:P.info? t=some i:=hi;unfold Tables.info? at hi;split at hi
 .exact ht i (vbe hi) v hv
 .exact aj7 ht _ t i hi v hv
def XR{P:cf}(upd:Bool)(h:(P.types.all λi=>i.zero.all (i7 8))=true)(a:P.follows .rangeFuncRecover=true):(da P upd).Good:=
 ⟨U,aj8 h,aj2 P upd,λ_=>Iff.rfl,a⟩
def eh(D M:c7):Ren:=⟨λa b=>a=b/\D b,M⟩
def aj9{a:Array ap}{b:Array aK}(h:a.size=b.size){i:Nat}{y:aK}(c:b[i]?=some y):∃x,a[i]?=some x:=by
 have hi:i<b.size:=by grind
 simp_all
section
variable{ρ σ:Ren}
def dA.right(h:∀a b,ρ.rel a b->σ.rel b b){a a':Addr}(k:dA ρ a a'):dA σ a' a':=⟨h _ _ k.1,U,U⟩
def tv.right(h:∀a b,ρ.rel a b->σ.rel b b){f f':Fn}(k:tv ρ f f'):tv σ f' f':=by cases k with|func f=>exact .func f|yield c=>exact .yield (h _ _ c)
theorem ar.right(h:∀a b,ρ.rel a b->σ.rel b b){v d:Value}(k:ar ρ v d):ar σ d d:=by
 have all:∀{a a':df},a.size=a'.size->(∀(i:Nat)(v d:Value),a[i]?=some v->a'[i]?=some d->ar σ d d)->∀(i:Nat)(x y:Value),a'[i]?=some x->a'[i]?=some y->ar σ x y:=by grind
 induction k with|bool b=>exact .bool b|int k n=>exact .int k n|string s=>exact .string s|lQ=>exact .lQ|ptr r=>exact .ptr (r.right h)|j2 l c=>exact .j2 l c|slice l c r=>exact .slice l c (r.right h)|pD=>exact .pD|map r=>exact .map (h _ _ r)|pE=>exact .pE|func j o m _ _ g f=>exact .func (j.right h) U U (all o g) (all m f)|nilFunc=>exact .nilFunc|iface t _ e=>exact .iface t e|nilIface=>exact .nilIface|agg hs _ e=>exact .agg U (all hs e)|tuple hs _ e=>exact .tuple U (all hs e)
theorem aM.right(h:∀a b,ρ.rel a b->σ.rel b b){a a':df}(k:aM ρ a a'):aM σ a' a':=by refine⟨U,λi x y c d=>?_⟩;rw[c]at d;cases d;obtain⟨z,e⟩:=aj9 k.size c;exact(k.get i z x e c).right h
def cL.right{R:ap->aK->Prop}{c:aK->aK->Prop}(h:∀a b,R a b->c b b){l:List ap}{m:List aK}(k:cL R l m):cL c m m:=by induction k with|nil=>exact .nil|cons x _ d=>exact .cons (h _ _ x) d
theorem hP.right{C:cM}(h:∀a b,ρ.rel a b->σ.rel b b){o o':Obj}(k:hP C ρ o o'):hP C σ o' o'\/LF o':=by cases k with|cells e f g=>exact .inl (.cells e (f.right h) ⟨λ_ x=>x,λ_=>U⟩)|map c d=>exact .inl (.map c (d.right λa b x=>⟨x.key.right h,x.val.right h,U⟩))|stringIter s p=>exact .inr trivial|BU a b c=>exact .inr trivial|mapIter h a b c=>exact .inr trivial|loop h=>exact .inr trivial|deferred h=>exact .inr trivial|taken=>exact .inr trivial|number hn l=>exact .inl (.number (hn.right h) l)|shut h=>grind
end
def ie(C:cM)(D M:c7)(w:aL):Prop:=∀b,D b->∃o,w.heap[b]?=some o/\(hP C (eh D M) o o\/LF o)
def eI.closed{C:cM}{S:Sync}{ρ:Ren}(h:eI C S ρ w w')(M:c7):ie C (λb=>∃a,ρ.rel a b) M w':=by rintro b ⟨a,e⟩;obtain⟨o,o',_,d,c⟩:=h.obj a b e;exact⟨o',d,c.right (σ:=eh (λb=>∃a,ρ.rel a b) M) λx y f=>⟨U,x,f⟩⟩
def Fx(C:cM)(D M:c7)(b:Nat)(o fL:Obj):Prop:=
 (hP C (eh D M) o o/\M b/\fL=o)\/
 (hP C (eh D M) o o/\¬M b/\((∃c e fr,o=.cells c e fr/\fL=.cells c e (0,c.size+fr.2))\/(∃a l,o=.number a l/\fL=o)\/(∃es k,o=.map es k/\C.upd=false/\fL=o)\/
  ((∀c e fr,o≠ .cells c e fr)/\(∀a l,o≠ .number a l)/\(C.upd=true\/∀es k,o≠ .map es k)/\fL=.coro none)))\/
 (¬hP C (eh D M) o o/\fL=.coro none)
def aj_(C:cM)(D M:c7)(b:Nat)(o:Obj):∃h,Fx C D M b o h:=by
 by_cases d:hP C (eh D M) o o
 .by_cases f:M b
  .exact⟨o,.inl ⟨d,f,U⟩⟩
  .cases o with
   |cells c e fr=>exact⟨_,.inr (.inl ⟨d,f,.inl ⟨c,e,fr,U,U⟩⟩)⟩
   |number a l=>exact⟨_,.inr (.inl ⟨d,f,.inr (.inl ⟨a,l,U,U⟩)⟩)⟩
   |map es k=>cases g:C.upd with|true=>exact⟨.coro none,.inr (.inl ⟨d,f,.inr (.inr (.inr ⟨Ab,Ab,.inl g,U⟩))⟩)⟩|false=>exact⟨_,.inr (.inl ⟨d,f,.inr (.inr (.inl ⟨es,k,U,g,U⟩))⟩)⟩
   | _=>exact⟨.coro none,.inr (.inl ⟨d,f,.inr (.inr (.inr ⟨Ab,Ab,.inr Ab,U⟩))⟩)⟩
 .exact⟨_,.inr (.inr ⟨d,U⟩)⟩
def Fx.rel{C:cM}{D M:c7}{b:Nat}{o j:Obj}(k:Fx C D M b o j)(g:C.upd=true->M b\/¬hP C (eh D M) o o)(h:hP C (eh D M) o o\/LF o):hP C (eh D M) j o:=by
 rcases k with⟨d,_,rfl⟩|⟨d,m,⟨c,e,fr,rfl,rfl⟩|⟨a,l,rfl,rfl⟩|⟨es,k,rfl,_,rfl⟩|⟨n1,eJ,n,rfl⟩⟩|⟨d,rfl⟩
 .exact d
 .have f:=d;cases d with|cells _ p q=>exact .cells e p ⟨λi x=>⟨vav _,vap x.2 (Nat.le_add_left _ _)⟩,λx=>(g x).elim (λy=>absurd y m) (λy=>absurd f y)⟩
 .exact d
 .exact d
 .refine .shut ?_;have f:=d;cases d with|cells e _ _=>grind|number _ _=>grind|map _ _=>exact(n.elim (λx=>(g x).elim m λy=>y f) λx=>x _ _ U).elim|shut h=>exact h| _=>trivial
 .exact .shut (h.resolve_left d)
def Fx.still{C:cM}{D M:c7}{b:Nat}{o d:Obj}(k:Fx C D M b o d)(f:C.upd=true->M b\/¬hP C (eh D M) o o)(j:¬M b):(C.upd=false/\∃c e fr,d=.cells c e fr/\∀i,i<c.size->xL fr i)\/(C.upd=false/\∃es k,d=.map es k)\/E_ d:=by
 rcases k with⟨_,h,_⟩|⟨g,_,⟨c,e,fr,rfl,rfl⟩|⟨a,l,rfl,rfl⟩|⟨es,k,rfl,f,rfl⟩|⟨_,_,_,rfl⟩⟩|⟨_,rfl⟩
 .grind
 .exact .inl ⟨by
   grind,c,e,_,U,λi hi=>⟨vav _,vap hi (vdc _ _)⟩⟩
 .exact .inr (.inr (.number a l))
 .grind
 .exact .inr (.inr .coro)
 .exact .inr (.inr .coro)
structure gb(C:cM)(D M:c7)(w w0:aL):Prop where
 size:w0.heap.size=w.heap.size
 drawn:w0.drawn=w.drawn
 os:w0.os=w.os
 obj:∀b o,w.heap[b]?=some o->∃fL,w0.heap[b]?=some fL/\Fx C D M b o fL
def Ip(C:cM)(D M:c7)(w:aL):∃w0,gb C D M w w0:=by obtain⟨f,a⟩:=vdq.1 λb=>vdq.1 λo=>aj_ C D M b o;refine⟨{w with heap:=w.heap.mapIdx f},Ab,U,U,λb o h=>⟨f b o,?_,a b o⟩⟩;grind
theorem gb.rel{C:cM}{D M:c7}(h:gb C D M w w0)(p:ie C D M w)(hg:∀g,g<=C.P.globals.size->D g)(m:C.upd=true->∀b,D b->M b\/∀o,w.heap[b]?=some o->¬hP C (eh D M) o o)(T:Nat->Question->Nat):
 eI C ⟨w0.drawn,w.drawn,0,T⟩ (eh D M) {w0 with tape:=T} w:=by
 refine⟨?_,?_,?_,λg h=>⟨U,hg g h⟩,Nat.add_comm _ _,λj q u=>absurd u (Nat.not_lt_zero _),by show w0.os.env=_;rw[h.os],U,?_⟩
 .rintro b r ⟨rfl,hd⟩;obtain⟨o,d,n⟩:=p b hd;obtain⟨l,f,i⟩:=h.obj b o d;exact⟨l,o,f,d,i.rel (λe=>(m e b hd).imp id λy=>y o d) n⟩
 .rintro a b r ⟨rfl,_⟩ ⟨rfl,_⟩;rfl
 .rintro a a' b ⟨rfl,_⟩ ⟨h,_⟩;grind
 .rintro b r ⟨rfl,hd⟩ t;obtain⟨o,d,n⟩:=p b hd;obtain⟨l,f,i⟩:=h.obj b o d;have f:({w0 with tape:=T}:aL).heap[b]?=some l:=f;rw[f];rcases i.still (λe=>(m e b hd).imp id λy=>y o d) t with⟨s,c,e,fr,rfl,v⟩|⟨s,es,k,rfl⟩|hd
  .grind
  .grind
  grind
theorem gb.cells{C:cM}{D M:c7}{w w0:aL}(h:gb C D M w w0)(q:ie C D M w){b:Nat}(hd:D b){c:df}{e:uaa}{fr:ubu}(f:w.heap[b]?=some (.cells c e fr)):
 ∃pL,w0.heap[b]?=some (.cells c e pL)/\(M b->pL=fr):=by
 obtain⟨o,i,p⟩:=q b hd;rw[f]at i;cases i;have j:hP C (eh D M) (.cells c e fr) (.cells c e fr):=p.resolve_right λx=>x;obtain⟨r,g,n⟩:=h.obj b _ f;rcases n with⟨_,_,rfl⟩|⟨_,m,⟨t,s,aP,d,rfl⟩|⟨a,l,d,_⟩|⟨es,k,d,_,_⟩|⟨n1,_,_,_⟩⟩|⟨hn,_⟩
 .exact⟨fr,g,λ_=>U⟩
 .cases d;exact⟨_,g,λx=>absurd x m⟩
 .cases d
 .cases d
 .exact absurd U (n1 _ _ _)
 .exact absurd j hn
def gb.B9{C:cM}{D M:c7}(h:gb C D M w w0)(q:ie C D M w)(c:C.upd=false\/∀b,D b->M b){b:Nat}(hd:D b){es:Array MapEntry}{k:Nat}(f:w.heap[b]?=some (.map es k)):
 w0.heap[b]?=some (.map es k)/\cL (rH (eh D M)) es.toList es.toList:=by
 obtain⟨o,i,p⟩:=q b hd;rw[f]at i;cases i;have e:hP C (eh D M) (.map es k) (.map es k):=p.resolve_right λx=>x;obtain⟨r,g,n⟩:=h.obj b _ f;refine⟨?_,by cases e with|map _ h=>exact h⟩;rcases n with⟨_,_,rfl⟩|⟨_,m,⟨t,s,aP,d,rfl⟩|⟨a,l,d,_⟩|⟨es,k,d,_,rfl⟩|⟨_,_,j,_⟩⟩|⟨hn,_⟩
 .exact g
 .cases d
 .cases d
 .exact g
 .rcases c with c|c
  .exact(j.elim (λx=>by rw[c]at x;cases x) λx=>x _ _ U).elim
  .exact absurd (c b hd) m
 .exact absurd e hn
def XT{P:cf}{upd:Bool}(p:(da P upd).Good){fn:Func}{c:Code}(m:P.funcs[f]?=some fn)(hk:ir P upd fn=true)(n:fn.body=some c){D M:c7}(q:ie (da P upd) D M w)(hg:∀g,g<=P.globals.size->D g){args:df}(l:upd=true->∀b,D b->M b)(o:aM (eh D M) args args){R:Ending->aL->Prop}(r:∀e w,R e w->e≠ .outgrown)(i:gb (da P upd) D M w w0)(j:∀T,Calls (ae P upd) f args {w0 with tape:=T} R)(main:Bool)(base:dZ):
 i_ P main (λb=>D b/\¬M b) (λX=>∃ρ fr w1 T e,R e w1/\fr.fn=f/\fr.leaving (ae P upd) w1 e/\x3 (da P upd) (λb=>D b/\¬M b) T (eh D M) w.heap.size base ρ fr [] w1 X)
  ⟨aY (Frame.enter P f args .normal) base,w,M⟩:=by
 have k:(da P upd).P.funcs[f]?=some fn:=bB m hk;exact ajO (C:=da P upd) (w0:=w0) (mG:=w) p k n o (i.rel q hg λe b hd=>.inl (l e b hd)) (λb h=>h)
  (λa b h=>by by_cases d:M b;exact .inr d;exact .inl ⟨h.2,d⟩) r j main base
theorem x3.closed{C:cM}{K:c7}{T:Nat->Question->Nat}{c ρ:Ren}{n0:Nat}{base:dZ}{X:aX}(h:x3 C K T c n0 base ρ fr cs w X)(M:c7):
 ie C (λb=>∃a,ρ.rel a b) M X.w:=h.world.closed M
end az
open RowKit
def bp(w w':aL):Prop:=∀b o v,w.cell? (.a b o)=some v->w'.cell? (.a b o)=some v
theorem bp.refl(w:aL):bp w w:=λ_ _ _ h=>h
variable{a:aL}
theorem bp.trans{b c:aL}(h:bp a b)(k:bp b c):bp a c:=λx o v e=>k x o v (h x o v e)
variable{w:aL}{b:Nat}{v:Value}
def fp{o:Nat}(h:w.cell? (.a b o)=some v):b<w.heap.size:=by grind[World.cell?]
variable{w':aL}
def bp.b7(h:cC w w'):bp w w':=λb o v e=>by rw[h.cell (p:=⟨b,o,none⟩) (fp e)];exact e
def a0{ap:Type}(w:aL)(dh:Nat)(R:aL->(Nat->Option Value)->ap->Prop)(v:Value)(xs:List ap):Prop:=
 ∃bP cap,v=.slice bP xs.length cap/\xs.length<=9223372036854775807/\
  ∀i(h:i<xs.length),∃b off,bP=some ⟨b,off,none⟩/\R w (λj=>w.cell? (.a b (off+i*dh+j))) xs[i]
def pG{ap:Type}(R:aL->(Nat->Option Value)->ap->Prop):Prop:=
 ∀w w' rd j8 x,bp w w'->(∀j v,rd j=some v->j8 j=some v)->R w rd x->R w' j8 x
variable{dh:Nat}{ap:Type}
theorem a0.mono{R:aL->(Nat->Option Value)->ap->Prop}(g:pG R)(hk:bp w w'){xs:List ap}(h:a0 w dh R v xs):a0 w' dh R v xs:=by obtain⟨f,cap,hv,c,k⟩:=h;refine⟨f,cap,hv,c,λi hi=>?_⟩;obtain⟨b,off,d,a⟩:=k i hi;exact⟨b,off,d,g _ _ _ _ _ hk (λj v e=>hk _ _ _ e) a⟩
theorem a0.nil(w:aL)(dh:Nat)(R:aL->(Nat->Option Value)->ap->Prop):a0 w dh R (.N) []:=
 ⟨none,0,U,Ab,AF⟩
def qG(_:aL)(rd:ual)(x:Int):Prop:=rd 0=some (.I x)
def B_(_:aL)(rd:ual)(s:ByteArray):Prop:=rd 0=some (.string s)/\s.size<=9223372036854775807
def Am(_:aL)(rd:ual)(x:Bool):Prop:=rd 0=some (.bool x)
def Ma(_:aL)(rd:ual)(t:ubp):Prop:=rd 0=some (.I t.1)/\rd 1=some (.I t.2)
theorem kw:pG qG:=λ_ _ _ _ _ _ a h=>a _ _ h
def QU:pG Am:=λ_ _ _ _ _ _ a h=>a _ _ h
def QV:pG B_:=λ_ _ _ _ _ _ a h=>⟨a _ _ h.1,h.2⟩
def pM:pG Ma:=λ_ _ _ _ _ _ a h=>⟨a _ _ h.1,a _ _ h.2⟩
abbrev eb(w:aL):=a0 w 1 qG
abbrev QW(w:aL):=a0 w 1 B_
abbrev Iq(w:aL):=a0 w 1 Am
abbrev gC(w:aL):=a0 w 2 Ma
structure aI where
 kind:Int
 bV:Int
 fy:List Int
 dT:List ByteArray
 dt:List Bool
structure tD(w:aL)(be vs aV:Value)(c:aI):Prop where
 fy:eb w be c.fy
 dT:QW w vs c.dT
 dt:Iq w aV c.dt
def wy(w:aL)(rd:ual)(c:aI):Prop:=
 ∃be vs aV,rd 0=some (.I c.kind)/\rd 1=some (.I c.bV)/\rd 2=some be/\rd 3=some vs/\rd 4=some aV/\tD w be vs aV c
variable{aV vs:Value}
theorem tD.mono(hk:bp w w'){be:Value}{c:aI}(h:tD w be vs aV c):tD w' be vs aV c:=
 ⟨h.fy.mono kw hk,h.dT.mono QV hk,h.dt.mono QU hk⟩
theorem tD.shape{be:Value}{c:aI}(h:tD w be vs aV c):∃d ci b a an e,be=.slice d c.fy.length ci/\vs=.slice b c.dT.length a/\aV=.slice an c.dt.length e:=by obtain⟨d,ci,i,-,-⟩:=h.fy;obtain⟨b,a,g,-,-⟩:=h.dT;obtain⟨an,e,f,-,-⟩:=h.dt;grind
def tE:pG wy:=λ_ _ _ _ _ hk a⟨be,vs,aV,h0,f,e,d,c,b⟩=>
 ⟨be,vs,aV,a _ _ h0,a _ _ f,a _ _ e,a _ _ d,a _ _ c,b.mono hk⟩
abbrev oy(w:aL):=a0 w 5 wy
def QX(w:aL)(rd:ual)(t:List aI):Prop:=∃v,rd 0=some v/\oy w v t
def Ir:pG QX:=λ_ _ _ _ _ hk a⟨v,h0,h⟩=>⟨v,a _ _ h0,h.mono tE hk⟩
abbrev Ca(w:aL):=a0 w 1 QX
structure Cb where
 op:Int
 a:Int
 v:Int
 s:ByteArray
def XV(_:aL)(rd:ual)(t:Cb):Prop:=
 rd 0=some (.I t.op)/\rd 1=some (.I t.a)/\rd 2=some (.I t.v)/\rd 3=some (.string t.s)/\t.s.size<=9223372036854775807
def akd:pG XV:=λ_ _ _ _ _ _ a h=>⟨a _ _ h.1,a _ _ h.2.1,a _ _ h.2.2.1,a _ _ h.2.2.2.1,h.2.2.2.2⟩
abbrev ake(w:aL):=a0 w 4 XV
def XW(w:aL)(rd:ual)(e:List Cb):Prop:=∃v,rd 0=some v/\ake w v e
def akf:pG XW:=λ_ _ _ _ _ hk a⟨v,h0,h⟩=>⟨v,a _ _ h0,h.mono akd hk⟩
abbrev akg(w:aL):=a0 w 1 XW
abbrev akh(w:aL):=a0 w 2 Ma
structure oY where
 op:Int
 a:Int
 b:Int
 Is:List (List Cb)
 Cc:List Int
 others:List Int
 It:List (Int×Int)
structure Fy(w:aL)(oz di nK bZ:Value)(n:oY):Prop where
 Is:akg w oz n.Is
 Cc:eb w di n.Cc
 others:eb w nK n.others
 It:akh w bZ n.It
variable{bZ di nK oz:Value}
theorem Fy.mono(hk:bp w w'){n:oY}(h:Fy w oz di nK bZ n):Fy w' oz di nK bZ n:=
 ⟨h.Is.mono akf hk,h.Cc.mono kw hk,h.others.mono kw hk,h.It.mono pM hk⟩
theorem Fy.shape{n:oY}(h:Fy w oz di nK bZ n):∃d ce e a b tC aa c,oz=.slice d n.Is.length ce/\di=.slice e n.Cc.length a/\nK=.slice b n.others.length tC/\bZ=.slice aa n.It.length c:=by obtain⟨d,ce,j,-,-⟩:=h.Is;obtain⟨e,a,i,-,-⟩:=h.Cc;obtain⟨b,tC,g,-,-⟩:=h.others;obtain⟨aa,c,f,-,-⟩:=h.It;grind
def XX(w:aL)(rd:ual)(n:oY):Prop:=
 ∃oz di nK bZ,rd 0=some (.I n.op)/\rd 1=some (.I n.a)/\rd 2=some (.I n.b)/\rd 3=some oz/\rd 4=some di/\rd 5=some nK/\rd 6=some bZ/\Fy w oz di nK bZ n
def QY:pG XX:=λ_ _ _ _ _ hk a⟨oz,di,nK,bZ,h0,e,d,c,b,g,f,h⟩=>
 ⟨oz,di,nK,bZ,a _ _ h0,a _ _ e,a _ _ d,a _ _ c,a _ _ b,a _ _ g,a _ _ f,h.mono hk⟩
abbrev QZ(w:aL):=a0 w 7 XX
abbrev Cd(t:ubp):Value:=.agg #[.I t.1,.I t.2]
variable{W w1:aL}
def XY(a:cC W w1):(∀b o,b<W.heap.size->w1.cell? (.a b o)=W.cell? (.a b o))/\(∀b o,b<W.heap.size->w1.frozen? ⟨b,o,none⟩=W.frozen? ⟨b,o,none⟩):=
 ⟨λb o h=>a.cell (p:=⟨b,o,none⟩) h,λb o h=>a.frozen (p:=⟨b,o,none⟩) h⟩
def after(B:Nat)(a:cC W w1)(c:B<=W.heap.size):(∀b o,b<B->w1.cell? (.a b o)=W.cell? (.a b o))/\(∀b o,b<B->w1.frozen? ⟨b,o,none⟩=W.frozen? ⟨b,o,none⟩)/\B<=w1.heap.size:=
 ⟨λb o h=>(XY a).1 b o AX,λb o h=>(XY a).2 b o AX,by have:=a.size;omega⟩
theorem Below.step{B:Nat}{w W w1:aL}(a:cC W w1)(h:Below B w W)(b:B<=W.heap.size):Below B w w1:=h.trans (a.mono b)
theorem bp.alloc(h:bp a w)(o:Obj):bp a (w.alloc o):=
 h.trans (bp.b7 ((vaa _ _).alloc Jb o))
theorem bp.drew(h:bp a w):bp a w.drew:=λb o v e=>by simpa using h b o v e
theorem bp.step{a W w1:aL}(h:bp a W)(b:cC W w1):bp a w1:=h.trans (bp.b7 b)
def ah(w:aL)(b:Nat)(cs:df)(T:uaa):Prop:=w.heap[b]?=some (.cells cs T (0,0))
variable{cs:df}{T:uaa}
def ah.lt(h:ah w b cs T):b<w.heap.size:=by grind[ah]
theorem ah.rules(h:ah w b cs T):(∀o,w.cell? (.a b o)=cs[o]?)/\(∀o,w.frozen? ⟨b,o,none⟩=false):=by grind[ah,World.cell?,World.frozen?]
def ah.all(h:ah w b cs T):(∀o,w.cell? (.a b o)=cs[o]?)/\(∀o,w.frozen? ⟨b,o,none⟩=false)/\b<w.heap.size:=⟨h.rules.1,h.rules.2,h.lt⟩
variable{B:Nat}
def ah.below(h:ah w b cs T)(a:Below B w w')(c:b<B):ah w' b cs T:=by unfold ah at *;rw[a.block b c];exact h
def ah.call(h:ah w b cs T)(a:cC w w'):ah w' b cs T:=h.below a h.lt
theorem ah.alloc(h:ah w b cs T)(o:Obj):ah (w.alloc o) b cs T:=
 h.call ((vaa _ _).alloc Jb o)
theorem ah.drew(h:ah w b cs T):ah w.drew b cs T:=h
def ah.new(w:aL)(cs:df)(T:uaa):ah (w.alloc (.cells cs T)) w.heap.size cs T:=by exact heap_alloc_new w _
def ah.set(h:ah w b cs T)(o:Nat)(v:Value):ah (w.setCell ⟨b,o,none⟩ v) b (cs.setIfInBounds o v) T:=by grind[ah,World.setCell]
def ah.fl(h:ah w b cs T){a:Addr}(c:b≠a.block)(v:Value):ah (w.setCell a v) b cs T:=by grind[ah,Below.heap_setCell]
structure pN(P:cf)(t e:uaa)(z:Value)(size bytes:Nat):Prop where
 ht:P.underlying t=some (.slice e)
 hi:(P.info? e).map (λi=>(i.zero,i.size,i.bytes))=some (some z,size,bytes)
 Mc:z.cells.size=size
 hsz:0<size
variable{size:Nat}{z:Value}{e t:uaa}{P:cf}{ops:du}{Q:uah}
def Md{bytes:Nat}(E:pN P t e z size bytes)(w:aL){rest:uba}{o:Oper}{a:Act}(B:o.guard=none)(s x:uap)(p:o.op=.call {callee:=.builtin .append,args:=#[s,x],argTypes:=#[t,t]})(base:Nat)(v:Value)(n:Nat)(xs:uad)(hs:a.eval s=v)(C:w.ownsRow base e size v n xs)(b m c:Nat)(news:uad)(l:a.eval x=.S b 0 m c)(r:news.length=m*size)(F:∀j u,news[j]?=some u->w.cell? (.a b j)=some u)(A:∀u∈news,u.oneCell'=true)(q:0<m)(D:(n+m)*bytes<=140737488355328)(J:n+m<=9223372036854775807)(d:base<=w.heap.size)(H:Nat)(y:w.heap.size=H)(h:∀g cap w',w'.ownsRow base e size (.S g 0 (n+m) cap) (n+m) (xs++news)->w.grownBy w' v.ownBlock->(v.ownBlock=some g\/g=H)->g<w'.heap.size->wpList P ops Q rest (a.put o.dst (.S g 0 (n+m) cap)) w'):
 wpList P ops Q (o::rest) a w:=by
 obtain⟨i,hi,k,hsz,f⟩:=vci E.hi;exact wpList_append_lies w B s x t p base e i z size bytes E.ht hi k hsz f E.Mc E.hsz v n xs hs C ⟨b,0,none⟩ m c news l r (λj u I=>by simp_all[vdz]) A q GU D d H y h
def aki{bytes:Nat}(E:pN P t e z size bytes)(w:aL){o:Oper}{a:Act}{K:uaf}{F:Prop}(B:o.guard=none)(s x:uap)(p:o.op=.call {callee:=.builtin .append,args:=#[s,x],argTypes:=#[t,t]})(base:Nat)(v:Value)(n:Nat)(xs:uad)(hs:a.eval s=v)(C:w.ownsRow base e size v n xs)(b m c:Nat)(news:uad)(l:a.eval x=.S b 0 m c)(r:news.length=m*size)(I:∀j u,news[j]?=some u->w.cell? (.a b j)=some u)(A:∀u∈news,u.oneCell'=true)(q:0<m)(D:(n+m)*bytes<=140737488355328)(L:n+m<=9223372036854775807)(d:base<=w.heap.size)(H:Nat)(y:w.heap.size=H)(h:∀g cap w',w'.ownsRow base e size (.S g 0 (n+m) cap) (n+m) (xs++news)->w.grownBy w' v.ownBlock->(v.ownBlock=some g\/g=H)->g<w'.heap.size->K (a.put o.dst (.S g 0 (n+m) cap)) w'):
 if Region.wanted o (yielded ops a.tmps)=true then Oper.wp P o a w K Q else F:=by
 obtain⟨i,hi,k,hsz,f⟩:=vci E.hi;exact step_append_lies w B s x t p base e i z size bytes E.ht hi k hsz f E.Mc E.hsz v n xs hs C ⟨b,0,none⟩ m c news l r (λj u J=>by simp_all[vdz]) A q GU D d H y h
def Iv(l:uae):List Value:=l.flatMap λt=>[.I t.1,.I t.2]
theorem XZ(l:uae)(i:Nat)(hi:i<l.length):(Iv l)[i*2]?=some (.I l[i].1)/\(Iv l)[i*2+1]?=some (.I l[i].2):=by induction l generalizing i with|nil=>grind|cons t r a=>cases i with|zero=>simp[Iv]|succ i=>grind[Iv]
variable{n:Nat}{xs:uad}
theorem Ce{base:Nat}{g cap:Nat}(h:w.ownsRow base e size (.S g 0 n cap) n xs)(j:Nat)(u:Value)(a:xs[j]?=some u):w.cell? (.a g j)=some u:=by have:=h.cells (g:=g) U j u a;rwa[vdz,vbr]at this
def gC.FB{base:Nat}{l:uae}(h:w.ownsRow base e 2 v l.length (Iv l))(a:l.length<=9223372036854775807):gC w v l:=by
 have b:=h;rcases b.2 with⟨rfl,h0⟩|⟨g,cap,bf,rfl,c⟩
 .grind[a0.nil]
 .refine⟨_,cap,U,a,λi hi=>⟨g,0,U,?_,?_⟩⟩
  .simp;grind[Ce,XZ]
  .simp;exact Ce h _ _ (XZ l i hi).2
def gQ{base:Nat}(h:w.ownsRow base e size v n xs):∃a c,v=.slice a n c:=by
 rcases h.2 with⟨rfl,rfl⟩|⟨g,cap,bf,rfl,-⟩
 .grind
 grind
def Iw{base:Nat}(h:w.ownsRow base e size v n xs)(b:Below B w w')(a:∀g,v.ownBlock=some g->g<B):w'.ownsRow base e size v n xs:=by
 refine⟨h.1,?_⟩;rcases h.2 with hn|⟨g,cap,bf,rfl,c,d,rest⟩
 .grind
 .refine .inr ⟨g,cap,bf,U,c,?_,rest⟩;rw[b.block g (a g U)];grind
def X0{base:Nat}(h:w.ownsRow base e size v n xs)(a:cC w w'):w'.ownsRow base e size v n xs:=
 Iw h a (λg hg=>(h.lt g hg).2)
theorem ah.grown{row:ubf}(h:ah w b cs T)(hg:w.grownBy w' row)(a:∀g,row=some g->b≠g):ah w' b cs T:=by unfold ah at *;rw[hg.block b (ah.lt h) AF];exact h
def Q7{bytes:Nat}(E:pN P t e z size bytes)(w:aL){rest:uba}{o:Oper}{a:Act}(hg:o.guard=none)(l c:uap)(d:o.op=Op.makeSlice t l c)(f kc:IntKind)(n:Nat)(j:a.eval l=.int f n)(m:a.eval c=.int kc n)(s:bytes*n<=281474976710656)(hn:n<=9223372036854775807)(hK:∀w' bf,ah w' w.heap.size bf e->bf.size=n*size->cC w w'->wpList P ops Q rest (a.put o.dst (.S w.heap.size 0 n n)) w'):
 wpList P ops Q (o::rest) a w:=by
 obtain⟨i,hi,h,hsz,r⟩:=vci E.hi;refine wpList_make_full w hg l c t d w.heap.size e i z size E.ht hi h hsz f kc _ _ n j m U U AF GU Jb ?_;intro w' p b;rcases p.2 with⟨h0,_⟩|⟨g,cap,bf,hv,_,q,_,_,hs,_⟩
 .grind
 .simp at hv;obtain⟨rfl,rfl⟩:=hv;exact hK w' bf q hs ⟨b.os,b.tape,b.output,b.size,λk hk=>b.block k hk Ab⟩
theorem a0.shape{R:aL->(Nat->Option Value)->ap->Prop}{xs:List ap}(h:a0 w dh R v xs):∃a cap,v=.slice a xs.length cap/\xs.length<=9223372036854775807:=by obtain⟨a,cap,hv,b,-⟩:=h;grind
def fF(T:uaa)(w:aL)(v:Value):Prop:=∀b off n c,v=.S b off n c->∃k,w.shape? b=some (T,k)
def fF.box(h:ah w b cs T)(off n c:Nat):fF T w (.S b off n c):=by intro f g a d e;simp at e;simp_all[ah,World.shape?]
def fF.FB{base:Nat}(h:w.ownsRow base T size v n xs):fF T w v:=by
 rcases h.2 with⟨rfl,_⟩|⟨g,cap,bf,rfl,_,hg,_⟩
 .intro b off n c e;grind
 simp_all[fF.box,ah]
def fF.call(h:fF T w v)(d:cC w w'):fF T w' v:=by
 intro b off n c e;obtain⟨k,hk⟩:=h b off n c e;refine⟨k,?_⟩;have a:b<w.heap.size:=by grind[World.shape?]
 simp[World.shape?]at hk⊢;rw[d.block b a];exact hk
def fF.set(h:fF T w v)(a:Addr)(u:Value):fF T (w.setCell a u) v:=by intro b off n c e;obtain⟨k,hk⟩:=h b off n c e;refine⟨k,?_⟩;simp[World.shape?,World.setCell,vbb]at hk⊢;grind
theorem fF.grown(h:fF T w v){row:ubf}(hg:w.grownBy w' row)(d:∀b off n c,v=.S b off n c->row≠some b):fF T w' v:=by
 intro b off n c e;obtain⟨k,hk⟩:=h b off n c e;refine⟨k,?_⟩;have a:b<w.heap.size:=by grind[World.shape?]
 simp[World.shape?]at hk⊢;rw[hg.block b a AF];exact hk
def FC(cs:df)(l:uae)(k:Nat):Prop:=∀j(h:j<l.length),j<k->cs[j*2]?=some (.I l[j].1)/\cs[j*2+1]?=some (.I l[j].2)
theorem FC.step{cs:df}{l:uae}{k:Nat}(h:FC cs l k)(hk:k<l.length)(hs:cs.size=l.length*2):
 FC ((cs.setIfInBounds (k*2) (.I l[k].1)).setIfInBounds (k*2+1) (.I l[k].2)) l (k+1):=by
 intro j a b;by_cases e:j=k
 .grind
 .have:=h j a AX;grind
def gC.eT{l:uae}(h:ah w b cs T)(c:l.length<=9223372036854775807)(a:FC cs l l.length)(cap:Nat):gC w (.S b 0 l.length cap) l:=by
 refine⟨_,cap,U,c,λi hi=>⟨b,0,U,?_,?_⟩⟩
 .simp;rw[h.rules.1];exact(a i hi hi).1
 .simp;rw[h.rules.1];exact(a i hi hi).2
namespace bX
open RowKit
structure jb(W W':aL):Prop where
 size:W.heap.size<=W'.heap.size
 cells:∀(b:Nat)(c:df)(e:uaa)(z:ubu),W.heap[b]?=some (Obj.cells c e z)->W'.heap[b]?=some (Obj.cells c e z)
variable{w:aL}
def jS{b:Nat}{o:Obj}(h:w.heap[b]?=some o):b<w.heap.size:=(vam.1 h).1
variable{W:aL}
def jb.below{W':aL}(h:cC W W'):jb W W':=⟨h.size,λb _ _ _ e=>(h.block b (jS e)).trans e⟩
theorem jb.trans{A B C:aL}(h:jb A B)(k:jb B C):jb A C:=⟨vad h.size k.size,λb c e z x=>k.cells b c e z (h.cells b c e z x)⟩
variable{l:Nat}
theorem jb.put{r r':Loop}(h:W.heap[l]?=some (.loop r)):jb W (W.putObj l (.loop r')):=
 ⟨Ab,λb c e z x=>by
  grind[World.putObj_heap_other]⟩
variable{nQ:Nat}
def wC(o:Obj)(h:nQ<=l):Below nQ W (W.putObj l o):=
 ⟨U,U,U,Ab,λk hk=>vas AX⟩
def Cj(n:Nat)(P:cf)(g:Nat)(lb:df)(Row:uau)(N nQ:Nat)(w0:aL):Prop:=
 ∀(l:Nat)(S:c7)(J:ubt)(W:aL),Below nQ w0 W->(∀t W,J t W->∀b,S b->b<W.heap.size)->(∀t W W',J t W->jb W W'->(∀b,S b->W'.heap[b]?=W.heap[b]?)->J t W')->
  (∀t x W1,J t W1->t<N->Row t W1 x->YieldAt Fence.wide (n-1) P l #[x] W1 λe W'=>e=.returned (.T)/\J (t+1) W'/\Below nQ W1 W')->
  J 0 W->CallsIn Fence.wide n P g (#[.func (.yield l) #[] #[]]++lb) W λe W'=>(∃v,e=.returned v)/\J N W'/\Below nQ W W'
def Yg{S:c7}{J:ubt}(a:∀t W,J t W->∀b,S b->b<W.heap.size)(d:∀t W W',J t W->jb W W'->(∀b,S b->W'.heap[b]?=W.heap[b]?)->J t W'):∀t W W',J t W->cC W W'->J t W':=
 λt W W' h c=>d t W W' h (.below c) λb hs=>c.block b (a t W h b hs)
structure IE(D D':c7)(W W':aL):Prop where
 less:∀b,b<W.heap.size->D' b->D b
 same:∀b,b<W.heap.size->¬D b->W'.heap[b]?=W.heap[b]?
def Mj(X:Prop)(L n:Nat)(P:cf)(g:Nat)(lb:df)(Row:uau)(N nQ:Nat)(w0:aL):Prop:=
 ∀(l:Nat)(S:c7)(J:ubk)(D:c7)(W:aL),Below nQ w0 W->(∀t D W,J t D W->∀b,S b\/D b->b<W.heap.size)->(∀t D W W',J t D W->jb W W'->(∀b,S b->W'.heap[b]?=W.heap[b]?)->J t D W')->
  (∀t x D W1,J t D W1->t<N->t<L->Row t W1 x->YieldAt Fence.wide (n-1) P l #[x] W1 λe W'=>e=.returned (.bool (decide (t+1≠L)))/\(∃D',J (t+1) D' W'/\(X->IE D D' W1 W'))/\Below nQ W1 W')->
  J 0 D W->CallsIn Fence.wide n P g (#[.func (.yield l) #[] #[]]++lb) W λe W'=>(∃v,e=.returned v)/\(∃D',J (min N L) D' W')/\Below nQ W W'
variable{w0:aL}{L N n:Nat}{P:cf}{lb:df}
def Cj.Yh{X:Prop}{g:Nat}{Row:uau}(h:Cj n P g lb Row N nQ w0)(v:N<L):Mj X L n P g lb Row N nQ w0:=by intro l S J D W p o m k s;rw[vdh AX];refine h l S (λt W=>∃D,J t D W) W p (λt W⟨D,h⟩ b j=>o t D W h b (.inl j)) (λt W W'⟨D,h⟩ a b=>⟨D,m t D W W' h a b⟩) (λt x u⟨D,a⟩ b c=>?_) ⟨D,s⟩;have:=k t x D u a b AX c;rw[show decide (t+1≠L)=true by simp;omega]at this;obtain⟨fn,tmps,aB,d,i,q⟩:=this;refine⟨fn,tmps,aB,d,i,q.mono ?_⟩;rintro e W' ⟨rfl,⟨D',r,-⟩,f⟩;exact⟨U,⟨D',r⟩,f⟩
variable{gf:Nat}{assign body:Code}{Q:uah}
def Yi{X:Prop}{id:Nat}(aG:0<L){g:uap}{p:Tmp}{a:Act}{Row:uau}(hg:a.eval g=.func (.func gf) #[] lb)(rJ:∀args w,(callFunc gf args).run P w=.ok (.enter gf args) w)(rO:Mj X L (n-1) P gf lb Row N nQ w0)(iH:Below nQ w0 w)(hn:nQ<=w.heap.size)(S:c7)(hS:∀b,S b->b<w.heap.size)(I:ubk)(q:∀t D W W',I t D W->jb W W'->(∀b,S b->W'.heap[b]?=W.heap[b]?)->I t D W')(hD:∀t D W,I t D W->∀b,D b->b<W.heap.size){D0:c7}(h0:I 0 D0 w)(B:ubm)(IF:∀t x a' W W',B t x a' W->jb W W'->(∀b,S b->W'.heap[b]?=W.heap[b]?)->B t x a' W')(IG:∀(l t:Nat)(x:Value)(D:c7)(W:aL)(K:uaf),I t D W->t<N->t<L->Row t W x->(∀a' W',cC W W'->B t x a' W'->K a' W')->
  assign.wpIn (Fence.wide.inRound l) (n-1-1) P (Exit.then K (λ_ _ _=>False)) {tmps:=a.tmps.setIfInBounds p x,defers:=[]} W)(x1:∀(l t:Nat)(x:Value)(a':Act)(D:c7)(W:aL),I t D W->t<N->t<L->B t x a' W->nQ<=W.heap.size->body.wpIn (Fence.wide.inRound l) (n-1-1) P (λe _ W'=>(e=if t+1=L then .exit id else .normal)/\KeepsOthers W W'/\Below nQ W W'/\∃D',I (t+1) D' W'/\(X->IE D D' W W')) a' W)(hdone:∀D W,I (min N L) D W->Below nQ w W->W.heap[w.heap.size]?=some (.deferred (some []))->Q (if L<=N then .exit id else .normal) {a with defers:={target:=.collected w.heap.size,args:=#[]}::a.defers} W):
 (Code.rangeFunc g #[p] assign body).wpIn Fence.wide n P Q a w:=by
 refine wpIn_rangeFunc ?_;intro fn ib;obtain⟨rec,z⟩:∃rec:LoopState->Option Code->Loop,rec=λst U=>{state:=st,pending:=U,fn,tmps:=a.tmps,params:=#[p],assign,body,defers:=w.heap.size}:=⟨_,rfl⟩;obtain⟨j,Rb⟩:∃j,(w.alloc (.deferred (some []))).alloc (.loop (rec .ready none))=j:=⟨_,rfl⟩;have If:j.heap[w.heap.size+1]?=some (.loop (rec .ready none)):=by grind[World.alloc_heap_new,World.size_alloc]
 have Rc:j.heap[w.heap.size]?=some (.deferred (some [])):=by grind[Below.heap_alloc,World.alloc_heap_new]
 have y:cC w j:=by rw[<-Rb];exact((vaa _ w).alloc Jb _).alloc Ab _
 refine⟨w.heap.size+1,[{target:=.collected w.heap.size,args:=#[]}],j,{target:=.fn (.func gf) lb,args:=#[.func (.yield (w.heap.size+1)) #[] #[]]},j,gf,#[.func (.yield (w.heap.size+1)) #[] #[]]++lb,j,?_,?_,λ_ _=>trivial,?_,λh=>Cl,?_⟩
 .simp_all[run_enterLoop_outer]
 .simp only[resolve,hg];simp[go_sem]
 .grind[invoke]
 .refine(rO (w.heap.size+1) (λb=>S b\/b=w.heap.size\/b=w.heap.size+1) (λt D' W=>((∃D,I t D W/\∀b,D' b↔D b\/b=w.heap.size+1)/\nQ<=W.heap.size/\w.heap.size<=W.heap.size)/\W.heap[w.heap.size+1]?=some (.loop (rec (if t=L then .done else .ready) (if t=L then some (.exit id)else none)))/\W.heap[w.heap.size]?=some (.deferred (some []))) (λb=>D0 b\/b=w.heap.size+1) j (iH.trans (y.mono hn)) ?_ ?_ ?_ ⟨⟨⟨D0,q _ _ _ _ h0 (.below y) (λb hs=>y.block b (hS b hs)),λb=>Iff.rfl⟩,AF,y.size⟩,by rw[vbp AX,vbp AX];exact If,Rc⟩).mono ?_
  .rintro t D' W ⟨⟨⟨D,hi,hd⟩,-,hw⟩,d,hk⟩ b c;have h1:=jS d;rcases c with(c|c|c)|c
   .have:=hS b c;omega
   .omega
   .omega
   .rcases(hd b).1 c with c|c
    .exact hD t D W hi b c
    .omega
  .rintro t D' W W' ⟨⟨⟨D,hi,hd⟩,Aj,hw⟩,d,hk⟩ M hs;exact⟨⟨⟨D,q t D W W' hi M λb c=>hs b (.inl c),hd⟩,vad Aj M.size,vad hw M.size⟩,(hs _ (.inr Kj)).trans d,(hs _ (.inr KB)).trans hk⟩
  .rintro t x R W ⟨⟨⟨D,hi,hd⟩,qI,x5⟩,d,hk⟩ s Re cm;rw[vbp AX,vbp AX]at d;have V:∀(W:aL)(o:Obj) b,S b->(W.putObj (w.heap.size+1) o).heap[b]?=W.heap[b]?:=λW o b hs=>vas AF;have J:=run_yield (P:=P) (args:=#[x]) d AF;rw[z]at J;refine⟨fn,_,assign,body,J,roundIn_of_wpIn ib ?_⟩;clear J;have e1:(#[p].zip #[x]).foldl (λtmps(u:Tmp×Value)=>tmps.setIfInBounds u.1 u.2) a.tmps=a.tmps.setIfInBounds p x:=Ab;refine Eq.mp (vbx (λT=>Code.wpIn (Fence.wide.inRound (w.heap.size+1)) (n-1-1) P assign _ {tmps:=T,defers:=[]} W) e1.symm) ?_;refine IG _ t x D W _ hi s Re cm ?_;intro a' IH k Rg;have F:=(k.block _ (jS d)).trans d;have eo:=(k.block _ (jS hk)).trans hk;refine⟨_,run_beginRound F AF,?_⟩;have jG:(IH.putObj (w.heap.size+1) (.loop {rec .ready none with state:=.busy})).heap[w.heap.size+1]?=some (.loop {rec .ready none with state:=.busy}):=vde (jS F);have jJ:(IH.putObj (w.heap.size+1) (.loop {rec .ready none with state:=.busy})).heap[w.heap.size]?=some (.deferred (some [])):=(vas AX).trans eo;refine wpIn_mono (x1 _ t x a' D _ (q _ _ _ _ (q _ _ _ _ hi (.below k) (λb hs=>k.block b AF)) (.put F) (V _ _)) s Re (IF _ _ _ _ _ Rg (.put F) (V _ _)) AF) ?_;rintro e bI o5 ⟨C,Z,rP,D',As,Y⟩;have H:=Z.same _ _ jG rfl;have II:=Z.same _ _ jJ rfl;have hsz:=k.size;have O:=rP.size;simp at O;have m:=run_endRound (P:=P) (if t+1=L then some (.exit id)else none) H;have uV:=jb.put (r':=rec (if t+1=L then .done else .ready) (if t+1=L then some (.exit id)else none)) H;obtain⟨f,Yj⟩:∃f,o5.putObj (w.heap.size+1) (.loop (rec (if t+1=L then .done else .ready) (if t+1=L then some (.exit id)else none)))=f:=⟨_,rfl⟩;replace m:(Instr.endRound (w.heap.size+1) (if t+1=L then some (.exit id)else none)).run P o5=.ok (.bool (decide (t+1≠L))) f:=by rw[<-Yj];rw[z]at m⊢;rw[m];by_cases i:t+1=L<;>simp[i]
   have m_:(∃E,(((∃D,I (t+1) D f/\∀b,E b↔D b\/b=w.heap.size+1)/\nQ<=f.heap.size/\w.heap.size<=f.heap.size)/\f.heap[w.heap.size+1]?=some (.loop (rec (if t+1=L then .done else .ready) (if t+1=L then some (.exit id)else none)))/\f.heap[w.heap.size]?=some (.deferred (some [])))/\(X->IE R E W f))/\Below nQ W f:=by
    rw[<-Yj];refine⟨⟨λb=>D' b\/b=w.heap.size+1,⟨⟨⟨D',q _ _ _ _ As uV (V _ _),λb=>Iff.rfl⟩,A2,A2⟩,vde (jS H),(vas AX).trans II⟩,λk8=>⟨λb c h=>?_,λb c h=>?_⟩⟩,?_⟩
    .exact(hd b).2 (h.imp_left λh=>(Y k8).less b A2 h)
    .have r:¬b=w.heap.size+1:=λe=>h ((hd b).2 (.inr e));have mJ:¬D b:=λe=>h ((hd b).2 (.inl e));rw[vas r,(Y k8).same b A2 mJ,vas r,k.block b c]
    exact((k.mono qI).trans ((wC _ AX).trans rP)).trans (wC _ AX)
   by_cases i:t+1=L
   .rw[vbv i]at m C;subst C;exact⟨_,_,m,rfl,m_⟩
   .rw[vbp i]at m C;subst C;exact⟨_,_,m,rfl,m_⟩
  .rintro e W2 ⟨⟨v,rfl⟩,⟨D',⟨⟨D,hi,-⟩,-⟩,d,hk⟩,c⟩;have A:=hdone _ _ (q _ _ _ _ hi (.put (r':={rec (if min N L=L then .done else .ready) (if min N L=L then some (.exit id)else none)with state:=.exhausted}) d) λb hs=>vas AF) (((y.mono hn).trans c).trans (wC _ AX)) ((vas AX).trans hk);have b8:=run_endLoop (P:=P) d (by rw[z];by_cases i:min N L=L<;>simp[i])
   by_cases i:L<=N
   .rw[vbv i]at A;refine⟨some (.exit id),_,b8.trans ?_,wpIn_exit A⟩;rw[z];simp[vdb i]
   .rw[vbp i]at A;refine⟨none,_,b8.trans ?_,A⟩;rw[z];simp;omega
def akI{g:uap}{p:Tmp}{a:Act}{Row:uau}(hg:a.eval g=.func (.func gf) #[] lb)(m:∀args w,(callFunc gf args).run P w=.ok (.enter gf args) w)(k:Cj (n-1) P gf lb Row N nQ w0)(iH:Below nQ w0 w)(hn:nQ<=w.heap.size)(S:c7)(hS:∀b,S b->b<w.heap.size)(I:ubt)(u:∀t W W',I t W->jb W W'->(∀b,S b->W'.heap[b]?=W.heap[b]?)->I t W')(h0:I 0 w)(d:ubm)(z:∀t x a' W W',d t x a' W->jb W W'->(∀b,S b->W'.heap[b]?=W.heap[b]?)->d t x a' W')(y:∀(l t:Nat)(x:Value)(W:aL)(K:uaf),I t W->t<N->Row t W x->(∀a' W',cC W W'->d t x a' W'->K a' W')->
  assign.wpIn (Fence.wide.inRound l) (n-1-1) P (Exit.then K (λ_ _ _=>False)) {tmps:=a.tmps.setIfInBounds p x,defers:=[]} W)(j:∀(l t:Nat)(x:Value)(a':Act)(W:aL),I t W->t<N->d t x a' W->nQ<=W.heap.size->body.wpIn (Fence.wide.inRound l) (n-1-1) P (λe _ W'=>e=.normal/\KeepsOthers W W'/\Below nQ W W'/\I (t+1) W') a' W)(hdone:∀W,I N W->Below nQ w W->W.heap[w.heap.size]?=some (.deferred (some []))->Q .normal {a with defers:={target:=.collected w.heap.size,args:=#[]}::a.defers} W):
 (Code.rangeFunc g #[p] assign body).wpIn Fence.wide n P Q a w:=by
 refine Yi (X:=False) (L:=N+1) (id:=0) AX hg m (k.Yh Jz) iH hn S hS (λt D W=>I t W/\∀b,¬D b) (λt D W W' h a b=>⟨u t W W' h.1 a b,h.2⟩) (λt D W h b s=>(h.2 b s).elim) (D0:=λ_=>False) ⟨h0,λ_ h=>h⟩ d z (λl t x D W K c f _=>y l t x W K c.1 f) (λl t x a' D W c f _ i v=>?_) (λD W c f i=>?_)
 .rw[vbp AX];exact wpIn_mono (j l t x a' W c.1 f i v) λe a W'⟨r,q,k3,o⟩=>⟨r,q,k3,D,⟨o,c.2⟩,False.elim⟩
 .rw[vbp AX];rw[vdh AX]at c;exact hdone W c.1 f i
end bX
namespace az
def ak_(Q:cf)(main:Bool)(K:c7)(post:aX->Prop)(Y X:aX):Prop:=
 ¬post X/\∃w' g1 w1 es,kv K X w'/\stepG Q main X.g w'=.go g1 w1 es/\Y=⟨g1,w1,grown X.mine w' w1⟩
variable{K:c7}
def i_.acc{Q:cf}{main:Bool}{post:aX->Prop}{X:aX}(h:i_ Q main K post X):Acc (ak_ Q main K post) X:=by induction h with|done h=>exact⟨_,λY a=>absurd h a.1⟩|step _ _ b=>refine⟨_,λY a=>?_⟩;obtain⟨_,w',g1,w1,es,c,hs,rfl⟩:=a;grind
def i_.next{Q:cf}{main:Bool}{post:aX->Prop}{X:aX}(h:i_ Q main K post X):
 post X\/∀w',kv K X w'->∃g1 w1 es,stepG Q main X.g w'=.go g1 w1 es/\QL K X.mine w' g1 w1 es/\i_ Q main K post ⟨g1,w1,grown X.mine w' w1⟩:=by
 cases h with|done h=>grind|step ok h=>refine .inr λw' a=>?_;obtain⟨g1,w1,es,hs,hg⟩:=ok w' a;grind
def kv.others{X:aX}{w w1:aL}(h:kv K X w)(hk:∀b,K b\/X.mine b->w1.heap[b]?=w.heap[b]?)(hs:w.heap.size<=w1.heap.size)(c:w1.os.env=w.os.env):kv K X w1:=
 ⟨λb a=>(hk b a).trans (h.heap b a),vad h.size hs,c.trans h.env⟩
theorem kv.refl(K:c7)(X:aX):kv K X X.w:=⟨λ_ _=>U,vac _,U⟩
def yb{ap:Type}(r:ap->ap->Prop)(l' l:List ap):Prop:=∃i x y,l[i]?=some x/\r y x/\l'=l.set i y
theorem ala{ap:Type}{r:ap->ap->Prop}{a:ap}(e:Acc r a):∀{l:List ap},Acc (yb r) l->Acc (yb r) (a::l):=by induction e with|intro a _ f=>intro l d;induction d with|intro l c ihl=>refine⟨_,?_⟩;rintro g ⟨i,x,y,hi,b,rfl⟩;cases i with|zero=>simp at hi;subst hi;exact f y b ⟨l,c⟩|succ i=>simp at hi;exact ihl _ ⟨i,x,y,hi,b,U⟩
def alb{ap:Type}{r:ap->ap->Prop}:∀(l:List ap),(∀x∈l,Acc r x)->Acc (yb r) l:=by intro l;induction l with|nil=>intro _;exact⟨_,λb⟨i,x,y,hi,_⟩=>AF⟩|cons a l c=>grind[ala]
end az
namespace bo
open Conc ConcM az
structure e_ where
 Lo:Type
 aN:Type
 a6:aN->Nat
 pS:aN->List Lo->Prop
 dO:Lo->aN->aN->Prop
 K:Nat->Prop
 hX:Nat->Prop
 tN:aN->aL->Prop
 tok:Lo->Bool
 deaf:Lo->Nat
 past:Lo->Bool
 Left:Lo->Prop
 zero:Lo->Prop
 oD:Lo->aN->Prop
 hV:Loc->Prop
 e9:Loc->Prop
 mu:Addr
 wg:Addr
 pa:Lo->Goroutine->Goroutine->Prop
structure e_.Good(Z:e_):Prop where
 refl:∀ ℓ γ,Z.dO ℓ γ γ
 trans:∀ ℓ a b c,Z.dO ℓ a b->Z.dO ℓ b c->Z.dO ℓ a c
 less:∀ ℓ γ ai,Z.dO ℓ γ ai->ai=γ\/Z.a6 ai<Z.a6 γ
 mt:∀γ w w',(∀b,Z.hX b->w'.heap[b]?=w.heap[b]?)->Z.tN γ w->Z.tN γ w'
 nb:∀b,Z.K b->¬Z.hX b
 one:∀γ(ls:List Z.Lo)(i j:Nat) a b,Z.pS γ ls->ls[i]?=some a->ls[j]?=some b->Z.tok a=true->Z.tok b=true->i=j
 ow:∀γ ls,Z.pS γ ls->∃(j:Nat)(l:Z.Lo),ls[j]?=some l/\¬Z.Left l/\¬Z.oD l γ
 zero:∀γ(ls:List Z.Lo)(j:Nat) l,Z.pS γ ls->ls[j]?=some l->Z.zero l->j=0
 FR:∀l,Z.hV l->∃b,fq l=some b/\Z.hX b
 Cq:∀l,Z.e9 l->∃b,fq l=some b/\Z.hX b
 tM:∀l,Z.hV l->¬Z.e9 l
section
variable(Z:e_)
def ij(l:Z.Lo)(γ:Z.aN):Prop:=∃(ls:List Z.Lo)(i:Nat),ls[i]?=some l/\Z.pS γ ls
structure dP(l:Z.Lo)(γ:Z.aN)(X:aX)(w:aL):Prop where
 rely:kv Z.K X w
 mt:Z.tN γ w
 sees:ij Z l γ
 later:OsLater X.w.os w.os
 output:w.output=X.w.output
 tape:w.tape=X.w.tape
def uX(e:Event):Prop:=e.loc=.mark .disable\/e.loc=.mark .enable\/(∃a,e.loc=.mark (.acquire a))\/(∃a,e.loc=.mark (.releaseMerge a))\/(e.write=true/\∃b,fq e.loc=some b/\Z.hX b)
def Cr(l:Z.Lo)(g g1:uai)(es:uaq):Prop:=(∃e∈es,uX Z e)\/Z.pa l g g1
def tO(l:Z.Lo)(mine:c7)(d:Nat)(e:Event):Prop:=
 match e.loc with
 | .cell a=>(e.sync=false/\((Z.K a.block/\e.write=false)\/mine a.block\/(Z.hV (.cell a)/\Z.tok l=true))/\Z.past l=false)\/(e.sync=true/\Z.e9 (.cell a)/\0<d)
 | .obj r=>e.sync=false/\((Z.K r/\e.write=false)\/mine r)/\Z.past l=false
 | .mark m=>AA m\/(Z.zero l/\∃a,Z.e9 (.cell a)/\(m=.read a\/m=.write a))
 | .output=>True
 | .goroutines=>False
def oE(l:Z.Lo)(mine:c7):Nat->List Event->Prop
 | _,[]=>True
 |d,e::r=>tO Z l mine d e/\oE l mine (AB d e) r
structure lF(mine:c7)(w' w1:aL):Prop where
 kept:∀b,b<w'.heap.size->¬mine b->¬Z.hX b->w1.heap[b]?=w'.heap[b]?
 size:w'.heap.size<=w1.heap.size
 os:OsLater w'.os w1.os
 output:w1.output=w'.output
 tape:w1.tape=w'.tape
structure Quiet(l:Z.Lo)(X:aX)(w':aL)(g1:uai)(w1:aL)(es:uaq):Prop where
 run:g1.status=.running
 keep:lF Z X.mine w' w1
 sh:∀b,b<w'.heap.size->Z.hX b->w1.heap[b]?=w'.heap[b]?
 evs:oE Z l (grown X.mine w' w1) (Z.deaf l) es.toList
 low:¬Cr Z l X.g g1 es
def Cs(l:Z.Lo)(γ:Z.aN)(l1:Z.Lo)(bF:Z.aN):Prop:=
 Z.a6 bF<Z.a6 γ/\∀(ls:List Z.Lo)(i:Nat),ls[i]?=some l->Z.pS γ ls->Z.pS bF (ls.set i l1)/\∀(j:Nat)(la:Z.Lo),j≠i->ls[j]?=some la->Z.dO la γ bF
def FT(m:Mark):Event:=⟨.mark m,false,true⟩
def Says(l l1:Z.Lo)(mine:c7)(es:uaq):Prop:=
 (Z.tok l1=Z.tok l/\Z.past l1=Z.past l/\Z.deaf l1=deafBehind (Z.deaf l) es/\oE Z l mine (Z.deaf l) es.toList)\/
 (es=#[FT (.acquire Z.mu)]/\Z.deaf l=0/\Z.deaf l1=0/\Z.tok l=false/\Z.tok l1=true/\Z.past l1=Z.past l)\/
 (es=#[FT (.releaseMerge Z.mu)]/\Z.deaf l=0/\Z.deaf l1=0/\Z.tok l=true/\Z.tok l1=false/\Z.past l1=Z.past l)\/
 (es=#[FT (.releaseMerge Z.wg)]/\Z.deaf l=0/\Z.deaf l1=0/\Z.tok l1=Z.tok l/\Z.past l1=true)
structure YJ(Q:cf)(l:Z.Lo)(γ:Z.aN)(X:aX)(w':aL)(g1:uai)(w1:aL)(es:uaq)(l1:Z.Lo)(bF:Z.aN):Prop where
 run:g1.status=.running
 Mx:Cr Z l X.g g1 es
 keep:lF Z X.mine w' w1
 mt:Z.tN bF w1
 AD:Cs Z l γ l1 bF
 says:Says Z l l1 (grown X.mine w' w1) es
 I0:mayWake Q X.g=true\/∀la,Z.oD la γ->Z.oD la bF
structure Rw(l:Z.Lo)(γ:Z.aN)(X:aX)(w':aL)(g1 child:uai)(w1:aL)(es:uaq)(l1:Z.Lo)(bF:Z.aN)(lc:Z.Lo):Prop where
 run:g1.status=.running
 YK:child.status=.running
 keep:lF Z X.mine w' w1
 mt:Z.tN bF w1
 a6:Z.a6 bF<Z.a6 γ
 AD:∀(ls:List Z.Lo),ls[0]?=some l->Z.pS γ ls->Z.pS bF (ls.set 0 l1++[lc])/\∀(j:Nat)(la:Z.Lo),j≠0->ls[j]?=some la->Z.dO la γ bF
 evs:oE Z l (grown X.mine w' w1) 0 es.toList
 deaf:Z.deaf l=0/\deafBehind 0 es=0/\Z.deaf l1=0/\Z.deaf lc=0
 tok:Z.tok l1=Z.tok l/\Z.tok lc=false
 past:Z.past l1=Z.past l/\Z.past lc=false
 I0:∀la,Z.oD la γ->Z.oD la bF
 stays:¬Z.Left l1/\¬Z.Left lc
def Comes(Q:cf)(Stop:Bool->Z.Lo->aX->Prop)(m:Bool)(l:Z.Lo)(γ:Z.aN)(X:aX)(w':aL)(c:Z.Lo×Z.aN×Z.Lo):Prop:=
 (∃g1 w1 es,stepG Q m X.g w'=.go g1 w1 es/\Quiet Z l X w' g1 w1 es)\/
 (∃g1 w1 es,stepG Q m X.g w'=.go g1 w1 es/\YJ Z Q l γ X w' g1 w1 es c.1 c.2.1/\(Z.Left c.1->m=false/\Stop m c.1 ⟨g1,w1,grown X.mine w' w1⟩))\/
 (stepG Q m X.g w'=.go {X.g with status:=.blocked} w' #[]/\X.g.offers=none/\Z.oD l γ/\¬Z.pa l X.g {X.g with status:=.blocked})\/
 (m=true/\∃g1 child w1 es,stepG Q m X.g w'=.spawn g1 child w1 es/\Rw Z l γ X w' g1 child w1 es c.1 c.2.1 c.2.2)
inductive bg(Q:cf)(Stop:Bool->Z.Lo->aX->Prop):Bool->Z.Lo->Z.aN->aX->Prop
 |stop {m:Bool} {l:Z.Lo} {γ:Z.aN} {X:aX} (h:Stop m l X):bg Q Stop m l γ X
 |step {m:Bool} {l:Z.Lo} {γ:Z.aN} {X:aX} (hs:X.g.status=.running) (ch:aL->Z.aN->Z.Lo×Z.aN×Z.Lo)
  (ok:∀w' ai,Z.dO l γ ai->dP Z l ai X w'->Comes Z Q Stop m l ai X w' (ch w' ai))
  (hq:∀w' ai g1 w1 es,Z.dO l γ ai->dP Z l ai X w'->stepG Q m X.g w'=.go g1 w1 es->g1.status=.running->¬Cr Z l X.g g1 es->bg Q Stop m l ai ⟨g1,w1,grown X.mine w' w1⟩)
  (he:∀w' ai g1 w1 es,Z.dO l γ ai->dP Z l ai X w'->stepG Q m X.g w'=.go g1 w1 es->Cr Z l X.g g1 es->bg Q Stop m (ch w' ai).1 (ch w' ai).2.1 ⟨g1,w1,grown X.mine w' w1⟩)
  (hm:∀w' ai g1 child w1 es,Z.dO l γ ai->dP Z l ai X w'->stepG Q m X.g w'=.spawn g1 child w1 es->bg Q Stop m (ch w' ai).1 (ch w' ai).2.1 ⟨g1,w1,grown X.mine w' w1⟩)
  (hc:∀w' ai g1 child w1 es,Z.dO l γ ai->dP Z l ai X w'->stepG Q m X.g w'=.spawn g1 child w1 es->bg Q Stop false (ch w' ai).2.2 (ch w' ai).2.1 ⟨child,w1,λ_=>False⟩):bg Q Stop m l γ X
end
section
variable{Z:e_}{Q:cf}{Stop:Bool->Z.Lo->aX->Prop}{m:Bool}{l:Z.Lo}{γ:Z.aN}{X:aX}
inductive Then(Q:cf)(Stop:Bool->Z.Lo->aX->Prop)(m:Bool)(l:Z.Lo)(γ:Z.aN)(X:aX)(w':aL):Prop
 |quiet {g1:uai} {w1:aL} {es:uaq} (hs:stepG Q m X.g w'=.go g1 w1 es) (hq:Quiet Z l X w' g1 w1 es) (h:bg Z Q Stop m l γ ⟨g1,w1,grown X.mine w' w1⟩)
 |turn {g1:uai} {w1:aL} {es:uaq} {l1:Z.Lo} {bF:Z.aN} (hs:stepG Q m X.g w'=.go g1 w1 es) (ht:YJ Z Q l γ X w' g1 w1 es l1 bF) (hl:Z.Left l1->m=false/\Stop m l1 ⟨g1,w1,grown X.mine w' w1⟩) (h:bg Z Q Stop m l1 bF ⟨g1,w1,grown X.mine w' w1⟩)
 |wait (hs:stepG Q m X.g w'=.go {X.g with status:=.blocked} w' #[]) (ho:X.g.offers=none) (hw:Z.oD l γ) (hp:¬Z.pa l X.g {X.g with status:=.blocked})
 |born {g1 child:uai} {w1:aL} {es:uaq} {l1:Z.Lo} {bF:Z.aN} {lc:Z.Lo} (hm:m=true) (hs:stepG Q m X.g w'=.spawn g1 child w1 es) (hb:Rw Z l γ X w' g1 child w1 es l1 bF lc)
  (h:bg Z Q Stop m l1 bF ⟨g1,w1,grown X.mine w' w1⟩) (hc:bg Z Q Stop false lc bF ⟨child,w1,λ_=>False⟩)
open Classical in
def bg.mk(hs:X.g.status=.running)(h:∀w' a,Z.dO l γ a->dP Z l a X w'->Then Q Stop m l a X w'):bg Z Q Stop m l γ X:=by
 have pick:∀w' a,∃c:Z.Lo×Z.aN×Z.Lo,Z.dO l γ a->dP Z l a X w'->Comes Z Q Stop m l a X w' c/\
  (∀g1 w1 es,stepG Q m X.g w'=.go g1 w1 es->g1.status=.running->¬Cr Z l X.g g1 es->bg Z Q Stop m l a ⟨g1,w1,grown X.mine w' w1⟩)/\
  (∀g1 w1 es,stepG Q m X.g w'=.go g1 w1 es->Cr Z l X.g g1 es->bg Z Q Stop m c.1 c.2.1 ⟨g1,w1,grown X.mine w' w1⟩)/\
  (∀g1 child w1 es,stepG Q m X.g w'=.spawn g1 child w1 es->bg Z Q Stop m c.1 c.2.1 ⟨g1,w1,grown X.mine w' w1⟩/\bg Z Q Stop false c.2.2 c.2.1 ⟨child,w1,λ_=>False⟩):=by
  intro w' a;by_cases i:Z.dO l γ a/\dP Z l a X w'
  .cases h w' a i.1 i.2 with|quiet hs hq h=>exact⟨(l,a,l),λ_ _=>⟨.inl AF,AF,AF,AF⟩⟩|turn hs ht g h=>exact⟨(_,_,l),λ_ _=>⟨.inr (.inl ⟨_,_,_,hs,ht,g⟩),λg1 w1 es e _ hn=>(by rw[hs]at e;cases e;exact absurd ht.Mx hn),AF,AF⟩⟩|wait hs p o n=>exact⟨(l,a,l),λ_ _=>⟨.inr AF,AF,λg1 w1 es e g=>(by rw[hs]at e;cases e;exact g.elim AF AF),AF⟩⟩|born j hs k h q=>exact⟨(_,_,_),λ_ _=>⟨.inr (.inr (.inr ⟨j,_,_,_,_,hs,k⟩)),AF,AF,AF⟩⟩
  .exact⟨(l,a,l),AF⟩
 obtain⟨ch,b⟩:=vdq.1 λx:aL×Z.aN=>pick x.1 x.2;exact .step hs (λw' a=>ch (w',a)) AF (λw' a g1 w1 es f d=>(b (w',a) f d).2.1 g1 w1 es) (λw' a g1 w1 es f d=>(b (w',a) f d).2.2.1 g1 w1 es)
  (λw' a g1 c w1 es f d e=>((b (w',a) f d).2.2.2 g1 c w1 es e).1) AF
def bg.next(h:bg Z Q Stop m l γ X):Stop m l X\/(X.g.status=.running/\∀w' a,Z.dO l γ a->dP Z l a X w'->Then Q Stop m l a X w'):=by
 cases h with
 |stop h=>grind
 |step hs ch ok hq i k n=>
  refine .inr ⟨hs,λw' a d b=>?_⟩;rcases ok w' a d b with⟨g1,w1,es,e,q⟩|⟨g1,w1,es,e,q,g⟩|⟨e,f,q,j⟩|⟨em,g1,c,w1,es,e,q⟩
  .exact .quiet e q (hq w' a g1 w1 es d b e q.run q.low)
  .exact .turn e q g (i w' a g1 w1 es d b e q.Mx)
  .exact .wait e f q j
  .exact .born em e q AF AF
def bg.iv(G:Z.Good)(h:bg Z Q Stop m l γ X){e:Z.aN}(d:Z.dO l γ e):bg Z Q Stop m l e X:=by
 cases h with
 |stop h=>exact .stop h
 |step hs ch ok hq g f i=>
  exact .step hs ch (λw' a b=>ok w' a (G.trans _ _ _ _ d b)) (λw' a g1 w1 es b=>hq w' a g1 w1 es (G.trans _ _ _ _ d b)) (λw' a g1 w1 es b=>g w' a g1 w1 es (G.trans _ _ _ _ d b))
   (λw' a g1 c w1 es b=>f w' a g1 c w1 es (G.trans _ _ _ _ d b)) (λw' a g1 c w1 es b=>i w' a g1 c w1 es (G.trans _ _ _ _ d b))
def My(Z:e_)(Q:cf)(Stop:Bool->Z.Lo->aX->Prop)(y x:Bool×Z.Lo×Z.aN×aX):Prop:=
 ¬Stop x.1 x.2.1 x.2.2.2/\y.1=x.1/\y.2.1=x.2.1/\y.2.2.1=x.2.2.1/\∃w' g1 w1 es,dP Z x.2.1 x.2.2.1 x.2.2.2 w'/\stepG Q x.1 x.2.2.2.g w'=.go g1 w1 es/\g1.status=.running/\¬Cr Z x.2.1 x.2.2.2.g g1 es/\y.2.2.2=⟨g1,w1,grown x.2.2.2.mine w' w1⟩
def bg.acc(G:Z.Good)(h:bg Z Q Stop m l γ X):Acc (My Z Q Stop) (m,l,γ,X):=by induction h with|stop h=>exact⟨_,λy a=>absurd h a.1⟩|step hs ch ok hq q p r o _ _ _=>refine⟨_,λy a=>?_⟩;obtain⟨_,e,d,c,w',g1,w1,es,f,hst,hrun,g,b⟩:=a;obtain⟨n,k,j,i⟩:=y;simp only at e d c b;subst e d c b;exact o w' _ g1 w1 es (G.refl _ _) f hst hrun g
end
open ConcN
def uY(P:cf)(m:Machine)(t:Trace)(q:Machine->Trace->Prop):Prop:=∃n m' cN,runNT P n m t=(.next m',cN)/\q m' cN
theorem uY.refl{P:cf}{m:Machine}{t:Trace}{q:Machine->Trace->Prop}(h:q m t):uY P m t q:=⟨0,m,t,U,h⟩
theorem uY.step{P:cf}{m a:Machine}{t:Trace}{ops:Array MemOp}{q:Machine->Trace->Prop}(hs:stepT P m=(.next a,ops))(h:uY P a (t++ops) q):uY P m t q:=
 let⟨n,b,gv,d,c⟩:=h
 ⟨n+1,b,gv,by grind[runNT_succ_next],c⟩
theorem YL{P:cf}:∀(n:Nat){k:Nat}{m a:Machine}{t cN:Trace},runNT P n m t=(.next a,cN)->runNT P (n+k) m t=runNT P k a cN
 |0,k,m,a,t,cN,h=>by simp_all[runNT]
 |n+1,k,m,a,t,cN,h=>by rw[show n+1+k=(n+k)+1 from AX];cases hs:stepT P m with|mk s ops=>cases s with|next m1=>rw[runNT_succ_next hs]at h⊢;exact YL n h|ended o w=>simp[runNT,hs]at h
theorem uY.bind{P:cf}{m:Machine}{t:Trace}{q a:Machine->Trace->Prop}(h:uY P m t q)(hq:∀b cN,q b cN->uY P b cN a):uY P m t a:=by obtain⟨n,m1,c,i,f⟩:=h;obtain⟨k,d,gv,g,e⟩:=hq m1 c f;exact⟨n+k,d,gv,by grind[YL],e⟩
def alp{P:cf}{ap:Type}{r:ap->ap->Prop}(wf:WellFounded r)(Inv:ap->Machine->Trace->Prop)(q:Machine->Trace->Prop)(h:∀a m t,Inv a m t->q m t\/∃b ops c,stepT P m=(.next b,ops)/\r c a/\Inv c b (t++ops)):∀a m t,Inv a m t->uY P m t q:=by
 intro a;induction a using wf.induction with
 | _ a f=>
  intro m t e;rcases h a m t e with hq|⟨b,ops,c,hs,g,d⟩
  .exact .refl hq
  .exact .step hs AF
section
variable{ap:Type}(R:ap->ap->Prop)
def Cu(y x:Nat×List ap×Nat×Nat):Prop:=
 y.1<x.1\/(y.1=x.1/\((yb R y.2.1 x.2.1/\Acc (yb R) x.2.1)\/(y.2.1=x.2.1/\(y.2.2.1<x.2.2.1\/(y.2.2.1=x.2.2.1/\y.2.2.2<x.2.2.2)))))
def alq:WellFounded (Cu R):=by
 have key:∀b,(∀c,c<b->∀v s k,Acc (Cu R) (c,v,s,k))->∀v s k,Acc (Cu R) (b,v,s,k):=by
  intro b g;have core:∀v,(∀a,yb R a v->Acc (yb R) v->∀s k,Acc (Cu R) (b,a,s,k))->∀s k,Acc (Cu R) (b,v,s,k):=by intro v hv s;induction s using Nat.strongRecOn with| _ s f=>intro k;induction k using Nat.strongRecOn with| _ k e=>refine⟨_,?_⟩;rintro⟨c,a,s',k'⟩ h;simp[Cu]at h;grind
  intro v;by_cases hv:Acc (yb R) v
  .induction hv with|intro v _ d=>grind
  grind
 refine⟨λ⟨b,v,s,k⟩=>?_⟩;induction b using Nat.strongRecOn generalizing v s k with| _ b d=>grind
end
structure cE(Z:e_) where
 g:Goroutine
 l:Z.Lo
 X:aX
 n:Nat
section
variable(Z:e_)(Q:cf)(Stop:Bool->Z.Lo->aX->Prop)
inductive tP(m:Bool)(γ:Z.aN)(d:Nat)(r:cE Z):Prop
 |runs (hg:r.g=r.X.g) (hr:r.X.g.status=.running) (ht:bg Z Q Stop m r.l γ r.X) (hn:m=false->¬Stop m r.l r.X) (hd:d=Z.deaf r.l) (h0:r.n=0) (hl:¬Z.Left r.l)
 |waits (hg:r.g={r.X.g with status:=.blocked}) (hr:r.X.g.status=.running) (ho:r.X.g.offers=none) (ht:bg Z Q Stop m r.l γ r.X) (hn:¬Stop m r.l r.X) (hw:Z.oD r.l γ) (hd:d=Z.deaf r.l) (h0:r.n=0) (hl:¬Z.Left r.l)
 |leaves (hm:m=false) (hq:QuitsD Q r.n d r.g) (hl:Z.Left r.l) (hs:Stop m r.l r.X)
def js(base:Nat)(rs:List (cE Z))(size:Nat)(aU:ubf):kO:=
 {n:=rs.length,base,size,K:=Z.K,mine:=λj b=>∃r,rs[j]?=some r/\r.X.mine b,hV:=Z.hV,e9:=Z.e9,tok:=aU,mu:=Z.mu,wg:=Z.wg,past:=λj=>∃r,rs[j]?=some r/\Z.past r.l=true}
structure Inv(base:Nat)(rs:List (cE Z))(γ:Z.aN)(w:aL)(t:Trace):Prop where
 sits:∀(j:Nat)(r:cE Z),rs[j]?=some r->tP Z Q Stop (j==0) γ (Deaf t j) r
 tQ:Z.pS γ (rs.map (·.l))
 mt:Z.tN γ w
 rely:∀(j:Nat)(r:cE Z),rs[j]?=some r->kv Z.K r.X w/\OsLater r.X.w.os w.os/\w.output=r.X.w.output/\w.tape=r.X.w.tape
 sh:∀(j:Nat)(r:cE Z),rs[j]?=some r->∀b,r.X.mine b->¬Z.hX b/\¬Z.K b/\b<w.heap.size
 apart:∀(j k:Nat)(r s:cE Z),rs[j]?=some r->rs[k]?=some s->j≠k->∀b,r.X.mine b->¬s.X.mine b
 low:∀b,Z.K b\/Z.hX b->b<w.heap.size
 old:∀(j:Nat)(r:cE Z),rs[j]?=some r->j≠0->j<base->Z.Left r.l/\∀b,¬r.X.mine b
 aU:∃aU,(∀(j:Nat)(r:cE Z),rs[j]?=some r->(Z.tok r.l=true↔aU=some j))/\ez (js Z base rs w.heap.size aU) t
 alr:0<rs.length
def kQ(rs:List (cE Z)):Array Goroutine:=(rs.map (·.g)).toArray
end
def ez.conv{p c:kO}{t:Trace}(h:ez p t)(hn:c.n=p.n)(g:c.base=p.base)(hs:p.size<=c.size)(hK:c.K=p.K)(o:∀j b,c.mine j b->p.mine j b\/p.size<=b)(hg:c.hV=p.hV)(u:c.e9=p.e9)(ht:c.tok=p.tok)(n:c.mu=p.mu)(B:c.wg=p.wg)(w:∀j,c.past j->p.past j):ez c t:=by
 have q:∀j,c.bf j->p.bf j:=λj f=>by grind[kO.bf]
 have y:∀j,p.bf j->c.bf j:=λj f=>by grind[kO.bf]
 refine⟨λi a d s c6=>?_,λi op hi=>by rw[hn];exact h.gs i op hi,λi a b d g=>vap (h.low i a b d g) hs,λi a b d v g m j f=>h.still i a b d v g (hK▸m) j (q j f),λj i a b f d g C=>?_,λj f=>?_,λx i a d z=>?_,λi a d hs=>?_,h.qK,h.yc,λi j f A r=>?_⟩
 .refine(h.oC i a d s c6).imp AF λk=>⟨by rw[hg];exact k.1,λb l=>⟨by rw[hK];exact(k.2 b l).1,λj f=>(o j b f).elim ((k.2 b l).2 j) (λe=>absurd (h.low i a b d l) AX)⟩⟩
 .exact(o j b C).elim (λe=>h.own j i a b (q j f) d g e) (λe=>absurd (h.low i a b d g) AX)
 .obtain⟨E,D⟩:=h.tL j (ht▸f);grind
 .rw[n];exact(h.Cp (ht▸x) i a d (hg▸z)).imp AF id
 .exact(h.e9 i a d (u▸hs)).imp id AF
 .rw[B];exact h.past i j f (w j A) r
variable{f:ubl}
section
variable{Z:e_}{Q:cf}{Stop:Bool->Z.Lo->aX->Prop}
structure Row(rs cI:List (cE Z))(i:Nat)(r1:cE Z)(f:ubl):Prop where
 len:cI.length=rs.length
 at_:cI[i]?=some r1
 iv:∀j,j≠i->cI[j]?=(rs[j]?).map λs=>{s with g:=f s.g}
def Mz(rs:List (cE Z)){i:Nat}{r:cE Z}(hi:rs[i]?=some r)(r1:cE Z)(f:ubl):Row rs ((rs.map λs=>{s with g:=f s.g}).set i r1) i r1 f:=by
 have a:i<rs.length:=by grind
 refine⟨Ab,AF,λj b=>?_⟩;grind
def Ry(rs:List (cE Z))(i:Nat)(r1:cE Z)(f:ubl):kQ Z ((rs.map λs=>{s with g:=f s.g}).set i r1)=((kQ Z rs).map f).setIfInBounds i r1.g:=by grind[kQ]
def Row.ls{rs cI:List (cE Z)}{i:Nat}{r1:cE Z}(h:Row rs cI i r1 f):cI.map (·.l)=(rs.map (·.l)).set i r1.l:=by
 apply vca;intro j;by_cases b:j=i
 .subst b;have a:j<rs.length:=by obtain⟨x,_⟩:=vab.1 h.at_;rw[<-h.len];exact x
  simp[h.at_,a]
 .rw[vba (Ne.symm b)];simp[h.iv j b];rfl
def Row.other{rs cI:List (cE Z)}{i:Nat}{r1:cE Z}(h:Row rs cI i r1 f){j:Nat}{s:cE Z}(a:j≠i)(hs:cI[j]?=some s):∃s0,rs[j]?=some s0/\s={s0 with g:=f s0.g}:=by rw[h.iv j a]at hs;grind
theorem lF.at{mine:c7}{w w1:aL}(d:Nat)(h:lF Z mine (w.at d) w1):lF Z mine w w1:=⟨h.kept,h.size,h.os,h.output,h.tape⟩
theorem kv.at{K:c7}{X:aX}{w:aL}(h:kv K X w)(d:Nat):kv K X (w.at d):=⟨h.heap,h.size,h.env⟩
theorem Inv.kept{base:Nat}{rs:List (cE Z)}{γ:Z.aN}{w:aL}{t:Trace}(G:Z.Good)(h:Inv Z Q Stop base rs γ w t){i:Nat}{r:cE Z}(hi:rs[i]?=some r){w1:aL}(hk:lF Z r.X.mine w w1):
 (∀b,Z.K b->w1.heap[b]?=w.heap[b]?)/\∀(j:Nat)(s:cE Z),rs[j]?=some s->j≠i->∀b,s.X.mine b->w1.heap[b]?=w.heap[b]?:=by
 refine⟨λb a=>hk.kept b (h.low b (.inl a)) (λe=>(h.sh i r hi b e).2.1 a) (G.nb b a),λj s d c b a=>?_⟩;have:=h.sh j s d b a;exact hk.kept b this.2.2 (h.apart j i s r d hi c b a) this.1
def Inv.parts{base:Nat}{rs cI:List (cE Z)}{γ:Z.aN}{w:aL}{t:Trace}(G:Z.Good)(h:Inv Z Q Stop base rs γ w t){i:Nat}{r r1:cE Z}(hi:rs[i]?=some r)(v:Row rs cI i r1 f){w1:aL}(hk:lF Z r.X.mine w w1)(I:∀b,r1.X.mine b->r.X.mine b\/(w.heap.size<=b/\b<w1.heap.size)):
 (∀(j:Nat)(s:cE Z),cI[j]?=some s->∀b,s.X.mine b->¬Z.hX b/\¬Z.K b/\b<w1.heap.size)/\
 (∀(j k:Nat)(s s':cE Z),cI[j]?=some s->cI[k]?=some s'->j≠k->∀b,s.X.mine b->¬s'.X.mine b)/\
 (∀b,Z.K b\/Z.hX b->b<w1.heap.size)/\(∀aU,Az (js Z base cI w1.heap.size aU)):=by
 have A:∀(j:Nat)(s:cE Z),cI[j]?=some s->∀b,s.X.mine b->(∃s0,rs[j]?=some s0/\s0.X.mine b)\/(j=i/\w.heap.size<=b/\b<w1.heap.size):=by
  intro j s m b d;by_cases u:j=i
  .subst u;rw[v.at_]at m;grind
  .obtain⟨s0,a,rfl⟩:=v.other u m;grind
 have B:∀(j:Nat)(s:cE Z),cI[j]?=some s->∀b,s.X.mine b->¬Z.hX b/\¬Z.K b/\b<w1.heap.size:=by
  intro j s m b d;rcases A j s m b d with⟨s0,a,c⟩|⟨_,a,c⟩
  .have:=h.sh j s0 a b c;exact⟨this.1,this.2.1,vap this.2.2 hk.size⟩
  .exact⟨λe=>absurd (h.low b (.inr e)) AX,λe=>absurd (h.low b (.inl e)) AX,c⟩
 have C:∀(j k:Nat)(s s':cE Z),cI[j]?=some s->cI[k]?=some s'->j≠k->∀b,s.X.mine b->¬s'.X.mine b:=by
  intro j k s s' m F p b d y;rcases A j s m b d with⟨s0,a,c⟩|⟨J,a,c⟩<;>rcases A k s' F b y with⟨x,n,o⟩|⟨H,n,o⟩
  .exact h.apart j k s0 x a n p b c o
  .have:=(h.sh j s0 a b c).2.2;omega
  .have:=(h.sh k x n b o).2.2;omega
  grind
 have D:∀b,Z.K b\/Z.hX b->b<w1.heap.size:=λb d=>vap (h.low b d) hk.size;refine⟨B,C,D,λaU=>⟨?_,?_,?_,?_,G.tM,?_,λb d=>D b (.inl d),?_⟩⟩
 .rintro j k b ⟨s,a,c⟩ ⟨s',n,o⟩;grind
 .rintro j b ⟨s,a,c⟩;exact(B j s a b c).2.1
 .intro l b j hg g;obtain⟨q,a,c⟩:=G.FR l hg;rw[g]at a;cases a;exact⟨λ⟨s,E,z⟩=>AF,λe=>G.nb b e c⟩
 .intro l b j hg g;obtain⟨q,a,c⟩:=G.Cq l hg;rw[g]at a;cases a;exact⟨λ⟨s,E,z⟩=>AF,λe=>G.nb b e c⟩
 .rintro j b ⟨s,a,c⟩;exact(B j s a b c).2.2
 .intro l b g d;rcases g with g|g
  .obtain⟨q,a,c⟩:=G.FR l g;rw[d]at a;cases a;exact D b (.inr c)
  .obtain⟨q,a,c⟩:=G.Cq l g;rw[d]at a;cases a;exact D b (.inr c)
def YN(G:Z.Good)(base:Nat)(rs:List (cE Z))(size:Nat)(aU:ubf):Mv (js Z base rs size aU):=
 ⟨λl h=>let⟨_,a,_⟩:=G.FR l h;FP a,λl h=>let⟨_,a,_⟩:=G.Cq l h;FP a⟩
theorem YO{p:kO}{j:Nat}{l:Z.Lo}{mine:c7}(hK:p.K=Z.K)(g:∀b,mine b->p.mine j b)(hg:p.hV=Z.hV)(hs:p.e9=Z.e9)(ht:Z.tok l=true->p.tok=some j)(f:Z.past l=false->¬p.past j)(h:Z.zero l->j=0):
 ∀(es:ubj)(d:Nat),oE Z l mine d es->Rt p j d es
 | [],_,_=>trivial
 |e::es,d,⟨c,i⟩=>by
  refine⟨?_,YO hK g hg hs ht f h es _ i⟩;obtain⟨loc,wr,k⟩:=e;cases loc with
  |cell a=>
   rcases c with⟨x,y,z⟩|⟨x,y,z⟩
   .exact .inl AF
   .exact .inr AF
  |obj r=>exact⟨c.1,c.2.1.imp AF (g _),f c.2.2⟩
  |mark m=>exact c.imp id AF
  |output=>trivial
  |goroutines=>exact c
end
variable{es:uaq}{g g1:uai}
section
section
variable{Z:e_}{Q:cf}{Stop:Bool->Z.Lo->aX->Prop}{base:Nat}{rs cI:List (cE Z)}{γ bF:Z.aN}{w w1:aL}{t:Trace}
def Inv.lt(h:Inv Z Q Stop base rs γ w t){i:Nat}{r:cE Z}(hi:rs[i]?=some r)(b:¬Z.Left r.l)(size:Nat)(aU:ubf):(js Z base rs size aU).bf i:=by
 obtain⟨a,_⟩:=vab.1 hi;refine⟨a,?_⟩;rcases vbn i with e|e
 .grind
 .refine .inr (Nat.le_of_not_lt λc=>b (h.old i r hi AX c).1)
def MA(i:Nat)(fn:uaj)(pos:String)(m:Mark):MemOp.ofEvents i fn pos #[FT m]=#[({g:=i,fn,pos,act:=.mark m}:MemOp)]:=by rw[ofEvents_eq];simp[FT,MemAct.ofEvent]
def Inv.says(G:Z.Good)(h:Inv Z Q Stop base rs γ w t){i:Nat}{r r1:cE Z}(hi:rs[i]?=some r)(O:¬Z.Left r.l)(a:Row rs cI i r1 f)(hk:lF Z r.X.mine w w1)(M:r1.X.mine=grown r.X.mine w w1)(hd:Deaf t i=Z.deaf r.l)(W:Z.tok r.l=false->Z.tok r1.l=true->∀(k:Nat)(s:cE Z),k≠i->rs[k]?=some s->Z.tok s.l=true->False)(hs:Says Z r.l r1.l (grown r.X.mine w w1) es)(fn:uaj)(pos:String):
 (∃aU,(∀(j:Nat)(s:cE Z),cI[j]?=some s->(Z.tok s.l=true↔aU=some j))/\ez (js Z base cI w1.heap.size aU) (t++MemOp.ofEvents i fn pos es))/\Deaf (t++MemOp.ofEvents i fn pos es) i=Z.deaf r1.l:=by
 have F:∀b,r1.X.mine b->r.X.mine b\/(w.heap.size<=b/\b<w1.heap.size):=λb A=>by rw[M]at A;exact A
 obtain⟨hB,hC,Y,P⟩:=h.parts G hi a hk F;obtain⟨aU,U,B⟩:=h.aU;have x:∀aU,(js Z base cI w1.heap.size aU).bf i:=λaU=>by have:=h.lt hi O w1.heap.size aU;unfold kO.bf js at this⊢;simp only at this⊢;rw[a.len];grind
 have I:∀aU j b,(js Z base cI w1.heap.size aU).mine j b->(js Z base rs w.heap.size aU).mine j b\/w.heap.size<=b:=by
  rintro aU j b ⟨s,m,n⟩;by_cases c:j=i
  .subst c;rw[a.at_]at m;cases m;exact(F b n).imp (λe=>⟨r,hi,e⟩) (λe=>e.1)
  .obtain⟨s0,q,rfl⟩:=a.other c m;exact .inl ⟨s0,q,n⟩
 have K:(Z.past r1.l=Z.past r.l)->∀aU j,(js Z base cI w1.heap.size aU).past j->(js Z base rs w.heap.size aU).past j:=by
  rintro H aU j ⟨s,m,n⟩;by_cases c:j=i
  .subst c;rw[a.at_]at m;cases m;exact⟨r,hi,AF⟩
  .obtain⟨s0,q,rfl⟩:=a.other c m;exact⟨s0,q,n⟩
 have conv:(Z.past r1.l=Z.past r.l)->ez (js Z base cI w1.heap.size aU) t:=λH=>
  B.conv a.len rfl hk.size rfl (I aU) rfl rfl rfl rfl rfl (K H aU)
 have T:∀(j:Nat)(s:cE Z),j≠i->cI[j]?=some s->(Z.tok s.l=true↔aU=some j):=by intro j s d L;obtain⟨s0,q,rfl⟩:=a.other d L;grind
 rcases hs with⟨u,o,v,D⟩|⟨rfl,u,o,v,D,C⟩|⟨rfl,u,o,v,D,C⟩|⟨rfl,u,o,v,D⟩
 .refine⟨⟨aU,λj s d=>?_,?_⟩,by rw[Deaf_own,hd,v]⟩
  .by_cases c:j=i
   .subst c;rw[a.at_]at d;grind
   grind
  .have:=ez.step (P aU) (YN G base cI w1.heap.size aU) (x aU) fn pos es.toList (conv o) (YO (Z:=Z) (p:=js Z base cI w1.heap.size aU) (j:=i) (l:=r.l) (mine:=grown r.X.mine w w1) rfl (λb A=>⟨r1,a.at_,Bc⟩) rfl rfl (λht=>(U i r hi).1 ht)
    (λX⟨s,m,n⟩=>by rw[a.at_]at m;grind) (λN=>G.zero γ _ i r.l h.tQ AF N) es.toList _ AF)
   omega
 .have E:aU=none:=by cases z:aU with|none=>rfl|some k=>exfalso;have J:=(B.tL k z).1;obtain⟨s,S⟩:∃s,rs[k]?=some s:=⟨rs[k]'J.1,vag J.1⟩;grind
  refine⟨⟨some i,λj s d=>?_,?_⟩,JT⟩
  .by_cases c:j=i
   .subst c;rw[a.at_]at d;grind
   grind
  .have h0:=conv C;rw[E]at h0;have:=ez.ali h0 rfl (y:={g:=i,fn,pos,act:=.mark (.acquire Z.mu)}) (x none) rfl AF;rw[MA];exact this
 .have z:aU=some i:=AF;refine⟨⟨none,λj s d=>?_,?_⟩,JT⟩
  .by_cases c:j=i
   .subst c;rw[a.at_]at d;grind
   grind
  .have h0:=conv C;rw[z]at h0;have:=ez.alj h0 (y:={g:=i,fn,pos,act:=.mark (.releaseMerge Z.mu)}) rfl rfl AF;rw[MA];exact this
 .refine⟨⟨aU,λj s d=>?_,?_⟩,JT⟩
  .by_cases c:j=i
   .subst c;rw[a.at_]at d;grind
   grind
  .have h0:ez {js Z base cI w1.heap.size aU with past:=(js Z base rs w.heap.size aU).past} t:=
    B.conv a.len rfl hk.size rfl (I aU) rfl rfl rfl rfl rfl (λj d=>d)
   have:=ez.alk h0 (y:={g:=i,fn,pos,act:=.mark (.releaseMerge Z.wg)}) (x aU) rfl AF (past:=(js Z base cI w1.heap.size aU).past) (λk R=>by
    obtain⟨s,m,n⟩:=R;by_cases V:k=i
    .grind
    .obtain⟨s0,q,rfl⟩:=a.other V m;exact .inl ⟨s0,q,n⟩)
   simp_all[MA]
def Inv.own(G:Z.Good)(h:Inv Z Q Stop base rs γ w t){i:Nat}{r r1:cE Z}(hi:rs[i]?=some r)(y:¬Z.Left r.l)(g:Row rs cI i r1 f)(m:r1.X.w=w1)(hk:lF Z r.X.mine w w1)(v:r1.X.mine=grown r.X.mine w w1)(F:Z.pS bF ((rs.map (·.l)).set i r1.l))(u:Z.tN bF w1){k:Trace}(E:∀(j:Nat)(s:cE Z),j≠i->cI[j]?=some s->tP Z Q Stop (j==0) bF (Deaf k j) s)(H:tP Z Q Stop (i==0) bF (Deaf k i) r1)(ht:∃aU,(∀(j:Nat)(s:cE Z),cI[j]?=some s->(Z.tok s.l=true↔aU=some j))/\ez (js Z base cI w1.heap.size aU) k):Inv Z Q Stop base cI bF w1 k:=by
 have x:∀b,r1.X.mine b->r.X.mine b\/(w.heap.size<=b/\b<w1.heap.size):=λb c=>by rw[v]at c;exact c
 obtain⟨B,A,z,_⟩:=h.parts G hi g hk x;obtain⟨D,C⟩:=h.kept G hi hk;refine⟨λj s a=>?_,by rw[g.ls];grind,u,λj s a=>?_,B,A,z,λj s a h0 c=>?_,ht,by rw[g.len];grind⟩
 .by_cases e:j=i
  .subst e;rw[g.at_]at a;grind
  grind
 .by_cases e:j=i
  .subst e;rw[g.at_]at a;cases a;subst m;exact⟨⟨λ_ _=>U,vac _,U⟩,.refl _,U,U⟩
  .obtain⟨s0,l,rfl⟩:=g.other e a;obtain⟨n,q,p,o⟩:=h.rely j s0 l;refine⟨⟨λb c=>?_,vad n.size hk.size,?_⟩,q.trans hk.os,hk.output.trans p,hk.tape.trans o⟩
   .rw[<-n.heap b c];grind
   .rw[<-n.env];obtain⟨d,hd⟩:=hk.os;rw[hd]
 .by_cases e:j=i
  .subst e;exact absurd (h.old j r hi h0 c).1 y
  .obtain⟨s0,l,rfl⟩:=g.other e a;exact h.old j s0 l h0 c
theorem aly(w1:aL):∀{x:uai},x.offers=none->x.status=.running->({x with status:=.blocked}:uai).again w1=x:=by rintro⟨a,b,c,d,e⟩ g f;grind[Goroutine.again]
theorem tP.woken{m:Bool}{d:Nat}{s:cE Z}(G:Z.Good)(h:tP Z Q Stop m γ d s){w1:aL}(hrun:g1.status=.running)(c:Z.dO s.l γ bF)(k:mayWake Q g=true\/(Z.oD s.l γ->Z.oD s.l bF)):
 tP Z Q Stop m bF d {s with g:=woken Q g g1 w1 s.g}:=by
 have l:(mayWake Q g&&g1.status != .blocked&&g1.status != .waiting)=mayWake Q g:=AF;cases h with
 |runs hg b ht hn hd h0 a=>
  have e:Go.Conc.woken Q g g1 w1 s.g=s.g:=by grind[Go.Conc.woken,again_running]
  rw[e];exact .runs hg b (ht.iv G c) hn hd h0 a
 |waits hg b j ht hn f hd h0 a=>
  cases n:mayWake Q g with
  |true=>
   have e:Go.Conc.woken Q g g1 w1 s.g=s.X.g:=by grind[Go.Conc.woken,aly]
   rw[e];exact .runs U b (ht.iv G c) (λ_=>hn) hd h0 a
  |false=>
   have e:Go.Conc.woken Q g g1 w1 s.g=s.g:=by grind[Go.Conc.woken]
   rw[e];exact .waits hg b j (ht.iv G c) hn AF hd h0 a
 |leaves i hq a hs=>rw[woken_quitsD hq];exact .leaves i hq a hs
end
end
section
section
variable{Z:e_}{Q:cf}{Stop:Bool->Z.Lo->aX->Prop}{base:Nat}{rs cI:List (cE Z)}{γ bF:Z.aN}{w w1:aL}{t:Trace}
def alz{e:Event}(h:e.mute=true):∃m,(MemAct.ofEvent e)=.mark m/\AA m:=by
 obtain⟨loc,wr,a⟩:=e;cases loc<;>simp_all[Event.mute]
 grind[MemAct.ofEvent,AA]
theorem ez.mute{p:kO}{i:Nat}(hi:i<p.n)(fn:uaj)(pos:String):∀(l:ubj){t:Trace},ez p t->(∀e∈l,e.mute=true)->ez p (t++MemOp.ofEvents i fn pos l.toArray)
 | [],t,h,_=>by grind[ofEvents_eq]
 |e::l,t,h,d=>by
  obtain⟨m,c,b⟩:=alz (d e Ab);have:=ez.mute hi fn pos l (h.word (y:={g:=i,fn,pos,act:=.ofEvent e}) hi (by rw[c];cases m<;>simp[AA]at b<;>rfl) (λa=>by rw[c];cases m<;>simp[AA]at b<;>simp)) AF
  rw[ofEvents_eq]at this⊢;have f:t++#[({g:=i,fn,pos,act:=.ofEvent e}:MemOp)]++Array.map (λe=>({g:=i,fn,pos,act:=.ofEvent e}:MemOp)) l.toArray=t++Array.map (λe=>({g:=i,fn,pos,act:=.ofEvent e}:MemOp)) (e::l).toArray:=by apply Array.ext';simp
  rw[f]at this;exact this
def tR(rs:List (cE Z))(γ:Z.aN):List (Bool×Z.Lo×Z.aN×aX):=rs.mapIdx λj r=>(j==0,r.l,γ,r.X)
def MC(rs:List (cE Z)):Nat:=(rs.map (·.n)).sum
def ye(g:uai):Nat:=match g.status with| .running=>1| _=>0
def ju(rs:List (cE Z)):Nat:=(rs.map λr=>ye r.g).sum
def meas(rs:List (cE Z))(γ:Z.aN):Nat×List (Bool×Z.Lo×Z.aN×aX)×Nat×Nat:=(Z.a6 γ,tR rs γ,MC rs,ju rs)
theorem FU:∀(l:e8)(i x:Nat)(h:i<l.length),(l.set i x).sum+l[i]=l.sum+x
 |a::l,0,x,_=>AF
 |a::l,i+1,x,h=>by have:=FU l i x Dd;simp;omega
theorem FV(rs:List (cE Z))(γ:Z.aN)(j:Nat):(tR rs γ)[j]?=(rs[j]?).map λr=>(j==0,r.l,γ,r.X):=by simp[tR]
def YP{i:Nat}{r1:cE Z}(h:Row rs cI i r1 f)(γ:Z.aN):tR cI γ=(tR rs γ).set i (i==0,r1.l,γ,r1.X):=by
 apply vca;intro j;by_cases b:j=i
 .subst b;have a:j<(tR rs γ).length:=by obtain⟨x,_⟩:=vab.1 h.at_;simp[tR,<-h.len,x]
  rw[FV,h.at_,vch a];rfl
 .rw[vba (Ne.symm b),FV,FV,h.iv j b,Option.map_map];rfl
def Inv.alA(G:Z.Good)(h:Inv Z Q Stop base rs γ w t):Acc (yb (My Z Q Stop)) (tR rs γ):=by refine alb _ λx c=>?_;obtain⟨j,a⟩:=List.mem_iff_getElem?.1 c;rw[FV]at a;obtain⟨r,d,rfl⟩:=vaj.1 a;cases h.sits j r d with|runs _ _ ht _ _ _ _=>exact ht.acc G|waits _ _ _ ht _ _ _ _ _=>exact ht.acc G|leaves e hq f hs=>exact⟨_,λy b=>absurd hs b.1⟩
def RB(a:∀l X,Stop false l X->Z.Left l/\∃n,QuitsD Q n (Z.deaf l) X.g){m:Bool}{l1:Z.Lo}{wL:aX}(b:wL.g.status=.running)(ht:bg Z Q Stop m l1 bF wL)(e:Z.Left l1->m=false/\Stop m l1 wL):∃n,tP Z Q Stop m bF (Z.deaf l1) ⟨wL.g,l1,wL,n⟩:=by
 by_cases hs:m=false/\Stop m l1 wL
 .obtain⟨rfl,hs⟩:=hs;obtain⟨d,n,c⟩:=a l1 wL hs;exact⟨n,.leaves U c d hs⟩
 .exact⟨0,.runs U b ht AF U U AF⟩
def alB{i:Nat}{r:cE Z}(hi:rs[i]?=some r)(b:Z.pS γ (rs.map (·.l))){l1:Z.Lo}(a:Cs Z r.l γ l1 bF):Z.pS bF ((rs.map (·.l)).set i l1)/\∀(j:Nat)(s:cE Z),j≠i->rs[j]?=some s->Z.dO s.l γ bF:=by obtain⟨e,d⟩:=a.2 (rs.map (·.l)) i AF b;exact⟨e,λj s c hs=>d j s.l c AF⟩
theorem Cx(rs:List (cE Z))(j:Nat):(kQ Z rs)[j]?=(rs[j]?).map (·.g):=by simp[kQ]
def RD(Z:e_)(Stop:Bool->Z.Lo->aX->Prop)(rs:List (cE Z)):Prop:=∃r,rs[0]?=some r/\Stop true r.l r.X/\r.g=r.X.g
theorem Inv.at(h:Inv Z Q Stop base rs γ w t)(G:Z.Good)(d:Nat):Inv Z Q Stop base rs γ (w.at d) t:=
 ⟨h.sits,h.tQ,G.mt γ w (w.at d) (λ_ _=>U) h.mt,λj r a=>⟨kv.at (h.rely j r a).1 d,(h.rely j r a).2⟩,h.sh,h.apart,h.low,h.old,h.aU,h.alr⟩
def Inv.goes(G:Z.Good)(e:∀l X,Stop false l X->Z.Left l/\∃n,QuitsD Q n (Z.deaf l) X.g)(h:Inv Z Q Stop base rs γ w t){i:Nat}{r:cE Z}(hi:rs[i]?=some r)(c:¬Z.Left r.l)(hd:Deaf t i=Z.deaf r.l){l1:Z.Lo}(hk:lF Z r.X.mine w w1)(f:Z.tN bF w1)(b:Z.pS bF ((rs.map (·.l)).set i l1))(C:∀(j:Nat)(s:cE Z),j≠i->rs[j]?=some s->Z.dO s.l γ bF)(hrun:g1.status=.running)(z:Says Z r.l l1 (grown r.X.mine w w1) es)(B:mayWake Q r.g=true\/∀l,Z.oD l γ->Z.oD l bF)(ht:bg Z Q Stop (i==0) l1 bF ⟨g1,w1,grown r.X.mine w w1⟩)(g:Z.Left l1->(i==0)=false/\Stop (i==0) l1 ⟨g1,w1,grown r.X.mine w w1⟩)(fn:uaj)(pos:String):
 ∃cI,kQ Z cI=((kQ Z rs).map (woken Q r.g g1 w1)).setIfInBounds i g1/\Inv Z Q Stop base cI bF w1 (t++MemOp.ofEvents i fn pos es)/\tR cI γ=(tR rs γ).set i (i==0,l1,γ,⟨g1,w1,grown r.X.mine w w1⟩):=by
 obtain⟨n,x⟩:=RB e (m:=i==0) (l1:=l1) (wL:=⟨g1,w1,grown r.X.mine w w1⟩) hrun ht g;let r1:cE Z:=⟨g1,l1,⟨g1,w1,grown r.X.mine w w1⟩,n⟩
 have a:=Mz rs hi r1 (woken Q r.g g1 w1);have D:i<rs.length:=(vab.1 hi).1;obtain⟨o,E⟩:=h.says (r1:=r1) (es:=es) G hi c a hk U hd (λ_ u k s A v y=>A (G.one bF _ k i s.l l1 b AF AF y u)) z fn pos;refine⟨_,Ry rs i r1 _,h.own (r1:=r1) G hi c a U hk U b f (λj s d hs=>?_) AF o,YP a γ⟩;obtain⟨s0,q,rfl⟩:=a.other d hs;rw[Deaf_other t (g':=i) (Ne.symm d) _ (λop p=>by grind[ofEvents_eq])];exact(h.sits j s0 q).woken G hrun AF AF
end
end
section
section
variable{Z:e_}{Q:cf}{Stop:Bool->Z.Lo->aX->Prop}{base:Nat}{rs cI:List (cE Z)}{γ bF:Z.aN}{w w1:aL}{t:Trace}
def alD{i:Nat}{r r1:cE Z}(hi:rs[i]?=some r)(h:Row rs cI i r1 f)(l:r1.l=r.l)(k:r1.X=r.X){size:Nat}{aU:ubf}(g:ez (js Z base rs size aU) t):ez (js Z base cI size aU) t:=by
 refine g.conv h.len U Jb U ?_ U U U U U ?_
 .rintro j b ⟨s,a,e⟩;by_cases c:j=i
  .subst c;rw[h.at_]at a;cases a;exact .inl ⟨r,hi,AF⟩
  .obtain⟨s0,d,rfl⟩:=h.other c a;exact .inl ⟨s0,d,e⟩
 .rintro j ⟨s,a,e⟩;by_cases c:j=i
  .subst c;rw[h.at_]at a;cases a;exact⟨r,hi,AF⟩
  .obtain⟨s0,d,rfl⟩:=h.other c a;exact⟨s0,d,e⟩
def Inv.record(h:Inv Z Q Stop base rs γ w t){i:Nat}{r r1:cE Z}(hi:rs[i]?=some r)(d:Row rs cI i r1 f)(u:r1.l=r.l)(p:r1.X=r.X){e:Trace}(x:∀(j:Nat)(s:cE Z),j≠i->cI[j]?=some s->tP Z Q Stop (j==0) γ (Deaf e j) s)(y:tP Z Q Stop (i==0) γ (Deaf e i) r1)(v:∀size aU,ez (js Z base rs size aU) t->ez (js Z base rs size aU) e):Inv Z Q Stop base cI γ w e:=by
 have z:i<rs.length:=(vab.1 hi).1;have back:∀(j:Nat)(s:cE Z),cI[j]?=some s->∃s0,rs[j]?=some s0/\s.l=s0.l/\s.X=s0.X:=by
  intro j s a;by_cases g:j=i
  .subst g;rw[d.at_]at a;grind
  .obtain⟨s0,b,rfl⟩:=d.other g a;grind
 refine⟨λj s a=>?_,?_,h.mt,λj s a=>?_,λj s a=>?_,λj k s s' a hk l=>?_,h.low,λj s a=>?_,?_,by rw[d.len];grind⟩
 .by_cases g:j=i
  .subst g;rw[d.at_]at a;grind
  grind
 .have:(rs.map (·.l)).set i r1.l=rs.map (·.l):=by apply vca;grind
  rw[d.ls,this];exact h.tQ
 .obtain⟨s0,c,_,b⟩:=back j s a;rw[b];exact h.rely j s0 c
 .obtain⟨s0,c,_,b⟩:=back j s a;rw[b];exact h.sh j s0 c
 .obtain⟨s0,c,_,b⟩:=back j s a;obtain⟨o,q,_,n⟩:=back k s' hk;rw[b,n];exact h.apart j k s0 o c q l
 .obtain⟨s0,c,m,b⟩:=back j s a;rw[m,b];exact h.old j s0 c
 .obtain⟨aU,c,m⟩:=h.aU;refine⟨aU,λj s a=>?_,alD hi d u p (v _ _ m)⟩;grind
def YQ{i:Nat}{r r1:cE Z}(hi:rs[i]?=some r)(h:Row rs cI i r1 f):MC cI+r.n=MC rs+r1.n:=by
 obtain⟨c,b⟩:=vab.1 hi;have e:cI.map (·.n)=(rs.map (·.n)).set i r1.n:=by
  apply vca;intro j;by_cases a:j=i
  .subst a;rw[vch AF,vbc,h.at_];rfl
  .rw[vba (Ne.symm a),vbc,vbc,h.iv j a,Option.map_map];rfl
 grind[FU,MC]
def alF{i:Nat}{r r1:cE Z}(hi:rs[i]?=some r)(h:Row rs cI i r1 id):ju cI+ye r.g=ju rs+ye r1.g:=by
 obtain⟨c,b⟩:=vab.1 hi;have e:(cI.map λr=>ye r.g)=(rs.map λr=>ye r.g).set i (ye r1.g):=by
  apply vca;intro j;by_cases a:j=i
  .subst a;rw[vch AF,vbc,h.at_];rfl
  .rw[vba (Ne.symm a),vbc,vbc,h.iv j a,Option.map_map];rfl
 grind[FU,ju]
def YR{i:Nat}{r r1:cE Z}(hi:rs[i]?=some r)(h:Row rs cI i r1 f)(b:r1.l=r.l)(a:r1.X=r.X):tR cI γ=tR rs γ:=by
 rw[YP h γ];apply vca;intro j;by_cases c:j=i
 .grind[FV]
 grind
def alG(h:g1.status=.blocked)(w1:aL):woken Q g g1 w1=id:=by grind[woken]
def YS{i:Nat}{fn:uaj}{pos:String}:∀op∈MemOp.ofEvents i fn pos es,op.g=i:=λop a=>by grind[ofEvents_eq]
theorem tP.iv{m:Bool}{d:Nat}{s:cE Z}(G:Z.Good)(h:tP Z Q Stop m γ d s)(e:Z.dO s.l γ bF)(f:Z.oD s.l γ->Z.oD s.l bF):tP Z Q Stop m bF d s:=by cases h with|runs hg c ht hn hd h0 a=>exact .runs hg c (ht.iv G e) hn hd h0 a|waits hg c i ht hn b hd h0 a=>exact .waits hg c i (ht.iv G e) hn (f b) hd h0 a|leaves g hq a hs=>exact .leaves g hq a hs
def Inv.alH(G:Z.Good)(J:∀l X,Stop false l X->Z.Left l/\∃n,QuitsD Q n (Z.deaf l) X.g)(h:Inv Z Q Stop base rs γ w t)(wz:base<=rs.length){r:cE Z}(hi:rs[0]?=some r)(V:¬Z.Left r.l)(hd:Deaf t 0=Z.deaf r.l){l1 lc:Z.Lo}{child:uai}(a:Rw Z r.l γ r.X w g1 child w1 es l1 bF lc)(ht:bg Z Q Stop true l1 bF ⟨g1,w1,grown r.X.mine w w1⟩)(W:bg Z Q Stop false lc bF ⟨child,w1,λ_=>False⟩)(fn q:uaj)(pos pos':String):
 ∃cI,kQ Z cI=((kQ Z rs).setIfInBounds 0 g1).push child/\Inv Z Q Stop base cI bF w1 (t++((MemOp.ofEvents 0 fn pos es).push {g:=0,fn,pos,act:=.go rs.length} |>.push {g:=rs.length,fn:=q,pos:=pos',act:=.start})):=by
 obtain⟨n,alC⟩:=RB J (m:=true) (l1:=l1) (wL:=⟨g1,w1,grown r.X.mine w w1⟩) a.run ht (λh=>absurd h a.stays.1);obtain⟨bK,H⟩:=RB J (m:=false) (l1:=lc) (wL:=⟨child,w1,λ_=>False⟩) a.YK W (λh=>absurd h a.stays.2);let r1:cE Z:=⟨g1,l1,⟨g1,w1,grown r.X.mine w w1⟩,n⟩
 let rc:cE Z:=⟨child,lc,⟨child,w1,λ_=>False⟩,bK⟩
 have o:=Mz rs hi r1 id;have F:(rs.map λs=>{s with g:=id s.g})=rs:=by simp_all
 rw[F]at o;have I2:Says Z r.l l1 (grown r.X.mine w w1) es:=.inl ⟨a.tok.1,a.past.1,by rw[a.deaf.1,a.deaf.2.1,a.deaf.2.2.1],by rw[a.deaf.1];exact a.evs⟩;obtain⟨⟨aU,MB,B⟩,Cy⟩:=h.says (r1:=r1) (es:=es) G hi V o a.keep rfl hd (λh0 p _ _ _ _ _=>by rw[show r1.l=l1 from rfl,a.tok.1,h0]at p;cases p) I2 fn pos;have U:∀b,r1.X.mine b->r.X.mine b\/(w.heap.size<=b/\b<w1.heap.size):=λb a=>a;obtain⟨hB,hC,Y,_⟩:=h.parts G hi o a.keep U;obtain⟨alw,alx⟩:=h.kept G hi a.keep;obtain⟨lY,R⟩:=a.AD (rs.map (·.l)) AF h.tQ;have hlen:(rs.set 0 r1).length=rs.length:=Ab;generalize E:rs.set 0 r1=C at o B MB hB hC hlen;have dQ:∀(j:Nat)(s:cE Z),(C++[rc])[j]?=some s->(j<rs.length/\C[j]?=some s)\/(j=rs.length/\s=rc):=by grind[List.getElem?_append_right]
 have e1:t++((MemOp.ofEvents 0 fn pos es).push {g:=0,fn,pos,act:=.go rs.length} |>.push {g:=rs.length,fn:=q,pos:=pos',act:=.start})=(t++MemOp.ofEvents 0 fn pos es)++#[({g:=0,fn,pos,act:=.go rs.length}:MemOp),{g:=rs.length,fn:=q,pos:=pos',act:=.start}]:=by apply Array.ext';simp
 rw[e1];generalize K:#[({g:=0,fn,pos,act:=.go rs.length}:MemOp),{g:=rs.length,fn:=q,pos:=pos',act:=.start}]=u;have D:∀j,Deaf ((t++MemOp.ofEvents 0 fn pos es)++u) j=Deaf (t++MemOp.ofEvents 0 fn pos es) j:=λj=>by have:=Deaf_append (t++MemOp.ofEvents 0 fn pos es) j u.toList;rw[Array.toArray_toList]at this;rw[this,<-K];rfl
 have I4:Deaf (t++MemOp.ofEvents 0 fn pos es) rs.length=0:=Deaf_absent λi op hi e=>by have:=B.gs i op hi;grind[js]
 refine⟨C++[rc],?_,⟨λj s f=>?_,?_,a.mt,λj s f=>?_,λj s f=>?_,λj k s s' f hk T b WS aEv=>?_,Y,λj s f h0 FW=>?_,?_,Ab⟩⟩
 .rw[<-E];unfold kQ;rw[List.setIfInBounds_toArray,List.push_toArray,vcr,List.map_set];rfl
 .rw[D];rcases dQ j s f with⟨v,c⟩|⟨rfl,rfl⟩
  .by_cases h0:j=0
   .grind
   .obtain⟨s0,z,rfl⟩:=o.other h0 c;rw[Deaf_other t (g':=0) (Ne.symm h0) _ YS];exact(h.sits j s0 z).iv G (R j s0.l h0 AF) (a.I0 s0.l)
  .rw[I4];have:(rs.length==0)=false:=by grind
   rw[this];have M:=H;rw[a.deaf.2.2.2]at M;exact M
 .rw[vcr,o.ls];grind
 .rcases dQ j s f with⟨v,c⟩|⟨rfl,rfl⟩
  .by_cases h0:j=0
   .subst h0;rw[o.at_]at c;cases c;exact⟨⟨λ_ _=>rfl,vac _,rfl⟩,.refl _,rfl,rfl⟩
   .obtain⟨s0,z,rfl⟩:=o.other h0 c;obtain⟨I,P,O,N⟩:=h.rely j s0 z;refine⟨⟨λb S=>?_,vad I.size a.keep.size,?_⟩,P.trans a.keep.os,a.keep.output.trans O,a.keep.tape.trans N⟩
    .rw[<-I.heap b S];grind
    .rw[<-I.env];obtain⟨d,hd⟩:=a.keep.os;rw[hd]
  .exact⟨⟨λ_ _=>rfl,vac _,rfl⟩,.refl _,rfl,rfl⟩
 .grind
 .grind
 .rcases dQ j s f with⟨v,c⟩|⟨rfl,rfl⟩
  .obtain⟨s0,z,rfl⟩:=o.other h0 c;exact h.old j s0 z h0 FW
  .omega
 .have ME:Deaf (t++MemOp.ofEvents 0 fn pos es) 0=0:=by rw[Cy];exact a.deaf.2.2.1
  have aEw:(js Z base C w1.heap.size aU).n=rs.length:=hlen;have L:=B.aln (x:={g:=0,fn,pos,act:=.go rs.length}) (y:={g:=rs.length,fn:=q,pos:=pos',act:=.start}) AF AF ME AF
   (λb⟨s,p,_⟩=>AF)
  rw[K]at L;refine⟨aU,λj s f=>?_,L.conv (by simp[js]) rfl Jb rfl ?_ rfl rfl rfl rfl rfl ?_⟩
  .rcases dQ j s f with⟨_,c⟩|⟨rfl,rfl⟩
   .grind
   .rw[show rc.l=lc from rfl,a.tok.2];refine⟨AF,λe=>?_⟩;have:=(B.tL _ e).1.1;grind
  .rintro j b ⟨s,p,A⟩;rcases dQ j s p with⟨_,c⟩|⟨rfl,rfl⟩
   .exact .inl ⟨s,c,A⟩
   grind
  .rintro j ⟨s,p,A⟩;rcases dQ j s p with⟨_,c⟩|⟨rfl,rfl⟩
   .exact⟨s,c,A⟩
   .rw[show rc.l=lc from rfl,a.past.2]at A;cases A
end
end
section
section
variable{Z:e_}{Q:cf}{Stop:Bool->Z.Lo->aX->Prop}{base:Nat}{rs cI:List (cE Z)}{γ bF:Z.aN}{w w1:aL}{t:Trace}
def alM{n d:Nat}(h:QuitsD Q n d g):awake g:=λx e=>by rcases h.status with h|h<;>rw[h]at e<;>cases e
theorem Inv.awake(h:Inv Z Q Stop base rs γ w t):∀g∈kQ Z rs,awake g:=by intro g hg;obtain⟨j,a⟩:=Array.mem_iff_getElem?.1 hg;rw[Cx]at a;obtain⟨r,b,rfl⟩:=vaj.1 a;cases h.sits j r b with|runs hg c _ _ _ _ _=>intro x e;grind|waits hg _ _ _ _ _ _ _ _=>intro x e;grind|leaves _ hq _ _=>exact alM hq
def Inv.rel(h:Inv Z Q Stop base rs γ w t){j:Nat}{r:cE Z}(a:rs[j]?=some r):dP Z r.l γ r.X w:=
 let⟨e,d,c,b⟩:=h.rely j r a
 ⟨e,h.mt,⟨rs.map (·.l),j,AF,h.tQ⟩,d,c,b⟩
theorem Inv.step(G:Z.Good)(C:∀l X,Stop false l X->Z.Left l/\∃n,QuitsD Q n (Z.deaf l) X.g)(h:Inv Z Q Stop base rs γ w t)(U:base<=rs.length)(sl:ubb):
 RD Z Stop rs\/∃cI T w' sl' ops,stepT Q (crowd (kQ Z rs) w sl)=(.next (crowd (kQ Z cI) w' sl'),ops)/\Cu (My Z Q Stop) (meas cI T) (meas rs γ)/\Inv Z Q Stop base cI T w' (t++ops)/\base<=cI.length:=by
 by_cases c6:RD Z Stop rs
 .grind
 refine .inr ?_;obtain⟨j,l,R,aEy,MF⟩:=G.ow γ _ h.tQ;rw[vbc]at R;obtain⟨L,RF,rfl⟩:=vaj.1 R;have K:L.g.status=.running:=by cases h.sits j L RF with|runs hg D _ _ _ _ _=>grind|waits _ _ _ _ _ A _ _ _=>grind|leaves _ _ c _=>grind
 obtain⟨i,g,d,sl',hi,aEz,hst⟩:=crowd_pick (P:=Q) (w:=w) (sl:=sl) h.awake ⟨j,L.g,by grind[Cx],K⟩;rw[Cx]at hi;obtain⟨r,a,rfl⟩:=vaj.1 hi;have FE:i<rs.length:=(vab.1 a).1;have f:=h.at G d;rw[hst];have M:(kQ Z rs)[i]?=some r.g:=by grind[Cx]
 have aEA:ye r.g=1:=by grind[ye]
 cases h.sits i r a with
 |runs hg D ht hn hd h0 c=>
  rcases ht.next with hs|⟨_,dr⟩
  .exfalso;rcases vbn i with e|e
   .subst e;exact c6 ⟨r,a,hs,hg⟩
   grind
  .cases dr (w.at d) γ (G.refl _ _) (f.rel a)with
   |quiet q hq u=>
    rename_i g1 w1 es;rw[<-hg]at q;have Y:Z.tN γ w1:=by refine G.mt γ (w.at d) w1 (λb v=>?_) f.mt;exact hq.sh b (f.low b (.inr v)) v
    have I2:Says Z r.l r.l (grown r.X.mine (w.at d) w1) es:=by
     refine .inl ⟨rfl,rfl,?_,hq.evs⟩;have:∀(l:ubj)(d:Nat),(∀e∈l,¬uX Z e)->deafBehind d l.toArray=d:=by intro l;induction l with|nil=>intro d _;rfl|cons e l ih=>intro d c;have he:=c e Ab;have h1:=ih d (λe' f=>c e' AF);grind[deafBehind,uX]
     exact(this es.toList (Z.deaf r.l) (λe he A=>hq.low (.inl AF))).symm
    have J:(rs.map (·.l)).set i r.l=rs.map (·.l):=by apply vca;grind
    obtain⟨cI,z,y,S⟩:=f.goes G C a c hd hq.keep Y (by rw[J];exact h.tQ) (λ_ s _ _=>G.refl _ _) hq.run I2 AF u AF r.g.frame.fn r.g.frame.place;refine⟨cI,γ,w1,sl',_,by grind[runT_crowd_go],?_,y,?_⟩
    .refine .inr ⟨rfl,.inl ⟨⟨i,(i==0,r.l,γ,r.X),(i==0,r.l,γ,⟨g1,w1,grown r.X.mine (w.at d) w1⟩),by grind[meas,FV],?_,S⟩,h.alA G⟩⟩;refine⟨?_,rfl,rfl,rfl,w.at d,g1,w1,es,f.rel a,AF,hq.run,hq.low,rfl⟩;intro hs;rcases vbn i with e|e
     .subst e;exact c6 ⟨r,a,hs,hg⟩
     grind
    .have:=vbx Array.size z;grind[kQ]
   |turn q hq jd u=>rename_i g1 w1 es l1 bF;obtain⟨k1,k2⟩:=alB a f.tQ hq.AD;obtain⟨cI,z,y,S⟩:=f.goes G C a c hd hq.keep hq.mt k1 k2 hq.run hq.says (by rw[hg];exact hq.I0) u jd r.g.frame.fn r.g.frame.place;rw[<-hg]at q;refine⟨cI,bF,w1,sl',_,by grind[runT_crowd_go],.inl hq.AD.1,y,?_⟩;have:=vbx Array.size z;grind[kQ]
   |wait q N A _=>
    rw[<-hg]at q;let r1:cE Z:={r with g:={r.X.g with status:=.blocked}}
    have m:=Mz rs a r1 id;have V:¬Stop (i==0) r.l r.X:=by
     intro hs;rcases vbn i with e|e
     .subst e;exact c6 ⟨r,a,hs,hg⟩
     grind
    refine⟨_,γ,w.at d,sl',_,by rw[runT_crowd_go M q,alG (by rw[hg]),Ry rs i r1 id,hg],?_,?_,?_⟩
    .refine .inr ⟨rfl,.inr ⟨YR a m rfl rfl,.inr ⟨?_,?_⟩⟩⟩
     .have:=YQ a m;simp only[meas];grind
     .have:=alF a m;simp only[meas];have e:ye r1.g=0:=rfl;omega
    .have H:∀fn pos,MemOp.ofEvents i fn pos #[]=#[]:=λ_ _=>by rw[ofEvents_eq];simp
     rw[H,Array.append_empty];refine f.record a m rfl rfl (λk s hk hs=>?_) (.waits rfl D N ht V A hd h0 c) (λ_ _ x=>x);obtain⟨s0,F,rfl⟩:=m.other hk hs;exact h.sits k s0 F
    grind
   |born O q v u hc=>rename_i g1 child w1 es l1 bF lc;have H:i=0:=AF;subst H;rw[<-hg]at q;obtain⟨cI,z,y⟩:=f.alH G C U a c hd v u hc r.g.frame.fn child.frame.fn r.g.frame.place r.g.frame.place;refine⟨cI,bF,w1,sl',_,by grind[runT_crowd_spawn,kQ],.inl v.a6,y,?_⟩;have:=vbx Array.size z;grind[kQ]
 |waits hg D N ht hn A hd h0 c=>grind
 |leaves O hq c hs=>
  obtain⟨g,l,X,n⟩:=r;cases n with
  |zero=>have:=hq.1;grind
  |succ n=>
   rcases hq with⟨hf,_⟩|⟨_,g',es,aEB,q,E⟩
   .grind
   .let r1:cE Z:=⟨g',l,X,n⟩
    have I:stepG Q (i==0) g (w.at d)=.go g' (w.at d) es:=AF;have m:=Mz rs a r1 (woken Q g g' (w.at d));have ml:i≠0:=AF;refine⟨_,γ,w.at d,sl',_,by rw[runT_crowd_go M I,Ry rs i r1],?_,?_,?_⟩
    .refine .inr ⟨rfl,.inr ⟨YR a m rfl rfl,.inl ?_⟩⟩;have:=YQ a m;simp only[meas];grind
    .refine f.record a m rfl rfl (λk s hk W=>?_) (.leaves O (by grind[Deaf_own]) c hs) (λsize aU hT=>?_)
     .obtain⟨s0,F,rfl⟩:=m.other hk W;rw[Deaf_other t (g':=i) (Ne.symm hk) _ YS];have B:g'.status=.running\/g'.status=.finished:=E.status;have key:=h.sits k s0 F;rcases B with B|B
      .exact key.woken G B (G.refl _ _) (.inr id)
      .have eqv:∀o,woken Q g g' (w.at d) o=woken Q g {g' with status:=.running} (w.at d) o:=λo=>by grind[woken]
       rw[eqv];exact key.woken G (g1:={g' with status:=.running}) rfl (G.refl _ _) (.inr id)
     .have:=ez.mute (p:=js Z base rs size aU) (i:=i) FE g.frame.fn g.frame.place es.toList hT AF;omega
    grind
def phase(G:Z.Good)(c:∀l X,Stop false l X->Z.Left l/\∃n,QuitsD Q n (Z.deaf l) X.g)(h:Inv Z Q Stop base rs γ w t)(g:base<=rs.length)(sl:ubb):
 uY Q (crowd (kQ Z rs) w sl) t λd cN=>∃cI b w' sl',d=crowd (kQ Z cI) w' sl'/\RD Z Stop cI/\Inv Z Q Stop base cI b w' cN/\base<=cI.length:=by
 refine alp (alq (My Z Q Stop)) (λa m t=>∃rs γ w sl,m=crowd (kQ Z rs) w sl/\a=meas rs γ/\Inv Z Q Stop base rs γ w t/\base<=rs.length) _ ?_ (meas rs γ) _ _ AF;rintro a m t ⟨rs,γ,w,sl,rfl,rfl,f,e⟩;rcases f.step G c e sl with hs|⟨cI,b,w',sl',ops,o,k,j,i⟩
 .grind
 grind
