/- The reference's type of an expression. -/
import Derived.Test.YtekkicgbloidkaaGreatDoorRfE
import Derived.Test.YtekkicgbloidkaaGreatDoorEx
import Derived.Test.YtekkicgbloidkaaGreatDoorGrow
import Derived.Test.YtekkicgbloidkaaGreatDoorSvJ
import Derived.Deep.CutBlock
namespace Go.Proofs.YtekkicgbloidkaaGreatDoor
open Go Go.RowKit
attribute [local go_sem ↓] Go.wp_at_zero Go.wp_at_succ

/-- Types as they may be. -/
def TysOk (l : List (Int × Int)) : Prop := ∀ t ∈ l, TyOk t

theorem colAt_ok {cols : List (Int × Int)} {p : Int} (hc : TysOk cols) (h : (colAt cols p).2 = true) : TyOk (colAt cols p).1 := by
  unfold colAt at *
  split at h
  · rename_i hp
    rw [if_pos hp]
    have : p.toNat < cols.length := by omega
    simp only [List.getD_eq_getElem?_getD, List.getElem?_eq_getElem this, Option.getD_some]
    exact hc _ (List.getElem_mem this)
  · simp at h
theorem scFits_ok {a : Int} (h : scFits a = true) : TyOk (2, a) := by
  unfold scFits at h; simp at h; exact .inl ⟨rfl, h.1, h.2⟩
theorem leafTy_ok {t : DTerm} {cols : List (Int × Int)} (hc : TysOk cols) (h : (leafTy t cols).2 = true) : TyOk (leafTy t cols).1 := by
  unfold leafTy at *
  split
  · rename_i h1; rw [if_pos h1] at h; exact colAt_ok hc h
  rename_i h1; rw [if_neg h1] at h
  split
  · exact .inr ⟨.inl rfl, rfl⟩
  rename_i h2; rw [if_neg h2] at h
  split
  · rename_i h3; rw [if_pos h3] at h; exact scFits_ok h
  rename_i h3; rw [if_neg h3] at h
  split
  · exact .inr ⟨.inr (.inl rfl), rfl⟩
  · rename_i h4; rw [if_neg h4] at h; simp at h
theorem unTy_ok {t : DTerm} {o : Int × Int} (h : (unTy t o).2 = true) : TyOk (unTy t o).1 := by
  unfold unTy at *
  split
  · rename_i h1; rw [if_pos h1] at h; simp only [Bool.and_eq_true] at h; exact scFits_ok h.1
  rename_i h1; rw [if_neg h1] at h
  split
  · exact .inr ⟨.inr (.inr rfl), rfl⟩
  rename_i h2; rw [if_neg h2] at h
  split
  · exact .inr ⟨.inr (.inr rfl), rfl⟩
  · rename_i h3; rw [if_neg h3] at h; simp at h
theorem binTy_ok {op : Int} {l r : Int × Int} (hl : TyOk l) (h : (binTy op l r).2 = true) : TyOk (binTy op l r).1 := by
  unfold binTy at *
  split
  · exact hl
  rename_i h1; rw [if_neg h1] at h
  split
  · rename_i h2; rw [if_pos h2] at h
    unfold prodTy at *
    split
    · rename_i h3; rw [if_pos h3] at h
      split
      · exact .inr ⟨.inl rfl, rfl⟩
      · rename_i h4; rw [if_neg h4] at h; exact scFits_ok h
    · rename_i h3; rw [if_neg h3] at h; simp at h
  rename_i h2; rw [if_neg h2] at h
  split
  · exact .inr ⟨.inr (.inr rfl), rfl⟩
  rename_i h3; rw [if_neg h3] at h
  split
  · exact .inr ⟨.inr (.inr rfl), rfl⟩
  · rename_i h4; rw [if_neg h4] at h; simp at h
theorem apTy_ok {t : DTerm} {tk cols : List (Int × Int)} (hc : TysOk cols) (hk : TysOk tk) (h : (apTy t tk cols).2 = true) : TyOk (apTy t tk cols).1 := by
  match tk, hk with
  | [], _ => exact leafTy_ok hc h
  | [o], _ => exact unTy_ok h
  | l :: r :: _, hk => exact binTy_ok (hk l (by simp)) h
theorem exprStep_ok {cols st st' : List (Int × Int)} {t : DTerm} (hc : TysOk cols) (hs : TysOk st) (h : exprStep cols st t = some st') : TysOk st' ∧ 0 < st'.length := by
  unfold exprStep at h
  split at h
  · split at h
    · rename_i h1 h2
      simp only [Option.some.injEq] at h
      subst h
      refine ⟨fun x hx => ?_, by simp⟩
      rw [List.mem_append] at hx
      rcases hx with hx | hx
      · exact hs x (List.mem_of_mem_take hx)
      · simp only [List.mem_singleton] at hx
        subst hx
        exact apTy_ok hc (fun y hy => hs y (List.mem_of_mem_drop hy)) h2
    · simp at h
  · simp at h

theorem operands_leaf {op : Int} (h : 1 ≤ op ∧ op ≤ 4) : operands op = (0, true) := by
  unfold operands; rw [if_pos (by omega)]
theorem operands_one {op : Int} (h : op = 8 ∨ op = 14 ∨ op = 15) : operands op = (1, true) := by
  unfold operands; rw [if_neg (by omega), if_pos h]
theorem operands_two {op : Int} (h : op = 5 ∨ op = 6 ∨ op = 7 ∨ op = 9 ∨ op = 10 ∨ op = 11 ∨ op = 12 ∨ op = 13) : operands op = (2, true) := by
  unfold operands; rw [if_neg (by omega), if_neg (by omega), if_pos h]
theorem operands_none {op : Int} (h1 : ¬ (1 ≤ op ∧ op ≤ 4)) (h2 : ¬ (op = 8 ∨ op = 14 ∨ op = 15)) (h3 : ¬ (op = 5 ∨ op = 6 ∨ op = 7 ∨ op = 9 ∨ op = 10 ∨ op = 11 ∨ op = 12 ∨ op = 13)) : (operands op).2 = false := by
  unfold operands; rw [if_neg (by omega), if_neg h2, if_neg h3]

/-- What the switch leaves: whether the term fits; and if it does, what is left of the stack, and the new type. -/
def SwRel (w0 : World) (bt : Nat) (cols st : List (Int × Int)) (t : DTerm) (v : Value) (okb : Bool) (W : World) : Prop :=
  Below w0.heap.size w0 W ∧ Box W w0.heap.size #[.int .i64 0, .int .i64 0] 108 ∧
  (okb = false → exprStep cols st t = none) ∧
  (okb = true → ∃ (r : Int × Int) (st1 : List (Int × Int)) (a : Option Addr) (c : Nat), exprStep cols st t = some (st1 ++ [r]) ∧ st1.length ≤ st.length ∧ v = .slice a st1.length c ∧ W.ownsRow (w0.heap.size + 1) 108 2 v st1.length (flatTy st1) ∧ Box W bt #[.int .i64 r.1, .int .i64 r.2] 108)

theorem exprStep_leaf {cols st : List (Int × Int)} {t : DTerm} (h : 1 ≤ t.op ∧ t.op ≤ 4) : exprStep cols st t = if (leafTy t cols).2 = true then some (st ++ [(leafTy t cols).1]) else none := by
  rw [exprStep_yes (m := 0) (by rw [operands_leaf h]; rfl) (by rw [operands_leaf h]) (Nat.zero_le _)]
  simp [apTy]
theorem exprStep_one {cols s' : List (Int × Int)} {o : Int × Int} {t : DTerm} (h : t.op = 8 ∨ t.op = 14 ∨ t.op = 15) : exprStep cols (s' ++ [o]) t = if (unTy t o).2 = true then some (s' ++ [(unTy t o).1]) else none := by
  rw [exprStep_yes (m := 1) (by rw [operands_one h]; rfl) (by rw [operands_one h]) (by simp)]
  simp [apTy]
theorem exprStep_two {cols s' : List (Int × Int)} {l r : Int × Int} {t : DTerm} (h : t.op = 5 ∨ t.op = 6 ∨ t.op = 7 ∨ t.op = 9 ∨ t.op = 10 ∨ t.op = 11 ∨ t.op = 12 ∨ t.op = 13) : exprStep cols (s' ++ [l, r]) t = if (binTy t.op l r).2 = true then some (s' ++ [(binTy t.op l r).1]) else none := by
  rw [exprStep_yes (m := 2) (by rw [operands_two h]; rfl) (by rw [operands_two h]) (by simp)]
  simp [apTy]
theorem last_one {l : List (Int × Int)} (h : 0 < l.length) : ∃ s o, l = s ++ [o] := ⟨l.dropLast, l.getLast (List.length_pos_iff.1 h), (List.dropLast_concat_getLast _).symm⟩
theorem last_two {l : List (Int × Int)} (h : 2 ≤ l.length) : ∃ s a b, l = s ++ [a, b] := by
  obtain ⟨s, b, rfl⟩ := last_one (l := l) (by omega)
  obtain ⟨s', a, rfl⟩ := last_one (l := s) (by simp at h; omega)
  exact ⟨s', a, b, by simp⟩

set_option maxRecDepth 20000 in
set_option maxHeartbeats 8000000 in
theorem exprType_any (e : List DTerm) (cols : List (Int × Int)) (hco : TysOk cols) (ve vc : Value) (w : World) (he : RTerms w ve e) (hv : RTys w vc cols) :
    Calls Tryz.prog 74 #[ve, vc] w fun en w' => TyRet en (exprTy e cols) ∧ Below w.heap.size w w' := by
  obtain ⟨ao, cap, rfl, hl, hel⟩ := he
  by_cases hs : e.length < 1 ∨ 20 < e.length
  · have HE : Hid (exprTy e cols = ((0, 0), false)) := by unfold Hid exprTy; rw [if_pos hs]
    rcases hs with hs | hs
    all_goals
      go_enter Tryz.func74, Tryz.ntmps74
      go_wp2
      exact bodyPost_ret (v := .tuple #[tyV (0, 0), .bool false]) (by simp [results, Tryz.results74, go_sem]) rfl ⟨⟨(0, 0), by rw [HE.out], fun _ => by rw [HE.out]⟩, (Below.refl _ _).alloc (Nat.le_refl _) _⟩
  have h1 : 1 ≤ e.length := by omega
  have h20 : e.length ≤ 20 := by omega
  have HS : Hid _ := hs
  have HCO : Hid _ := hco
  clear hs hco
  go_enter Tryz.func74, Tryz.ntmps74
  go_wp2
  go_loopw [6, 7] (fun v i W => ∃ (k : Nat) (st : List (Int × Int)), k ≤ e.length ∧ i = .int .i64 k ∧ exprRun cols (e.take k) [] = some st ∧ st.length ≤ k ∧ TysOk st ∧ (0 < k → 0 < st.length) ∧ (∃ a c, v = .slice a st.length c) ∧ W.ownsRow (w.heap.size + 1) 108 2 v st.length (flatTy st) ∧ Below w.heap.size w W ∧ Box W w.heap.size #[.int .i64 0, .int .i64 0] 108)
    (fun _ i _ => e.length - (intOf i).toNat)
  case atStart => exact ⟨0, [], Nat.zero_le _, rfl, rfl, by simp, fun t ht => by simp at ht, fun h => absurd h (Nat.lt_irrefl _), ⟨none, 0, rfl⟩, World.ownsRow_nil _ _ _ _, (Below.refl _ _).alloc (Nat.le_refl _) _, Box.new _ _ _⟩
  case round =>
    obtain ⟨k, st, hk, rfl, hrun, hstk, htok, hpos, ⟨a, c, rfl⟩, hown, hB, hbox⟩ := hrel
    have HR : Hid _ := hrun
    have HTO : Hid (TysOk st) := htok
    have HPO : Hid _ := hpos
    have HO : Hid (wr.ownsRow (w.heap.size + 1) 108 2 (.slice a st.length c) st.length (flatTy st)) := hown
    have HB : Hid (Below w.heap.size w wr) := hB
    have HX : Hid (Box wr w.heap.size #[.int .i64 0, .int .i64 0] 108) := hbox
    clear hrun htok hpos hown hB hbox
    by_cases hlt : k < e.length
    · obtain ⟨b, off, rfl, d0, d1, d2, d3, d4⟩ := term_at hel hlt
      have kp := Keeps.of_below HB.out
      have e0 := kp _ _ _ d0
      have e1 := kp _ _ _ d1
      have e2 := kp _ _ _ d2
      have e3 := kp _ _ _ d3
      have hbw := cell_lt e0
      have hxl := HX.out.lt
      clear kp d0 d1 d2 d3
      generalize hT : e[k] = t at *
      have HT : Hid _ := hT
      clear hT
      have hi0 : (0 : Int) ≤ (k : Int) := by omega
      have hi1 : (k : Int) < (e.length : Int) := by omega
      go_upto_block 2 with fail
      go_cut [6, 9, 10] (fun v ok _ W => ∃ okb, ok = .bool okb ∧ SwRel w wr.heap.size cols st t v okb W)
      case first =>
        have bt0 := Box.new wr #[.int .i64 0, .int .i64 0] 108
        have hBW : Below w.heap.size w (wr.alloc (.cells #[.int .i64 0, .int .i64 0] 108)) := HB.out.alloc (by have := HB.out.size; omega) _
        have HXW : Hid (Box (wr.alloc (.cells #[.int .i64 0, .int .i64 0] 108)) w.heap.size #[.int .i64 0, .int .i64 0] 108) := HX.out.alloc _
        have HOW : Hid ((wr.alloc (.cells #[.int .i64 0, .int .i64 0] 108)).ownsRow (w.heap.size + 1) 108 2 (.slice a st.length c) st.length (flatTy st)) := HO.out.alloc _
        have HBW : Hid _ := hBW
        have HBT : Hid (Box (wr.alloc (.cells #[.int .i64 0, .int .i64 0] 108)) wr.heap.size #[.int .i64 0, .int .i64 0] 108) := bt0
        clear bt0 hBW
        by_cases hL : 1 ≤ t.op ∧ t.op ≤ 4
        · have HSTEP : Hid _ := exprStep_leaf (cols := cols) (st := st) hL
          have hvW := RSl.mono mono_RTy (Keeps.of_below HBW.out) hv
          have HL : Hid _ := hL
          obtain ⟨hL1, hL4⟩ := hL
          go_wp2_with fail
          refine (rleaf_any t HL.out d4 cols vc _ hvW).mono ?_
          rintro en w2 ⟨⟨r, rfl, hr⟩, hb2⟩
          have HR2 : Hid _ := hr
          have bt2 := HBT.out.call hb2
          have HBT2 : Hid (Box w2 wr.heap.size #[.int .i64 0, .int .i64 0] 108) := bt2
          obtain ⟨hcr, hfr, hlr⟩ := bt2.all
          have HX2 : Hid (Box w2 w.heap.size #[.int .i64 0, .int .i64 0] 108) := HXW.out.call hb2
          have HO2 : Hid (w2.ownsRow (w.heap.size + 1) 108 2 (.slice a st.length c) st.length (flatTy st)) := owns_call HOW.out hb2
          have HB2 : Hid (Below w.heap.size w w2) := Below.step hb2 HBW.out (by have := HB.out.size; simp; omega)
          clear hr hb2 hvW bt2
          go_wp2_with fail
          go_meet
          case rel =>
            refine ⟨(leafTy t cols).2, rfl, ?_⟩
            refine ⟨((HB2.out.setCell (by have := HB.out.size; simp; omega) _).setCell (by have := HB.out.size; simp; omega) _), (HX2.out.set_ne (by simp; omega) _).set_ne (by simp; omega) _, fun h => by rw [HSTEP.out, if_neg (by simp [h])], fun h => ⟨r, st, a, c, ?_, Nat.le_refl _, rfl, ?_, (HBT2.out.set 0 _).set 1 _⟩⟩
            · rw [HSTEP.out, if_pos h, HR2.out h]
            · refine owns_blk HO2.out (fun g hg => ?_)
              have hg1 := (HOW.out.lt g hg).2
              have hg2 : g ≠ wr.heap.size := by have := (HO.out.lt g hg).2; omega
              rw [Below.heap_setCell _ _ _ _ hg2, Below.heap_setCell _ _ _ _ hg2]
        by_cases hO1 : t.op = 8 ∨ t.op = 14 ∨ t.op = 15
        · by_cases hn0 : 0 < st.length
          · obtain ⟨s', o, rfl⟩ := last_one hn0
            have HSTEP : Hid _ := exprStep_one (cols := cols) (s' := s') (o := o) hO1
            have HOK : Hid (TyOk o) := HTO.out o (by simp)
            obtain ⟨g, cg, hag, hgb, hgl⟩ := World.ownsRow.form HO.out hn0
            simp only [Value.slice.injEq, true_and] at hag
            obtain ⟨rfl, rfl⟩ := hag
            have hf := flatTy_at (s' ++ [o]) s'.length (by simp)
            have hg0 := owns_cell HO.out (s'.length * 2) (.int .i64 o.1) (by rw [hf.1]; simp)
            have hg1 := owns_cell HO.out (s'.length * 2 + 1) (.int .i64 o.2) (by rw [hf.2]; simp)
            have hgw : g ≠ wr.heap.size := by omega
            have hcap : s'.length + 1 ≤ c := by
              rcases HO.out.2 with ⟨h, _⟩ | ⟨_, _, _, h, _, _, hnc, _⟩
              · simp at h
              · simp only [Value.slice.injEq] at h
                rw [← h.2.2] at hnc; simpa using hnc
            have HTAKE : Hid ((wr.alloc (.cells #[.int .i64 0, .int .i64 0] 108)).ownsRow (w.heap.size + 1) 108 2 (.slice (some ⟨g, 0, none⟩) s'.length c) s'.length (flatTy s')) := by
              have h2 := owns_take HOW.out s'.length (by simp)
              rw [flatTy_take] at h2
              unfold Hid; simpa using h2
            have hlen : (s' ++ [o]).length = s'.length + 1 := by simp
            have hstk' : s'.length + 1 ≤ k := by rw [← hlen]; exact hstk
            have hj0 : (0 : Int) ≤ (s'.length : Int) := by omega
            have hj1 : (s'.length : Int) < ((s'.length + 1 : Nat) : Int) := by omega
            have hj2 : (s'.length : Int) ≤ (c : Int) := by omega
            have hw1 : IntKind.i64.wrap (s'.length : Int) = (s'.length : Int) := by rw [IntKind.wrap_i64]; omega
            have hw2 : IntKind.i64.wrap ((s'.length : Int) + 1 - 1) = (s'.length : Int) := by rw [IntKind.wrap_i64]; omega
            have hj5 : (s'.length : Int) < (s'.length : Int) + 1 := by omega
            have hw4 : IntKind.i64.wrap (((s'.length + 1 : Nat) : Int) - 1) = (s'.length : Int) := by rw [IntKind.wrap_i64]; omega
            have hj6 : (s'.length : Int) < (((s' ++ [o]).length : Nat) : Int) := by rw [hlen]; omega
            have hw5 : IntKind.i64.wrap ((((s' ++ [o]).length : Nat) : Int) - 1) = (s'.length : Int) := by rw [hlen, IntKind.wrap_i64]; omega
            obtain ⟨op, ta, tv, tss⟩ := t
            simp only at hO1 e0 e1 e2 e3 d4
            clear hf hL hstk
            rcases hO1 with rfl | rfl | rfl
            · go_wp2_with fail
              go_region_held3 (fun W => W.cell? ⟨b, off + k * 4, none⟩ = some (.int .i64 8) ∧ W.cell? ⟨b, off + k * 4 + 1, none⟩ = some (.int .i64 ta) ∧ W.cell? ⟨b, off + k * 4 + 2, none⟩ = some (.int .i64 tv) ∧ W.cell? ⟨b, off + k * 4 + 3, none⟩ = some (.string tss) ∧ W.cell? ⟨g, s'.length * 2, none⟩ = some (.int .i64 o.1) ∧ W.cell? ⟨g, s'.length * 2 + 1, none⟩ = some (.int .i64 o.2))
                ((go_split_ands; refine ⟨?_, ?_, ?_, ?_, ?_, ?_⟩ <;> first | (exact (Keeps.of_below hb2) _ _ _ (by assumption)) | (exact cell_set_ne (cell_set_ne (by assumption) (by omega)) (by omega)) | (go_keep; done)))
                (first | (go_at_call 89; refine (one_any ⟨8, ta, tv, tss⟩ (.inl rfl) o HOK.out _).mono ?_; rintro en w2 ⟨⟨r, rfl, hr⟩, hb2⟩; have bt2 := HBT.out.drew.call hb2; obtain ⟨hcr, hfr, hlr⟩ := bt2.all))
              have HR2 : Hid _ := hr
              have HBT2 : Hid (Box w2 wr.heap.size #[.int .i64 0, .int .i64 0] 108) := bt2
              have HX2 : Hid (Box w2 w.heap.size #[.int .i64 0, .int .i64 0] 108) := HXW.out.drew.call hb2
              have HO2 : Hid (w2.ownsRow (w.heap.size + 1) 108 2 (.slice (some ⟨g, 0, none⟩) s'.length c) s'.length (flatTy s')) := owns_call HTAKE.out.drew hb2
              have HB2 : Hid (Below w.heap.size w w2) := Below.step hb2 HBW.out.drew (by have := HB.out.size; simp; omega)
              clear hr hb2 bt2
              go_wp2_with fail
              go_meet
              case rel =>
                refine ⟨_, rfl, ((HB2.out.setCell (by have := HB.out.size; simp; omega) _).setCell (by have := HB.out.size; simp; omega) _), (HX2.out.set_ne (by simp; omega) _).set_ne (by simp; omega) _, fun h => by rw [HSTEP.out, if_neg (by simp [h])], fun h => ⟨r, s', some ⟨g, 0, none⟩, c, ?_, by simp, ?_, ?_, (HBT2.out.set 0 _).set 1 _⟩⟩
                · rw [HSTEP.out, if_pos h, HR2.out h]
                · simp
                · refine owns_blk (by simpa using HO2.out) (fun g' hg' => ?_)
                  have hgg : g' = g := by simp [Value.ownBlock] at hg'; omega
                  subst hgg
                  rw [Below.heap_setCell _ _ _ _ hgw, Below.heap_setCell _ _ _ _ hgw]
            · go_wp2_with fail
              go_region_held3 (fun W => W.cell? ⟨b, off + k * 4, none⟩ = some (.int .i64 14) ∧ W.cell? ⟨b, off + k * 4 + 1, none⟩ = some (.int .i64 ta) ∧ W.cell? ⟨b, off + k * 4 + 2, none⟩ = some (.int .i64 tv) ∧ W.cell? ⟨b, off + k * 4 + 3, none⟩ = some (.string tss) ∧ W.cell? ⟨g, s'.length * 2, none⟩ = some (.int .i64 o.1) ∧ W.cell? ⟨g, s'.length * 2 + 1, none⟩ = some (.int .i64 o.2))
                ((go_split_ands; refine ⟨?_, ?_, ?_, ?_, ?_, ?_⟩ <;> first | (exact (Keeps.of_below hb2) _ _ _ (by assumption)) | (exact cell_set_ne (cell_set_ne (by assumption) (by omega)) (by omega)) | (go_keep; done)))
                (first | (go_at_call 89; refine (one_any ⟨14, ta, tv, tss⟩ (.inr (.inl rfl)) o HOK.out _).mono ?_; rintro en w2 ⟨⟨r, rfl, hr⟩, hb2⟩; have bt2 := HBT.out.drew.call hb2; obtain ⟨hcr, hfr, hlr⟩ := bt2.all))
              have HR2 : Hid _ := hr
              have HBT2 : Hid (Box w2 wr.heap.size #[.int .i64 0, .int .i64 0] 108) := bt2
              have HX2 : Hid (Box w2 w.heap.size #[.int .i64 0, .int .i64 0] 108) := HXW.out.drew.call hb2
              have HO2 : Hid (w2.ownsRow (w.heap.size + 1) 108 2 (.slice (some ⟨g, 0, none⟩) s'.length c) s'.length (flatTy s')) := owns_call HTAKE.out.drew hb2
              have HB2 : Hid (Below w.heap.size w w2) := Below.step hb2 HBW.out.drew (by have := HB.out.size; simp; omega)
              clear hr hb2 bt2
              go_wp2_with fail
              go_meet
              case rel =>
                refine ⟨_, rfl, ((HB2.out.setCell (by have := HB.out.size; simp; omega) _).setCell (by have := HB.out.size; simp; omega) _), (HX2.out.set_ne (by simp; omega) _).set_ne (by simp; omega) _, fun h => by rw [HSTEP.out, if_neg (by simp [h])], fun h => ⟨r, s', some ⟨g, 0, none⟩, c, ?_, by simp, ?_, ?_, (HBT2.out.set 0 _).set 1 _⟩⟩
                · rw [HSTEP.out, if_pos h, HR2.out h]
                · simp
                · refine owns_blk (by simpa using HO2.out) (fun g' hg' => ?_)
                  have hgg : g' = g := by simp [Value.ownBlock] at hg'; omega
                  subst hgg
                  rw [Below.heap_setCell _ _ _ _ hgw, Below.heap_setCell _ _ _ _ hgw]
            · go_wp2_with fail
              go_region_held3 (fun W => W.cell? ⟨b, off + k * 4, none⟩ = some (.int .i64 15) ∧ W.cell? ⟨b, off + k * 4 + 1, none⟩ = some (.int .i64 ta) ∧ W.cell? ⟨b, off + k * 4 + 2, none⟩ = some (.int .i64 tv) ∧ W.cell? ⟨b, off + k * 4 + 3, none⟩ = some (.string tss) ∧ W.cell? ⟨g, s'.length * 2, none⟩ = some (.int .i64 o.1) ∧ W.cell? ⟨g, s'.length * 2 + 1, none⟩ = some (.int .i64 o.2))
                ((go_split_ands; refine ⟨?_, ?_, ?_, ?_, ?_, ?_⟩ <;> first | (exact (Keeps.of_below hb2) _ _ _ (by assumption)) | (exact cell_set_ne (cell_set_ne (by assumption) (by omega)) (by omega)) | (go_keep; done)))
                (first | (go_at_call 89; refine (one_any ⟨15, ta, tv, tss⟩ (.inr (.inr rfl)) o HOK.out _).mono ?_; rintro en w2 ⟨⟨r, rfl, hr⟩, hb2⟩; have bt2 := HBT.out.drew.call hb2; obtain ⟨hcr, hfr, hlr⟩ := bt2.all))
              have HR2 : Hid _ := hr
              have HBT2 : Hid (Box w2 wr.heap.size #[.int .i64 0, .int .i64 0] 108) := bt2
              have HX2 : Hid (Box w2 w.heap.size #[.int .i64 0, .int .i64 0] 108) := HXW.out.drew.call hb2
              have HO2 : Hid (w2.ownsRow (w.heap.size + 1) 108 2 (.slice (some ⟨g, 0, none⟩) s'.length c) s'.length (flatTy s')) := owns_call HTAKE.out.drew hb2
              have HB2 : Hid (Below w.heap.size w w2) := Below.step hb2 HBW.out.drew (by have := HB.out.size; simp; omega)
              clear hr hb2 bt2
              go_wp2_with fail
              go_meet
              case rel =>
                refine ⟨_, rfl, ((HB2.out.setCell (by have := HB.out.size; simp; omega) _).setCell (by have := HB.out.size; simp; omega) _), (HX2.out.set_ne (by simp; omega) _).set_ne (by simp; omega) _, fun h => by rw [HSTEP.out, if_neg (by simp [h])], fun h => ⟨r, s', some ⟨g, 0, none⟩, c, ?_, by simp, ?_, ?_, (HBT2.out.set 0 _).set 1 _⟩⟩
                · rw [HSTEP.out, if_pos h, HR2.out h]
                · simp
                · refine owns_blk (by simpa using HO2.out) (fun g' hg' => ?_)
                  have hgg : g' = g := by simp [Value.ownBlock] at hg'; omega
                  subst hgg
                  rw [Below.heap_setCell _ _ _ _ hgw, Below.heap_setCell _ _ _ _ hgw]
          · have hst : st = [] := List.eq_nil_of_length_eq_zero (by omega)
            subst hst
            have HN : Hid (exprStep cols [] t = none) := exprStep_no (m := 1) (by rw [operands_one hO1]; rfl) (fun h => by simp at h)
            obtain ⟨op, ta, tv, tss⟩ := t
            simp only at hO1 e0 e1 e2 e3 d4
            clear hL hn0
            rcases hO1 with rfl | rfl | rfl
            all_goals
              go_wp2_with fail
              go_meet
              case rel => exact ⟨false, rfl, HBW.out, HXW.out, fun _ => HN.out, fun h => by simp at h⟩
        by_cases hT1 : t.op = 5 ∨ t.op = 6 ∨ t.op = 7 ∨ t.op = 9 ∨ t.op = 10 ∨ t.op = 11 ∨ t.op = 12 ∨ t.op = 13
        · have gx1 : (1 : Int) ≤ t.op := by omega
          have gx4 : 4 < t.op := by omega
          have gx5 : (5 : Int) ≤ t.op := by omega
          have gx13 : t.op ≤ 13 := by omega
          have g8 : (t.op == 8) = false := by simp; omega
          have g14 : (t.op == 14) = false := by simp; omega
          have g15 : (t.op == 15) = false := by simp; omega
          have HT1 : Hid _ := hT1
          clear hL hO1 hT1
          by_cases hn2 : 2 ≤ st.length
          · obtain ⟨s', l, o, rfl⟩ := last_two hn2
            have HSTEP : Hid _ := exprStep_two (cols := cols) (s' := s') (l := l) (r := o) HT1.out
            have HOK : Hid (TyOk l ∧ TyOk o) := ⟨HTO.out l (by simp), HTO.out o (by simp)⟩
            obtain ⟨g, cg, hag, hgb, hgl⟩ := World.ownsRow.form HO.out (by omega)
            simp only [Value.slice.injEq, true_and] at hag
            obtain ⟨rfl, rfl⟩ := hag
            have hf := flatTy_at (s' ++ [l, o]) s'.length (by simp)
            have hf2 := flatTy_at (s' ++ [l, o]) (s'.length + 1) (by simp)
            have hg0 := owns_cell HO.out (s'.length * 2) (.int .i64 l.1) (by rw [hf.1]; simp)
            have hg1 := owns_cell HO.out (s'.length * 2 + 1) (.int .i64 l.2) (by rw [hf.2]; simp)
            have hg2 := owns_cell HO.out ((s'.length + 1) * 2) (.int .i64 o.1) (by rw [hf2.1]; simp)
            have hg3 := owns_cell HO.out ((s'.length + 1) * 2 + 1) (.int .i64 o.2) (by rw [hf2.2]; simp)
            have hgw : g ≠ wr.heap.size := by omega
            have hcap : s'.length + 2 ≤ c := by
              rcases HO.out.2 with ⟨h, _⟩ | ⟨_, _, _, h, _, _, hnc, _⟩
              · simp at h
              · simp only [Value.slice.injEq] at h
                rw [← h.2.2] at hnc; simpa using hnc
            have HTAKE : Hid ((wr.alloc (.cells #[.int .i64 0, .int .i64 0] 108)).ownsRow (w.heap.size + 1) 108 2 (.slice (some ⟨g, 0, none⟩) s'.length c) s'.length (flatTy s')) := by
              have h2 := owns_take HOW.out s'.length (by simp)
              rw [flatTy_take] at h2
              unfold Hid; simpa using h2
            have hlen : (s' ++ [l, o]).length = s'.length + 2 := by simp
            have hstk' : s'.length + 2 ≤ k := by rw [← hlen]; exact hstk
            have hj0 : (0 : Int) ≤ (s'.length : Int) := by omega
            have hj1 : (s'.length : Int) < ((s'.length + 2 : Nat) : Int) := by omega
            have hj2 : (s'.length : Int) ≤ (c : Int) := by omega
            have hj3 : (0 : Int) ≤ (s'.length : Int) + 1 := by omega
            have hj4 : (s'.length : Int) + 1 < ((s'.length + 2 : Nat) : Int) := by omega
            have hw1 : IntKind.i64.wrap (s'.length : Int) = (s'.length : Int) := by rw [IntKind.wrap_i64]; omega
            have hw2 : IntKind.i64.wrap ((s'.length : Int) + 2 - 2) = (s'.length : Int) := by rw [IntKind.wrap_i64]; omega
            have hw3 : IntKind.i64.wrap ((s'.length : Int) + 2 - 1) = ((s'.length + 1 : Nat) : Int) := by rw [IntKind.wrap_i64]; omega
            have hj5 : (s'.length : Int) < (s'.length : Int) + 2 := by omega
            have hj7 : (s'.length : Int) + 1 < (s'.length : Int) + 2 := by omega
            have hw4 : IntKind.i64.wrap (((s'.length + 2 : Nat) : Int) - 2) = (s'.length : Int) := by rw [IntKind.wrap_i64]; omega
            have hw6 : IntKind.i64.wrap (((s'.length + 2 : Nat) : Int) - 1) = ((s'.length + 1 : Nat) : Int) := by rw [IntKind.wrap_i64]; omega
            have hj6 : (s'.length : Int) < (((s' ++ [l, o]).length : Nat) : Int) := by rw [hlen]; omega
            have hj8 : ((s'.length + 1 : Nat) : Int) < (((s' ++ [l, o]).length : Nat) : Int) := by rw [hlen]; omega
            have hj9 : (s'.length : Int) + 1 < (((s' ++ [l, o]).length : Nat) : Int) := by rw [hlen]; omega
            have hw5 : IntKind.i64.wrap ((((s' ++ [l, o]).length : Nat) : Int) - 2) = (s'.length : Int) := by rw [hlen, IntKind.wrap_i64]; omega
            have hw7 : IntKind.i64.wrap ((((s' ++ [l, o]).length : Nat) : Int) - 1) = ((s'.length + 1 : Nat) : Int) := by rw [hlen, IntKind.wrap_i64]; omega
            clear hf hf2 hstk hn2
            go_wp2_with fail
            go_region_held3 (fun W => W.cell? ⟨b, off + k * 4, none⟩ = some (.int .i64 t.op) ∧ W.cell? ⟨g, s'.length * 2, none⟩ = some (.int .i64 l.1) ∧ W.cell? ⟨g, s'.length * 2 + 1, none⟩ = some (.int .i64 l.2) ∧ W.cell? ⟨g, (s'.length + 1) * 2, none⟩ = some (.int .i64 o.1) ∧ W.cell? ⟨g, (s'.length + 1) * 2 + 1, none⟩ = some (.int .i64 o.2))
              ((go_split_ands; refine ⟨?_, ?_, ?_, ?_, ?_⟩ <;> first | (exact (Keeps.of_below hb2) _ _ _ (by assumption)) | (exact cell_set_ne (cell_set_ne (by assumption) (by omega)) (by omega)) | (go_keep; done)))
              (first | (go_at_call 90; refine (two_any t.op HT1.out l o HOK.out.1 HOK.out.2 _).mono ?_; rintro en w2 ⟨⟨r, rfl, hr⟩, hb2⟩; have bt2 := HBT.out.drew.call hb2; obtain ⟨hcr, hfr, hlr⟩ := bt2.all))
            have HR2 : Hid _ := hr
            have HBT2 : Hid (Box w2 wr.heap.size #[.int .i64 0, .int .i64 0] 108) := bt2
            have HX2 : Hid (Box w2 w.heap.size #[.int .i64 0, .int .i64 0] 108) := HXW.out.drew.call hb2
            have HO2 : Hid (w2.ownsRow (w.heap.size + 1) 108 2 (.slice (some ⟨g, 0, none⟩) s'.length c) s'.length (flatTy s')) := owns_call HTAKE.out.drew hb2
            have HB2 : Hid (Below w.heap.size w w2) := Below.step hb2 HBW.out.drew (by have := HB.out.size; simp; omega)
            clear hr hb2 bt2
            go_wp2_with fail
            go_meet
            case rel =>
              refine ⟨_, rfl, ((HB2.out.setCell (by have := HB.out.size; simp; omega) _).setCell (by have := HB.out.size; simp; omega) _), (HX2.out.set_ne (by simp; omega) _).set_ne (by simp; omega) _, fun h => by rw [HSTEP.out, if_neg (by simp [h])], fun h => ⟨r, s', some ⟨g, 0, none⟩, c, ?_, by simp, ?_, ?_, (HBT2.out.set 0 _).set 1 _⟩⟩
              · rw [HSTEP.out, if_pos h, HR2.out h]
              · simp
              · refine owns_blk (by simpa using HO2.out) (fun g' hg' => ?_)
                have hgg : g' = g := by simp [Value.ownBlock] at hg'; omega
                subst hgg
                rw [Below.heap_setCell _ _ _ _ hgw, Below.heap_setCell _ _ _ _ hgw]
          · have HN : Hid (exprStep cols st t = none) := exprStep_no (m := 2) (by rw [operands_two HT1.out]; rfl) (fun h => hn2 h.2)
            have hn2' : ¬ (2 : Int) ≤ (st.length : Int) := by omega
            go_wp2_with fail
            go_meet
            case rel => exact ⟨false, rfl, HBW.out, HXW.out, fun _ => HN.out, fun h => by simp at h⟩
        · have HN : Hid (exprStep cols st t = none) := exprStep_no (m := (operands t.op).1.toNat) (by obtain ⟨m, _, hm⟩ := operands_nat t.op; rw [hm]; simp) (fun h => by rw [operands_none hL hO1 hT1] at h; simp at h)
          have hx : t.op < 1 ∨ 15 < t.op := by omega
          have g8 : (t.op == 8) = false := by simp; omega
          have g14 : (t.op == 14) = false := by simp; omega
          have g15 : (t.op == 15) = false := by simp; omega
          clear hL hO1 hT1
          rcases hx with hx | hx
          · have hx1 : decide ((1 : Int) ≤ t.op) = false := by simp; omega
            have hx5 : decide ((5 : Int) ≤ t.op) = false := by simp; omega
            go_wp2_with fail
            go_meet
            case rel => exact ⟨false, rfl, HBW.out, HXW.out, fun _ => HN.out, fun h => by simp at h⟩
          · have hx1 : (1 : Int) ≤ t.op := by omega
            have hx4 : 4 < t.op := by omega
            have hx5 : (5 : Int) ≤ t.op := by omega
            have hx13 : 13 < t.op := by omega
            go_wp2_with fail
            go_meet
            case rel => exact ⟨false, rfl, HBW.out, HXW.out, fun _ => HN.out, fun h => by simp at h⟩
      case rest =>
        obtain ⟨okb, rfl, hsB, hsX, hsN, hsY⟩ := hcut
        have HX1 : Hid (Box wc w.heap.size #[.int .i64 0, .int .i64 0] 108) := hsX
        have HB1 : Hid (Below w.heap.size w wc) := hsB
        clear hsX hsB e0 e1 e2 e3 hel
        cases okb with
        | false =>
          have HN : Hid (exprTy e cols = ((0, 0), false)) := exprTy_none (exprRun_stop hlt HR.out (by rw [HT.out]; exact hsN rfl))
          obtain ⟨hcr, hfr, hlr⟩ := HX1.out.all
          clear hsN hsY
          go_wp2_with fail
          exact bodyPost_ret (v := .tuple #[tyV (0, 0), .bool false]) (by simp [results, Tryz.results74, go_sem, hcr]) rfl ⟨⟨(0, 0), by rw [HN.out], fun _ => by rw [HN.out]⟩, (HB1.out.setCell (by simp) _).setCell (by simp) _⟩
        | true =>
          obtain ⟨r, st1, a1, c1, hstep, hle, rfl, hown1, hbt⟩ := hsY rfl
          have hst := exprStep_ok HCO.out HTO.out hstep
          have HTO1 : Hid (TysOk (st1 ++ [r])) := hst.1
          have HG : Hid (exprRun cols (e.take (k + 1)) [] = some (st1 ++ [r])) := exprRun_go hlt HR.out (by rw [HT.out]; exact hstep)
          have HO1 : Hid (wc.ownsRow (w.heap.size + 1) 108 2 (.slice a1 st1.length c1) st1.length (flatTy st1)) := hown1
          obtain ⟨hcb, hfb, hlb⟩ := hbt.all
          have HNW : Hid _ := new_two (Box.new wc #[.int .i64 r.1, .int .i64 r.2] 108)
          have HOG : Hid _ := HO1.out.alloc (.cells #[.int .i64 r.1, .int .i64 r.2] 108)
          have HS0 : Hid ((wc.alloc (.cells #[.int .i64 r.1, .int .i64 r.2] 108)).heap.size = wc.heap.size + 1) := by unfold Hid; simp
          have hxw := HX1.out.lt
          have HS1 : Hid (w.heap.size + 1 ≤ (wc.alloc (.cells #[.int .i64 r.1, .int .i64 r.2] 108)).heap.size) := by unfold Hid; simp; omega
          have HLL : Hid (st1.length ≤ 20) := by unfold Hid; omega
          have HGW : Hid (∀ g, (Value.slice a1 st1.length c1).ownBlock = some g → w.heap.size + 1 ≤ g) := fun g hg => (HO1.out.lt g hg).1
          clear hsN hsY hstep hst hown1 hbt
          go_wp2_with (at_builtin; refine app_one elem_rty _ (by rfl) _ _ (by rfl) (w.heap.size + 1) (.slice a1 st1.length c1) st1.length (flatTy st1) (by rfl) HOG.out wc.heap.size 1 1 _ (by rfl) rfl HNW.out (one_two _ _) (by omega) (by have := HLL.out; omega) (by have := HLL.out; omega) HS1.out (wc.heap.size + 1) HS0.out ?_; intro g3 cap3 w3 hown3 hg3 hat3 hlt3)
          have hBW := HB1.out.alloc (by omega) (.cells #[.int .i64 r.1, .int .i64 r.2] 108)
          have HBF : Hid (Below w.heap.size w w3) := hBW.grown hg3 (by simp; omega) (fun k' hk' => by have := HGW.out k' hk'; omega)
          have HXF : Hid (Box w3 w.heap.size #[.int .i64 0, .int .i64 0] 108) := (HX1.out.alloc _).grown hg3 (fun g' hh => by have := HGW.out g' hh; omega)
          have hlen : (st1 ++ [r]).length = st1.length + 1 := by simp
          have HOF : Hid (w3.ownsRow (w.heap.size + 1) 108 2 (.slice (some ⟨g3, 0, none⟩) (st1.length + 1) cap3) (st1 ++ [r]).length (flatTy (st1 ++ [r]))) := by
            unfold Hid; rw [hlen, ← flatTy_snoc]; exact hown3
          clear hBW hg3 hown3 hat3 hlt3
          go_roundw
          case rel => exact ⟨k + 1, st1 ++ [r], by omega, by go_num, HG.out, by rw [hlen]; omega, HTO1.out, fun _ => by rw [hlen]; omega, ⟨some ⟨g3, 0, none⟩, cap3, by rw [hlen]⟩, HOF.out, HBF.out, HXF.out⟩
          case measure => simp [intOf]; omega
    · have hke : e.take k = e := List.take_of_length_le (by omega)
      have HR' : Hid (exprRun cols e [] = some st) := by have := HR.out; rw [hke] at this; exact this
      have hp := HPO.out (by omega)
      obtain ⟨hcr, hfr, hlr⟩ := HX.out.all
      obtain ⟨g, cg, hag, hgb, hgl⟩ := World.ownsRow.form HO.out hp
      simp only [Value.slice.injEq, true_and] at hag
      obtain ⟨rfl, rfl⟩ := hag
      obtain ⟨t0, st0, rfl⟩ : ∃ t0 st0, st = t0 :: st0 := by
        cases st with
        | nil => simp at hp
        | cons x y => exact ⟨x, y, rfl⟩
      have hc0 := owns_cell HO.out 0 (.int .i64 t0.1) (by simp [flatTy])
      have hc1 := owns_cell HO.out 1 (.int .i64 t0.2) (by simp [flatTy])
      clear hke hel
      by_cases h1s : st0 = []
      · subst h1s
        have HE : Hid (exprTy e cols = (t0, true)) := by unfold Hid exprTy; rw [if_neg HS.out, HR'.out]
        go_wp2_with fail
        exact bodyPost_ret (v := .tuple #[tyV t0, .bool true]) (by simp [results, Tryz.results74, go_sem, hcr]) rfl ⟨⟨t0, by rw [HE.out], fun _ => by rw [HE.out]⟩, (HB.out.setCell (by simp) _).setCell (by simp) _⟩
      · have HE : Hid (exprTy e cols = ((0, 0), false)) := by
          unfold Hid exprTy; rw [if_neg HS.out, HR'.out]
          match st0, h1s with
          | [], h => exact absurd rfl h
          | _ :: _, _ => rfl
        have hq : 0 < st0.length := List.length_pos_iff.2 h1s
        have hcl : ((t0 :: st0).length) = st0.length + 1 := by simp
        have h1i : (((st0.length : Int) + 1) == 1) = false := by simp; omega
        go_wp2_with fail
        exact bodyPost_ret (v := .tuple #[tyV t0, .bool false]) (by simp [results, Tryz.results74, go_sem, hcr]) rfl ⟨⟨t0, by rw [HE.out], fun h => by rw [HE.out] at h; simp at h⟩, (HB.out.setCell (by simp) _).setCell (by simp) _⟩

end Go.Proofs.YtekkicgbloidkaaGreatDoor
