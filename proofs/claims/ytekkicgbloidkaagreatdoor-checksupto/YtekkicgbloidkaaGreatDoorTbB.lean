/- The types of a table's columns. -/
import Derived.Test.YtekkicgbloidkaaGreatDoorSvA
import Derived.Test.YtekkicgbloidkaaGreatDoorGrow
import Derived.Test.YtekkicgbloidkaaGreatDoorTyE
import Derived.Test.YtekkicgbloidkaaGreatDoorEx
namespace Go.Proofs.YtekkicgbloidkaaGreatDoor
open Go Go.RowKit

def tabTys (t : List DCol) : List (Int × Int) := t.map fun c => (c.kind, c.scale)

set_option maxHeartbeats 1000000 in
theorem tableTypes_any (t : List DCol) (v : Value) (w : World) (hv : RCols w v t) (hsm : t.length ≤ 1000000) :
    Calls Tryz.prog 83 #[.agg #[v]] w fun e w' => ∃ v', e = .returned v' ∧ RTys w' v' (tabTys t) ∧ BlkOf 103 w' v' ∧ Below w.heap.size w w' := by
  obtain ⟨ao, cap, rfl, hl, hel⟩ := hv
  have hlen : (tabTys t).length = t.length := by simp [tabTys]
  go_enter Tryz.func83, Tryz.ntmps83
  go_wp2_with (at_make; refine mk_full elem_ty _ rfl _ _ rfl _ _ t.length rfl rfl (by omega) (by omega) ?_; intro w1 cur hbx hcs hb1; have bt := (Box.new w #[.slice ao t.length cap] 57).call hb1; obtain ⟨hct, hft, hlt'⟩ := bt.all)
  have hB1 : Below w.heap.size w w1 := Below.step hb1 ((Below.refl _ _).alloc (by simp) _) (by simp)
  have hbx' : Box w1 (w.heap.size + 1) cur 103 := by simpa using hbx
  have HBX : Hid (Box w1 (w.heap.size + 1) cur 103) := hbx'
  have HB1 : Hid (Below w.heap.size w w1) := hB1
  clear hbx hbx' hb1 hB1 bt
  go_loopw [13] (fun i W => ∃ (k : Nat) (cs : Array Value), k ≤ t.length ∧ i = .int .i64 k ∧ Box W (w.heap.size + 1) cs 103 ∧ cs.size = t.length * 2 ∧ TysUpTo cs (tabTys t) k ∧ Below w.heap.size w W)
    (fun i _ => t.length - (intOf i).toNat)
  case atStart => exact ⟨0, cur, Nat.zero_le _, rfl, HBX.out, hcs, fun j _ hj => absurd hj (Nat.not_lt_zero _), HB1.out⟩
  case round =>
    obtain ⟨k, cs, hk, rfl, hbox, hcsz, hup, hB⟩ := hrel
    have HX : Hid (Box wr (w.heap.size + 1) cs 103) := hbox
    have HU : Hid (TysUpTo cs (tabTys t) k) := hup
    have HB : Hid (Below w.heap.size w wr) := hB
    have HCZ : Hid _ := hcsz
    have HCS : Hid _ := hcs
    clear hbox hup hB hcsz hcs
    by_cases hlt : k < t.length
    · obtain ⟨b, off, rfl, vi, vs, vn, d0, d1, d2, d3, d4, hcol⟩ := hel k hlt
      simp only [Nat.add_zero] at d0
      have kp := Keeps.of_below HB.out
      have e0 := kp _ _ _ d0
      have e1 := kp _ _ _ d1
      have e2 := kp _ _ _ d2
      have e3 := kp _ _ _ d3
      have e4 := kp _ _ _ d4
      have hbw := cell_lt e0
      clear kp d0 d1 d2 d3 d4
      obtain ⟨ai, ci, az, cz, an, cn, rfl, rfl, rfl⟩ := hcol.shape
      clear hcol hel
      have hi0 : (0 : Int) ≤ (k : Int) := by omega
      have hi1 : (k : Int) < (t.length : Int) := by omega
      go_wp2_with fail
      refine (columnType_any _ _ _ _ _ _).mono ?_
      rintro e w2 ⟨rfl, hb2⟩
      have hX2 := (HX.out.alloc _).call hb2
      have HX2 : Hid (Box w2 (w.heap.size + 1) cs 103) := hX2
      have HB2 : Hid (Below w.heap.size w w2) := Below.step hb2 (HB.out.alloc (by have := HB.out.size; omega) _) (by have := HB.out.size; simp; omega)
      have hcc0 : w2.cell? ⟨w.heap.size + 1, k * 2, none⟩ = some (cs[k * 2]'(by have := HCZ.out; omega)) := by
        rw [hX2.rules.1]; simp
      have hcc1 : w2.cell? ⟨w.heap.size + 1, k * 2 + 1, none⟩ = some (cs[k * 2 + 1]'(by have := HCZ.out; omega)) := by
        rw [hX2.rules.1]; simp
      have hff := hX2.rules.2
      clear hX2 hb2 e0 e1 e2 e3 e4
      go_wp2_with fail
      go_roundw
      case rel =>
        refine ⟨k + 1, (cs.setIfInBounds (k * 2) (.int .i64 t[k].kind)).setIfInBounds (k * 2 + 1) (.int .i64 t[k].scale), by omega, by go_num, (HX2.out.set _ _).set _ _, by simp; exact HCZ.out, ?_, (HB2.out.setCell (by simp) _).setCell (by simp) _⟩
        have := HU.out.step (by rw [hlen]; exact hlt) (by rw [hlen]; exact HCZ.out)
        simpa [tabTys] using this
      case measure => simp [intOf]; omega
    · have hkk : k = t.length := by omega
      go_wp2_with fail
      go_ret
      refine ⟨_, rfl, ?_, BlkOf.box HX.out _ _ _, HB.out⟩
      have := RTys.upTo (l := tabTys t) HX.out (by rw [hlen]; omega) (by rw [hlen, ← hkk]; exact HU.out) t.length
      rw [hlen] at this
      exact this

end Go.Proofs.YtekkicgbloidkaaGreatDoor
/- The types of what a Filter and a Project give. -/
namespace Go.Proofs.YtekkicgbloidkaaGreatDoor
open Go Go.RowKit
attribute [local go_sem ↓] Go.wp_at_zero Go.wp_at_succ

theorem exprs_at {w : World} {ve : Value} {es : List (List DTerm)} (h : RExprs w ve es) {k : Nat} (hk : k < es.length) :
    ∃ b off cap v, ve = .slice (some ⟨b, off, none⟩) es.length cap ∧ b < w.heap.size ∧ w.cell? ⟨b, off + k, none⟩ = some v ∧ RTerms w v es[k] := by
  obtain ⟨ao, cap, rfl, hl, hel⟩ := h
  obtain ⟨b, off, rfl, v, h0, hv⟩ := hel k hk
  simp only [Nat.mul_one, Nat.add_zero] at h0
  exact ⟨b, off, cap, v, rfl, cell_lt h0, h0, hv⟩

def filterOk (n : DNode) (cols : List (Int × Int)) : Bool := (exprTy (n.exprs.getD 0 []) cols).2 && ((exprTy (n.exprs.getD 0 []) cols).1.1 == 4)

set_option maxHeartbeats 1000000 in
theorem filtered_any (n : DNode) (ve vk vo va vc : Value) (cols : List (Int × Int)) (w : World) (hn : NodeIs w ve vk vo va n) (h1 : 0 < n.exprs.length) (hv : RTys w vc cols) :
    Calls Tryz.prog 84 #[nodeV n ve vk vo va, vc] w fun e w' => e = .returned (.tuple #[vc, .bool (filterOk n cols)]) ∧ Below w.heap.size w w' := by
  obtain ⟨b, off, cap, vx, rfl, hb, d0, hx⟩ := exprs_at hn.exprs (k := 0) (by omega)
  obtain ⟨_, _, ak, ck, ao, co, aa, ca, -, rfl, rfl, rfl⟩ := hn.shape
  simp only [Nat.add_zero] at d0
  obtain ⟨az, cz, rfl, -⟩ := hv.shape
  obtain ⟨ax, cx, rfl, -⟩ := hx.shape
  have kp := (Keeps.refl w).alloc (.cells #[.int .i64 n.op, .int .i64 n.a, .int .i64 n.b, .slice (some ⟨b, off, none⟩) n.exprs.length cap, .slice ak n.keys.length ck, .slice ao n.others.length co, .slice aa n.aggs.length ca] 71)
  have hx' := RSl.mono mono_RTerm kp hx
  have hv' := RSl.mono mono_RTy kp hv
  have e0 : n.exprs.getD 0 [] = n.exprs[0] := by simp [h1]
  have HF : Hid (filterOk n cols = ((exprTy n.exprs[0] cols).2 && ((exprTy n.exprs[0] cols).1.1 == 4))) := by unfold Hid filterOk; rw [e0]
  have hpos : (0 : Int) < (n.exprs.length : Int) := by omega
  clear e0 kp hn
  generalize hR : exprTy n.exprs[0] cols = R at *
  have HR : Hid _ := hR
  clear hR
  go_enter Tryz.func84, Tryz.ntmps84
  go_wp2_with fail
  refine (expr_any _ cols _ _ _ hx' hv').mono ?_
  rintro e w1 ⟨rfl, hb1⟩
  rw [HR.out]
  have HB1 : Hid (Below w.heap.size w w1) := Below.step hb1 ((Below.refl _ _).alloc (by simp) _) (by simp)
  clear hb1 hx' hv' d0
  by_cases hR2 : R.2 = true
  · go_wp2_with fail
    go_quiet (fail)
    go_wp2_with fail
    go_ret2
    exact ⟨by rw [HF.out, hR2]; simp, below_drewN (HB1.out.alloc (by have := HB1.out.size; omega) _) _⟩
  · have hR2' : R.2 = false := by simpa using hR2
    clear hR2
    go_wp2_with fail
    go_quiet (fail)
    go_wp2_with fail
    go_ret2
    exact ⟨by rw [HF.out, hR2']; simp, below_drewN (HB1.out.alloc (by have := HB1.out.size; omega) _) _⟩

def projRun (cols : List (Int × Int)) : List (List DTerm) → Option (List (Int × Int))
  | [] => some []
  | e :: r => if (exprTy e cols).2 = true ∧ (exprTy e cols).1.1 ≠ 4 then (projRun cols r).map ((exprTy e cols).1 :: ·) else none
theorem projRun_snoc (cols : List (Int × Int)) (l : List (List DTerm)) (e : List DTerm) : projRun cols (l ++ [e]) = (projRun cols l).bind (fun s => if (exprTy e cols).2 = true ∧ (exprTy e cols).1.1 ≠ 4 then some (s ++ [(exprTy e cols).1]) else none) := by
  induction l with
  | nil => simp only [List.nil_append, projRun, Option.bind_some]; split <;> simp
  | cons a r ih =>
    simp only [List.cons_append, projRun]
    split
    · rw [ih]; cases projRun cols r with
      | none => rfl
      | some s => simp only [Option.bind_some, Option.map_some]; split <;> simp
    · rfl
theorem projRun_none (cols : List (Int × Int)) (l r : List (List DTerm)) (h : projRun cols l = none) : projRun cols (l ++ r) = none := by
  induction l with
  | nil => simp [projRun] at h
  | cons a l ih =>
    simp only [List.cons_append, projRun] at *
    split
    · rename_i hc; rw [if_pos hc] at h
      cases hp : projRun cols l with
      | none => rw [ih hp]; rfl
      | some s => rw [hp] at h; simp at h
    · rfl
theorem projRun_stop {cols : List (Int × Int)} {es : List (List DTerm)} {k : Nat} (hk : k < es.length) {st : List (Int × Int)} (h : projRun cols (es.take k) = some st) (hs : ¬ ((exprTy es[k] cols).2 = true ∧ (exprTy es[k] cols).1.1 ≠ 4)) : projRun cols es = none := by
  have h1 : projRun cols (es.take (k + 1)) = none := by
    rw [List.take_succ_eq_append_getElem hk, projRun_snoc, h, Option.bind_some, if_neg hs]
  have := projRun_none cols (es.take (k + 1)) (es.drop (k + 1)) h1
  rwa [List.take_append_drop] at this
theorem projRun_go {cols : List (Int × Int)} {es : List (List DTerm)} {k : Nat} (hk : k < es.length) {st : List (Int × Int)} (h : projRun cols (es.take k) = some st) (hs : (exprTy es[k] cols).2 = true ∧ (exprTy es[k] cols).1.1 ≠ 4) : projRun cols (es.take (k + 1)) = some (st ++ [(exprTy es[k] cols).1]) := by
  rw [List.take_succ_eq_append_getElem hk, projRun_snoc, h, Option.bind_some, if_pos hs]

/-- What a function answers that tells types or none: a slice, and whether there are such. -/
def TysRet (w' : World) (e : Ending) (o : Option (List (Int × Int))) : Prop :=
  match o with
  | some l => ∃ v, e = .returned (.tuple #[v, .bool true]) ∧ RTys w' v l ∧ BlkOf 103 w' v
  | none => ∃ v, e = .returned (.tuple #[v, .bool false])

set_option maxHeartbeats 2000000 in
theorem projected_any (n : DNode) (ve vk vo va vc : Value) (cols : List (Int × Int)) (w : World) (hn : NodeIs w ve vk vo va n) (h8 : n.exprs.length ≤ 8) (hv : RTys w vc cols) :
    Calls Tryz.prog 85 #[nodeV n ve vk vo va, vc] w fun e w' => TysRet w' e (projRun cols n.exprs) ∧ Below w.heap.size w w' := by
  have hex := hn.exprs
  obtain ⟨ae, ce, ak, ck, ao, co, aa, ca, rfl, rfl, rfl, rfl⟩ := hn.shape
  clear hn
  go_enter Tryz.func85, Tryz.ntmps85
  go_wp2
  go_loopw [6, 14] (fun v i W => ∃ (k : Nat) (st : List (Int × Int)), k ≤ n.exprs.length ∧ i = .int .i64 k ∧ projRun cols (n.exprs.take k) = some st ∧ st.length = k ∧ W.ownsRow (w.heap.size + 1) 103 2 v st.length (flatTy st) ∧ Below w.heap.size w W)
    (fun _ i _ => n.exprs.length - (intOf i).toNat)
  case atStart => exact ⟨0, [], Nat.zero_le _, rfl, rfl, rfl, World.ownsRow_nil _ _ _ _, (Below.refl _ _).alloc (Nat.le_refl _) _⟩
  case round =>
    obtain ⟨k, st, hk, rfl, hrun, hstk, hown, hB⟩ := hrel
    have HR : Hid _ := hrun
    have HB : Hid (Below w.heap.size w wr) := hB
    have HSK : Hid _ := hstk
    by_cases hlt : k < n.exprs.length
    · obtain ⟨b, off, cap, vx, hvv, hb, d0, hx⟩ := exprs_at hex hlt
      simp only [Value.slice.injEq, true_and] at hvv
      obtain ⟨rfl, rfl⟩ := hvv
      have kp := Keeps.of_below HB.out
      have e0 := kp _ _ _ d0
      have hbw := cell_lt e0
      have hx' := RSl.mono mono_RTerm kp hx
      have hv' := RSl.mono mono_RTy kp hv
      obtain ⟨ax, cx, rfl, -⟩ := hx.shape
      have HO : Hid (wr.ownsRow (w.heap.size + 1) 103 2 u6 st.length (flatTy st)) := hown
      clear hrun hstk hown hB kp d0 hx
      go_wp2_with fail
      refine (expr_any _ cols _ _ _ hx' hv').mono ?_
      rintro e w1 ⟨rfl, hb1⟩
      have HO1 : Hid (w1.ownsRow (w.heap.size + 1) 103 2 u6 st.length (flatTy st)) := owns_call HO.out hb1
      have HB1 : Hid (Below w.heap.size w w1) := Below.step hb1 HB.out HB.out.size
      clear hb1 hx' hv' e0
      generalize hR : exprTy n.exprs[k] cols = R at *
      have HRR : Hid _ := hR
      clear hR
      by_cases hc : R.2 = true ∧ R.1.1 ≠ 4
      · obtain ⟨hR2, hR4⟩ := hc
        have hR4' : (R.1.1 == 4) = false := by simpa using hR4
        have HG : Hid (projRun cols (n.exprs.take (k + 1)) = some (st ++ [R.1])) := by
          have := projRun_go hlt HR.out (by rw [HRR.out]; exact ⟨hR2, hR4⟩)
          rw [HRR.out] at this; exact this
        have bN := (Box.new (w1.alloc (.cells #[.int .i64 R.1.1, .int .i64 R.1.2] 103)) #[.int .i64 R.1.1, .int .i64 R.1.2] 103)
        rw [show (w1.alloc (.cells #[.int .i64 R.1.1, .int .i64 R.1.2] 103)).heap.size = w1.heap.size + 1 by simp] at bN
        have HNW : Hid _ := new_two bN
        have HOG : Hid _ := (HO1.out.alloc (.cells #[.int .i64 R.1.1, .int .i64 R.1.2] 103)).alloc (.cells #[.int .i64 R.1.1, .int .i64 R.1.2] 103)
        have HS0 : Hid (((w1.alloc (.cells #[.int .i64 R.1.1, .int .i64 R.1.2] 103)).alloc (.cells #[.int .i64 R.1.1, .int .i64 R.1.2] 103)).heap.size = w1.heap.size + 1 + 1) := by unfold Hid; simp
        have HS1 : Hid (w.heap.size + 1 ≤ ((w1.alloc (.cells #[.int .i64 R.1.1, .int .i64 R.1.2] 103)).alloc (.cells #[.int .i64 R.1.1, .int .i64 R.1.2] 103)).heap.size) := by have := HB1.out.size; unfold Hid; simp; omega
        have HL : Hid (st.length ≤ 8) := by have := HSK.out; unfold Hid; omega
        have HGW : Hid (∀ g, u6.ownBlock = some g → w.heap.size + 1 ≤ g) := fun g hg => (HO1.out.lt g hg).1
        clear bN hR4
        go_wp2_with (at_builtin; refine app_one elem_ty _ (by rfl) _ _ (by rfl) (w.heap.size + 1) u6 st.length (flatTy st) (by rfl) HOG.out (w1.heap.size + 1) 1 1 _ (by rfl) rfl HNW.out (one_two _ _) (by omega) (by have := HL.out; omega) (by have := HL.out; omega) HS1.out (w1.heap.size + 1 + 1) HS0.out ?_; intro g3 cap3 w3 hown3 hg3 hat3 hlt3)
        have hBW := (HB1.out.alloc (by have := HB1.out.size; omega) (.cells #[.int .i64 R.1.1, .int .i64 R.1.2] 103)).alloc (by have := HB1.out.size; simp; omega) (.cells #[.int .i64 R.1.1, .int .i64 R.1.2] 103)
        have HBF : Hid (Below w.heap.size w w3) := hBW.grown hg3 (by have := HB1.out.size; simp; omega) (fun k' hk' => by have := HGW.out k' hk'; omega)
        have hlen : (st ++ [R.1]).length = st.length + 1 := by simp
        have HOF : Hid (w3.ownsRow (w.heap.size + 1) 103 2 (.slice (some ⟨g3, 0, none⟩) (st.length + 1) cap3) (st ++ [R.1]).length (flatTy (st ++ [R.1]))) := by
          unfold Hid; rw [hlen, ← flatTy_snoc]; exact hown3
        clear hBW hg3 hown3 hat3 hlt3
        go_roundw
        case rel => exact ⟨k + 1, st ++ [R.1], by omega, by go_num, HG.out, by rw [hlen, HSK.out], HOF.out, HBF.out⟩
        case measure => simp [intOf]; omega
      · have HN : Hid (projRun cols n.exprs = none) := projRun_stop hlt HR.out (by rw [HRR.out]; exact hc)
        by_cases hR2 : R.2 = true
        · have hR4 : (R.1.1 == 4) = true := by
            by_cases h4 : R.1.1 = 4
            · simp [h4]
            · exact absurd ⟨hR2, h4⟩ hc
          clear hc
          go_wp2_with fail
          go_ret2
          exact ⟨by rw [HN.out]; exact ⟨_, rfl⟩, HB1.out.alloc (by have := HB1.out.size; omega) _⟩
        · have hR2' : R.2 = false := by simpa using hR2
          clear hc hR2
          go_wp2_with fail
          go_ret2
          exact ⟨by rw [HN.out]; exact ⟨_, rfl⟩, HB1.out.alloc (by have := HB1.out.size; omega) _⟩
    · have hke : n.exprs.take k = n.exprs := List.take_of_length_le (by omega)
      have HE : Hid (projRun cols n.exprs = some st) := by have := HR.out; rw [hke] at this; exact this
      have HT : Hid (RTys wr u6 st ∧ BlkOf 103 wr u6) := ⟨RTys.owns hown (by omega), BlkOf.owns hown⟩
      clear hrun hown hB hke
      go_wp2_with fail
      go_ret2
      exact ⟨by rw [HE.out]; exact ⟨_, rfl, HT.out⟩, HB.out⟩


end Go.Proofs.YtekkicgbloidkaaGreatDoor
/- The plan that is lent. -/
namespace Go.Proofs.YtekkicgbloidkaaGreatDoor
open Go Go.RowKit
attribute [local go_sem] run_eql_slice_nil

abbrev zTerm : List Value := [.int .i64 (-77), .int .i64 0, .int .i64 0, .string ByteArray.empty]
/-- An expression that was lent; a0: where the list of expressions stands of which it was made. -/
def PExpr (w0 : World) (a0 : Option Addr) (k : Nat) (w : World) (lo hi : Nat) (rd : Nat → Option Value) (e : List DTerm) : Prop :=
  ∃ b o v0 v, a0 = some ⟨b, o, none⟩ ∧ w0.cell? ⟨b, o + k, none⟩ = some v0 ∧ rd 0 = some v ∧ Lent w 87 4 lo hi v0 v e.length (e.flatMap flTerm ++ zTerm) ∧ (∀ t ∈ e, t.s.size ≤ 9223372036854775807)
theorem stays_PExpr (w0 : World) (a0 : Option Addr) : Stays 1 (PExpr w0 a0) := ⟨fun k w w' lo hi rd x S ho hs ⟨b, o, v0, v, h0, h1, h2, hl, hz⟩ => ⟨b, o, v0, v, h0, h1, h2, hl.only ho hs, hz⟩, fun k w lo hi rd rd' x hr ⟨b, o, v0, v, h0, h1, h2, hl⟩ => ⟨b, o, v0, v, h0, h1, by rw [hr 0 (by omega)]; exact h2, hl⟩⟩
theorem PExpr.reads (w0 : World) (a0 : Option Addr) (k : Nat) (w : World) (lo hi : Nat) (rd : Nat → Option Value) (e : List DTerm) (h : PExpr w0 a0 k w lo hi rd e) : RExpr w rd e := by
  obtain ⟨b, o, v0, v, -, -, h2, hl, hz⟩ := h
  exact ⟨v, h2, hl.reads flat_term hz⟩
/-- A node that was lent; b0, o0: where the nodes stand of which it was made. -/
def PNode (w0 : World) (b0 o0 : Nat) (k : Nat) (w : World) (lo hi : Nat) (rd : Nat → Option Value) (n : DNode) : Prop :=
  ∃ ae ce vk0 vo0 va0 ve vk vo va gz cz czs m0 m1 m2, w0.cell? ⟨b0, o0 + k * 7 + 3, none⟩ = some (.slice ae n.exprs.length ce) ∧ w0.cell? ⟨b0, o0 + k * 7 + 4, none⟩ = some vk0 ∧ w0.cell? ⟨b0, o0 + k * 7 + 5, none⟩ = some vo0 ∧ w0.cell? ⟨b0, o0 + k * 7 + 6, none⟩ = some va0 ∧
    rd 0 = some (.int .i64 n.op) ∧ rd 1 = some (.int .i64 n.a) ∧ rd 2 = some (.int .i64 n.b) ∧ rd 3 = some ve ∧ rd 4 = some vk ∧ rd 5 = some vo ∧ rd 6 = some va ∧
    LRow 84 1 (PExpr w0 ae) w lo m0 ve n.exprs [.slice (some ⟨gz, 0, none⟩) 1 cz] ∧ Box w gz czs 87 ∧ czs[0]? = some (.int .i64 (-77)) ∧ lo ≤ gz ∧ gz < m0 ∧
    lo ≤ m0 ∧ m0 ≤ m1 ∧ m1 ≤ m2 ∧ m2 ≤ hi ∧ Lent w 3 1 m0 m1 vk0 vk n.keys.length (n.keys.flatMap flInt ++ [.int .i64 (-77)]) ∧ Lent w 3 1 m1 m2 vo0 vo n.others.length (n.others.flatMap flInt ++ [.int .i64 (-77)]) ∧
    Lent w 126 2 m2 hi va0 va n.aggs.length (n.aggs.flatMap flTy ++ [.int .i64 (-77), .int .i64 0])
theorem stays_PNode (w0 : World) (b0 o0 : Nat) : Stays 7 (PNode w0 b0 o0) :=
  ⟨fun k w w' lo hi rd x S ho hs ⟨ae, ce, vk0, vo0, va0, ve, vk, vo, va, gz, cz, czs, m0, m1, m2, k3, k4, k5, k6, r0, r1, r2, r3, r4, r5, r6, hr, hb, hz, z1, z2, j0, j1, j2, j3, l1, l2, l3⟩ =>
    ⟨ae, ce, vk0, vo0, va0, ve, vk, vo, va, gz, cz, czs, m0, m1, m2, k3, k4, k5, k6, r0, r1, r2, r3, r4, r5, r6, hr.only (stays_PExpr _ _) ho (fun b h1 h2 => hs b h1 (by omega)), hb.only ho (hs gz z1 (by omega)), hz, z1, z2, j0, j1, j2, j3, l1.only ho (fun b h1 h2 => hs b (by omega) (by omega)), l2.only ho (fun b h1 h2 => hs b (by omega) (by omega)), l3.only ho (fun b h1 h2 => hs b (by omega) h2)⟩,
   fun k w lo hi rd rd' x hrd ⟨ae, ce, vk0, vo0, va0, ve, vk, vo, va, gz, cz, czs, m0, m1, m2, k3, k4, k5, k6, r0, r1, r2, r3, r4, r5, r6, rest⟩ =>
    ⟨ae, ce, vk0, vo0, va0, ve, vk, vo, va, gz, cz, czs, m0, m1, m2, k3, k4, k5, k6, by rw [hrd 0 (by omega)]; exact r0, by rw [hrd 1 (by omega)]; exact r1, by rw [hrd 2 (by omega)]; exact r2, by rw [hrd 3 (by omega)]; exact r3, by rw [hrd 4 (by omega)]; exact r4, by rw [hrd 5 (by omega)]; exact r5, by rw [hrd 6 (by omega)]; exact r6, rest⟩⟩
theorem PNode.reads (w0 : World) (b0 o0 : Nat) (k : Nat) (w : World) (lo hi : Nat) (rd : Nat → Option Value) (n : DNode) (h : PNode w0 b0 o0 k w lo hi rd n) : RNode w rd n := by
  obtain ⟨ae, ce, vk0, vo0, va0, ve, vk, vo, va, gz, cz, czs, m0, m1, m2, k3, k4, k5, k6, r0, r1, r2, r3, r4, r5, r6, hr, hb, hz, z1, z2, j0, j1, j2, j3, l1, l2, l3⟩ := h
  exact ⟨ve, vk, vo, va, r0, r1, r2, r3, r4, r5, r6, ⟨hr.reads (stays_PExpr _ _) (PExpr.reads _ _) (by omega), l1.reads flat_int (fun _ _ => trivial), l2.reads flat_int (fun _ _ => trivial), l3.reads flat_ty (fun _ _ => trivial)⟩⟩

structure NodeSm (n : DNode) : Prop where
  exprs : n.exprs.length ≤ 2000000
  each : ∀ e ∈ n.exprs, e.length ≤ 2000000
  keys : n.keys.length ≤ 2000000
  others : n.others.length ≤ 2000000
  aggs : n.aggs.length ≤ 2000000
structure NodesSm (ns : List DNode) : Prop where
  len : ns.length ≤ 2000000
  each : ∀ n ∈ ns, NodeSm n

/-- A plan that was lent. -/
def LNodes (w0 : World) (w : World) (lo hi : Nat) (v0 v : Value) (ns : List DNode) : Prop :=
  ∃ b0 o0, (∀ b o n c, v0 = .slice (some ⟨b, o, none⟩) n c → b = b0 ∧ o = o0) ∧ LRow 71 7 (PNode w0 b0 o0) w lo hi v ns [.int .i64 (-77), .int .i64 0, .int .i64 0, .slice none 0 0, .slice none 0 0, .slice none 0 0, .slice none 0 0]

set_option maxRecDepth 20000 in
set_option maxHeartbeats 8000000 in
theorem plan_any (ns : List DNode) (v : Value) (w0 w : World) (hk0 : Keeps w0 w) (hv : RNodes w0 v ns) (hsm : NodesSm ns) :
    Calls Tryz.prog 10 #[v] w fun e w' => ∃ v', e = .returned v' ∧ LNodes w0 w' w.heap.size w'.heap.size v v' ns ∧ Below w.heap.size w w' := by
  obtain ⟨an, cap, rfl, hl⟩ := hv.shape
  obtain ⟨b0, o0, hbo⟩ : ∃ b0 o0, ∀ b o n c, Value.slice an ns.length cap = .slice (some ⟨b, o, none⟩) n c → b = b0 ∧ o = o0 := by
    cases an with
    | none => exact ⟨0, 0, fun b o n c h => by simp at h⟩
    | some a => exact ⟨a.block, a.off, fun b o n c h => by simp only [Value.slice.injEq, Option.some.injEq] at h; obtain ⟨rfl, -, -⟩ := h; exact ⟨rfl, rfl⟩⟩
  have HBO : Hid _ := hbo
  have HK0 : Hid (Keeps w0 w) := hk0
  have HV : Hid (RNodes w0 (.slice an ns.length cap) ns) := hv
  have HSM : Hid (NodesSm ns) := hsm
  have hlen : ns.length ≤ 2000000 := hsm.len
  clear hv hsm hbo hk0
  go_enter Tryz.func10, Tryz.ntmps10
  go_wp2
  go_loopw [3, 4] (fun o i W => ∃ (k : Nat) (xs : List Value) (ivs : List (Nat × Nat)), k ≤ ns.length ∧ i = .int .i64 k ∧ W.ownsRow w.heap.size 71 7 o k xs ∧ LList 7 (PNode w0 b0 o0) W xs (ns.take k) ivs ∧ (∀ iv ∈ ivs, w.heap.size ≤ iv.1 ∧ iv.2 ≤ W.heap.size ∧ ∀ g, o.ownBlock = some g → ¬ (iv.1 ≤ g ∧ g < iv.2)) ∧ Below w.heap.size w W)
    (fun _ i _ => ns.length - (intOf i).toNat)
  case atStart => exact ⟨0, [], [], Nat.zero_le _, rfl, World.ownsRow_nil _ _ _ _, LList.nil _ _ _, fun _ h => by simp at h, Below.refl _ _⟩
  case round =>
    obtain ⟨k, xs, ivs, hk, rfl, hown, hll, hiv, hB⟩ := hrel
    have HO : Hid (wr.ownsRow w.heap.size 71 7 u3 k xs) := hown
    have HL : Hid (LList 7 (PNode w0 b0 o0) wr xs (ns.take k) ivs) := hll
    have HI : Hid (∀ iv ∈ ivs, w.heap.size ≤ iv.1 ∧ iv.2 ≤ wr.heap.size ∧ ∀ g, u3.ownBlock = some g → ¬ (iv.1 ≤ g ∧ g < iv.2)) := hiv
    have HB : Hid (Below w.heap.size w wr) := hB
    clear hown hll hiv hB
    by_cases hlt : k < ns.length
    · obtain ⟨bt, ot, ct, ae, ce, ak, ck, ao, co, aa, ca, hvt, -, hbt, d0, d1, d2, d3, d4, d5, d6, hnode⟩ := node_at HV.out hlt
      simp only [Value.slice.injEq, true_and] at hvt
      obtain ⟨rfl, rfl⟩ := hvt
      obtain ⟨rfl, rfl⟩ := HBO.out _ _ _ _ rfl
      have HN : Hid _ := hnode
      have HD3 : Hid _ := d3
      have HD4 : Hid _ := d4
      have HD5 : Hid _ := d5
      have HD6 : Hid _ := d6
      have kp := HK0.out.trans (Keeps.of_below HB.out)
      have e0 := kp _ _ _ d0
      have e1 := kp _ _ _ d1
      have e2 := kp _ _ _ d2
      have e3 := kp _ _ _ d3
      have e4 := kp _ _ _ d4
      have e5 := kp _ _ _ d5
      have e6 := kp _ _ _ d6
      have hb0 := cell_lt e0
      have hi1 : (k : Int) < (ns.length : Int) := by omega
      have HT : Hid (NodeSm ns[k]) := HSM.out.each _ (List.getElem_mem hlt)
      have hel : ns[k].exprs.length ≤ 2000000 := HT.out.exprs
      generalize hNK : ns[k] = N at *
      have HTK : Hid _ := hNK
      have HSZ : Hid (w.heap.size ≤ wr.heap.size) := HB.out.size
      clear hnode hNK d0 d1 d2 d3 d4 d5 d6 kp
      obtain ⟨w1, rfl⟩ : ∃ w1 : World, w1 = wr := ⟨wr, rfl⟩
      have HX : Hid (Box (w1.alloc (.cells #[.int .i64 N.op, .int .i64 N.a, .int .i64 N.b, .slice ae N.exprs.length ce, .slice ak N.keys.length ck, .slice ao N.others.length co, .slice aa N.aggs.length ca] 71)) w1.heap.size #[.int .i64 N.op, .int .i64 N.a, .int .i64 N.b, .slice ae N.exprs.length ce, .slice ak N.keys.length ck, .slice ao N.others.length co, .slice aa N.aggs.length ca] 71) := Box.new _ _ _
      have HBX : Hid (Below w1.heap.size w1 (w1.alloc (.cells #[.int .i64 N.op, .int .i64 N.a, .int .i64 N.b, .slice ae N.exprs.length ce, .slice ak N.keys.length ck, .slice ao N.others.length co, .slice aa N.aggs.length ca] 71))) := (Below.refl _ _).alloc (Nat.le_refl _) _
      go_upto_region 6 with fail
      clear e0 e1 e2 e3 e4 e5 e6
      have HS2 : Hid ((w1.alloc (.cells #[.int .i64 N.op, .int .i64 N.a, .int .i64 N.b, .slice ae N.exprs.length ce, .slice ak N.keys.length ck, .slice ao N.others.length co, .slice aa N.aggs.length ca] 71)).heap.size = w1.heap.size + 1) := by unfold Hid; simp
      generalize w1.alloc (.cells #[.int .i64 N.op, .int .i64 N.a, .int .i64 N.b, .slice ae N.exprs.length ce, .slice ak N.keys.length ck, .slice ao N.others.length co, .slice aa N.aggs.length ca] 71) = w2 at *
      go_wp2_with fail
      go_loopw [6, 7] (fun c j W => ∃ (m : Nat) (ys : List Value) (jvs : List (Nat × Nat)), m ≤ N.exprs.length ∧ j = .int .i64 m ∧ W.ownsRow (w1.heap.size + 1) 84 1 c m ys ∧ LList 1 (PExpr w0 ae) W ys (N.exprs.take m) jvs ∧ (∀ iv ∈ jvs, w1.heap.size + 1 ≤ iv.1 ∧ iv.2 ≤ W.heap.size ∧ ∀ g, c.ownBlock = some g → ¬ (iv.1 ≤ g ∧ g < iv.2)) ∧ Below w2.heap.size w2 W)
        (fun _ j _ => N.exprs.length - (intOf j).toNat)
      case atStart => exact ⟨0, [], [], Nat.zero_le _, rfl, World.ownsRow_nil _ _ _ _, LList.nil _ _ _, fun _ h => by simp at h, Below.refl _ _⟩
      case round =>
        obtain ⟨m, ys, jvs, hm, rfl, hown, hll, hjv, hB2⟩ := hrel
        have HO2 : Hid (wr.ownsRow (w1.heap.size + 1) 84 1 u6 m ys) := hown
        have HL2 : Hid (LList 1 (PExpr w0 ae) wr ys (N.exprs.take m) jvs) := hll
        have HI2 : Hid (∀ iv ∈ jvs, w1.heap.size + 1 ≤ iv.1 ∧ iv.2 ≤ wr.heap.size ∧ ∀ g, u6.ownBlock = some g → ¬ (iv.1 ≤ g ∧ g < iv.2)) := hjv
        have HB2 : Hid (Below w2.heap.size w2 wr) := hB2
        have HSZ2 : Hid (w1.heap.size + 1 ≤ wr.heap.size) := by have := hB2.size; have := HS2.out; unfold Hid; omega
        have HBW : Hid (Below w1.heap.size w1 wr) := HBX.out.trans (hB2.mono (by have := HS2.out; omega))
        have HB3 : Hid (Below w.heap.size w wr) := HB.out.trans (HBW.out.mono HSZ.out)
        have HX2 : Hid (Box wr w1.heap.size #[.int .i64 N.op, .int .i64 N.a, .int .i64 N.b, .slice ae N.exprs.length ce, .slice ak N.keys.length ck, .slice ao N.others.length co, .slice aa N.aggs.length ca] 71) := HX.out.call HB2.out
        obtain ⟨hcx, hfx, hsx⟩ := HX2.out.all
        clear hown hll hjv hB2
        by_cases hlt2 : m < N.exprs.length
        · obtain ⟨be, oe, cpe, vE, hve, hbe, c0, hex⟩ := exprs_at HN.out.exprs hlt2
          simp only [Value.slice.injEq, true_and] at hve
          obtain ⟨rfl, rfl⟩ := hve
          have HC0 : Hid _ := c0
          have f0 := (HK0.out.trans (Keeps.of_below HB3.out)) _ _ _ c0
          have hbf := cell_lt f0
          have hj1 : (m : Int) < (N.exprs.length : Int) := by omega
          have HEX : Hid _ := hex
          have HES : Hid (N.exprs[m].length ≤ 2000000) := HT.out.each _ (List.getElem_mem hlt2)
          obtain ⟨aE, cE, rfl, -⟩ := hex.shape
          have HTM : Hid (N.exprs.take (m + 1) = N.exprs.take m ++ [N.exprs[m]]) := by unfold Hid; rw [List.take_succ_eq_append_getElem hlt2]
          generalize hE : N.exprs[m] = E at *
          clear hex hE c0
          go_wp2_with fail
          refine (terms_any E _ _ (RSl.mono mono_RTerm (HK0.out.trans (Keeps.of_below HB3.out)) HEX.out) HES.out).mono ?_
          rintro e w3 ⟨v3, rfl, hl3, hb3⟩
          obtain ⟨a3, c3, rfl⟩ := hl3.shape
          have hz3 := hb3.size
          have HP : Hid (PExpr w0 (some ⟨be, oe, none⟩) m w3 wr.heap.size w3.heap.size (fun j => ([.slice a3 E.length c3] : List Value)[j]?) E) := ⟨be, oe, _, _, rfl, HC0.out, rfl, hl3, RSl.oks flat_term HEX.out⟩
          have HBC : Hid (Below wr.heap.size wr w3) := hb3
          have HOG : Hid ((w3.alloc (.cells #[.slice a3 E.length c3] 84)).ownsRow (w1.heap.size + 1) 84 1 u6 m ys) := World.ownsRow.alloc (owns_call HO2.out hb3) _
          have HNW : Hid (∀ j u, ([.slice a3 E.length c3] : List Value)[j]? = some u → (w3.alloc (.cells #[.slice a3 E.length c3] 84)).cell? ⟨w3.heap.size, j, none⟩ = some u) := fun j u hu => by
            rw [(Box.new w3 #[.slice a3 E.length c3] 84).rules.1 j, ← Array.getElem?_toList]; exact hu
          have HS0 : Hid ((w3.alloc (.cells #[.slice a3 E.length c3] 84)).heap.size = w3.heap.size + 1) := by unfold Hid; simp
          have HS1 : Hid (w1.heap.size + 1 ≤ (w3.alloc (.cells #[.slice a3 E.length c3] 84)).heap.size) := by have := HSZ2.out; unfold Hid; simp; omega
          have HON : Hid (∀ u ∈ ([.slice a3 E.length c3] : List Value), u.oneCell' = true) := by intro u hu; simp at hu; subst hu; rfl
          clear hl3 hb3
          go_wp2_with (at_builtin; refine app_one elem_expr _ (by rfl) _ _ (by rfl) (w1.heap.size + 1) u6 m ys (by rfl) HOG.out w3.heap.size 1 1 [.slice a3 E.length c3] (by rfl) rfl HNW.out HON.out (by omega) (by omega) (by omega) HS1.out (w3.heap.size + 1) HS0.out ?_; intro g9 cap9 w9 hown9 hg9 hat9 hlt9)
          have hz9 := hg9.size
          rw [HS0.out] at hz9
          have HB9 : Hid (Below w2.heap.size w2 w9) := ((HB2.out.trans (HBC.out.mono HB2.out.size)).alloc (by have := HB2.out.size; omega) _).grown hg9 (by have := HB2.out.size; have := HS0.out; omega) (fun g hg => by have := (HO2.out.lt g hg).1; have := HS2.out; omega)
          have HO9 : Hid (w9.ownsRow (w1.heap.size + 1) 84 1 (.slice (some ⟨g9, 0, none⟩) (m + 1) cap9) (m + 1) (ys ++ [.slice a3 E.length c3])) := hown9
          have HGR : Hid (∀ iv ∈ jvs ++ [(wr.heap.size, w3.heap.size)], ∀ g, u6.ownBlock = some g → ¬ (iv.1 ≤ g ∧ g < iv.2)) := by
            intro iv hiv g hg
            rw [List.mem_append, List.mem_singleton] at hiv
            rcases hiv with hiv | rfl
            · exact (HI2.out iv hiv).2.2 g hg
            · have := (HO2.out.lt g hg).2
              simp only; omega
          have HL9 : Hid (LList 1 (PExpr w0 (some ⟨be, oe, none⟩)) w9 (ys ++ [.slice a3 E.length c3]) (N.exprs.take (m + 1)) (jvs ++ [(wr.heap.size, w3.heap.size)])) := by
            unfold Hid
            rw [HTM.out]
            have h1 := HL2.out.call (stays_PExpr _ _) HBC.out
            have hlen2 : (N.exprs.take m).length = m := by rw [List.length_take]; omega
            have h2 := h1.snoc (stays_PExpr _ _) (cs := [.slice a3 E.length c3]) (x := E) (lo := wr.heap.size) (hi := w3.heap.size) rfl (fun iv hiv => (HI2.out iv hiv).2.1) (by rw [hlen2]; exact HP.out)
            exact (h2.call (stays_PExpr _ _) ((Below.refl _ _).alloc (Nat.le_refl _) _)).grown (stays_PExpr _ _) hg9 HGR.out
          have HI9 : Hid (∀ iv ∈ jvs ++ [(wr.heap.size, w3.heap.size)], w1.heap.size + 1 ≤ iv.1 ∧ iv.2 ≤ w9.heap.size ∧ ∀ g, Value.ownBlock (.slice (some ⟨g9, 0, none⟩) (m + 1) cap9) = some g → ¬ (iv.1 ≤ g ∧ g < iv.2)) := by
            intro iv hiv
            have hbd : w1.heap.size + 1 ≤ iv.1 ∧ iv.2 ≤ w3.heap.size := by
              rw [List.mem_append, List.mem_singleton] at hiv
              rcases hiv with hiv | rfl
              · have := HI2.out iv hiv; exact ⟨this.1, by omega⟩
              · exact ⟨HSZ2.out, Nat.le_refl _⟩
            refine ⟨hbd.1, by omega, fun g hg => ?_⟩
            simp only [Value.ownBlock, Option.some.injEq] at hg
            subst hg
            rcases hat9 with h | h
            · exact HGR.out iv hiv _ h
            · omega
          clear hown9 hg9 hat9 hlt9
          go_roundw
          case rel => exact ⟨m + 1, _, _, by omega, by go_num, HO9.out, HL9.out, HI9.out, HB9.out⟩
          case measure => simp [intOf]; omega
        · have hmt : m = N.exprs.length := by omega
          subst hmt
          have HL3 : Hid (LList 1 (PExpr w0 ae) wr ys N.exprs jvs) := by have := HL2.out; rw [List.take_length] at this; exact this
          clear HL2
          have HZ : Hid (Box (wr.alloc (.cells #[.int .i64 (-77), .int .i64 0, .int .i64 0, .string ByteArray.empty] 87)) wr.heap.size #[.int .i64 (-77), .int .i64 0, .int .i64 0, .string ByteArray.empty] 87) := Box.new _ _ _
          have HS3 : Hid ((wr.alloc (.cells #[.int .i64 (-77), .int .i64 0, .int .i64 0, .string ByteArray.empty] 87)).heap.size = wr.heap.size + 1) := by unfold Hid; simp
          have HOG : Hid (((wr.alloc (.cells #[.int .i64 (-77), .int .i64 0, .int .i64 0, .string ByteArray.empty] 87)).alloc (.cells #[.slice (some ⟨wr.heap.size, 0, none⟩) 1 1] 84)).ownsRow (w1.heap.size + 1) 84 1 u6 N.exprs.length ys) := (HO2.out.alloc _).alloc _
          have HNW : Hid (∀ j u, ([.slice (some ⟨wr.heap.size, 0, none⟩) 1 1] : List Value)[j]? = some u → ((wr.alloc (.cells #[.int .i64 (-77), .int .i64 0, .int .i64 0, .string ByteArray.empty] 87)).alloc (.cells #[.slice (some ⟨wr.heap.size, 0, none⟩) 1 1] 84)).cell? ⟨wr.heap.size + 1, j, none⟩ = some u) := fun j u hu => by
            have := (Box.new (wr.alloc (.cells #[.int .i64 (-77), .int .i64 0, .int .i64 0, .string ByteArray.empty] 87)) #[.slice (some ⟨wr.heap.size, 0, none⟩) 1 1] 84).rules.1 j
            rw [HS3.out] at this
            rw [this, ← Array.getElem?_toList]; exact hu
          have HS0 : Hid (((wr.alloc (.cells #[.int .i64 (-77), .int .i64 0, .int .i64 0, .string ByteArray.empty] 87)).alloc (.cells #[.slice (some ⟨wr.heap.size, 0, none⟩) 1 1] 84)).heap.size = wr.heap.size + 2) := by unfold Hid; simp
          have HS1 : Hid (w1.heap.size + 1 ≤ ((wr.alloc (.cells #[.int .i64 (-77), .int .i64 0, .int .i64 0, .string ByteArray.empty] 87)).alloc (.cells #[.slice (some ⟨wr.heap.size, 0, none⟩) 1 1] 84)).heap.size) := by have := HSZ2.out; unfold Hid; simp; omega
          have HON : Hid (∀ u ∈ ([.slice (some ⟨wr.heap.size, 0, none⟩) 1 1] : List Value), u.oneCell' = true) := by intro u hu; simp at hu; subst hu; rfl
          have HBA : Hid (Below wr.heap.size wr ((wr.alloc (.cells #[.int .i64 (-77), .int .i64 0, .int .i64 0, .string ByteArray.empty] 87)).alloc (.cells #[.slice (some ⟨wr.heap.size, 0, none⟩) 1 1] 84))) := ((Below.refl _ _).alloc (Nat.le_refl _) _).alloc (by simp) _
          go_upto_region 12 with (at_builtin; refine app_one elem_expr _ (by rfl) _ _ (by rfl) (w1.heap.size + 1) u6 N.exprs.length ys (by rfl) HOG.out (wr.heap.size + 1) 1 1 [.slice (some ⟨wr.heap.size, 0, none⟩) 1 1] (by rfl) rfl HNW.out HON.out (by omega) (by omega) (by omega) HS1.out (wr.heap.size + 2) HS0.out ?_; intro g9 cap9 w9 hown9 hg9 hat9 hlt9)
          have hz9 : wr.heap.size + 2 ≤ w9.heap.size := by rw [← HS0.out]; exact hg9.size
          have HB9 : Hid (Below w1.heap.size w1 w9) := (HBW.out.trans (HBA.out.mono (by have := HSZ2.out; omega))).grown hg9 (by have := HS1.out; omega) (fun g hg => by have := (HO2.out.lt g hg).1; omega)
          have HR9 : Hid (LRow 84 1 (PExpr w0 ae) w9 (w1.heap.size + 1) w9.heap.size (.slice (some ⟨g9, 0, none⟩) N.exprs.length cap9) N.exprs [.slice (some ⟨wr.heap.size, 0, none⟩) 1 1]) := by
            refine LRow.owns hown9 ((HL3.out.call (stays_PExpr _ _) HBA.out).grown (stays_PExpr _ _) hg9 (fun iv hiv => (HI2.out iv hiv).2.2)) (Nat.le_refl _) (fun iv hiv => ?_)
            have := HI2.out iv hiv
            refine ⟨this.1, by omega, ?_⟩
            rcases hat9 with h | h
            · exact this.2.2 _ h
            · omega
          have HZ9 : Hid (Box w9 wr.heap.size #[.int .i64 (-77), .int .i64 0, .int .i64 0, .string ByteArray.empty] 87) := (HZ.out.alloc _).grown hg9 (fun g hg => by have := (HO2.out.lt g hg).2; omega)
          have HX9 : Hid (Box w9 w1.heap.size #[.int .i64 N.op, .int .i64 N.a, .int .i64 N.b, .slice ae N.exprs.length ce, .slice ak N.keys.length ck, .slice ao N.others.length co, .slice aa N.aggs.length ca] 71) := ((HX2.out.alloc _).alloc _).grown hg9 (fun g hg => by have := (HO2.out.lt g hg).1; omega)
          have hcap9 : N.exprs.length ≤ cap9 := by
            obtain ⟨_, _, _, _, _, hv, _, _, _, h, _⟩ := HR9.out
            simp only [Value.slice.injEq, true_and] at hv
            omega
          have HZZ : Hid (w1.heap.size + 1 ≤ wr.heap.size ∧ wr.heap.size < w9.heap.size) := ⟨HSZ2.out, by omega⟩
          clear hcx hfx hsx
          obtain ⟨hcx, hfx, hsx⟩ := HX9.out.all
          have HXc : Hid (Box (w9.setCell ⟨w1.heap.size, 3, none⟩ (.slice (some ⟨g9, 0, none⟩) N.exprs.length cap9)) w1.heap.size #[.int .i64 N.op, .int .i64 N.a, .int .i64 N.b, .slice (some ⟨g9, 0, none⟩) N.exprs.length cap9, .slice ak N.keys.length ck, .slice ao N.others.length co, .slice aa N.aggs.length ca] 71) := by
            have := HX9.out.set 3 (.slice (some ⟨g9, 0, none⟩) N.exprs.length cap9)
            unfold Hid; simpa using this
          have HOn9 : Hid (Only (fun x => x = w1.heap.size) w9 (w9.setCell ⟨w1.heap.size, 3, none⟩ (.slice (some ⟨g9, 0, none⟩) N.exprs.length cap9))) := Only.setCell (S := fun x => x = w1.heap.size) (Only.refl _ _) (p := ⟨w1.heap.size, 3, none⟩) rfl _
          have HB10 : Hid (Below w1.heap.size w1 (w9.setCell ⟨w1.heap.size, 3, none⟩ (.slice (some ⟨g9, 0, none⟩) N.exprs.length cap9))) := HB9.out.setCell (Nat.le_refl _) _
          have HS10 : Hid ((w9.setCell ⟨w1.heap.size, 3, none⟩ (.slice (some ⟨g9, 0, none⟩) N.exprs.length cap9)).heap.size = w9.heap.size) := by unfold Hid; simp [World.setCell]
          have HSc : Hid (w1.heap.size + 1 ≤ (w9.setCell ⟨w1.heap.size, 3, none⟩ (.slice (some ⟨g9, 0, none⟩) N.exprs.length cap9)).heap.size) := by have := HS10.out; have := HZZ.out; unfold Hid; omega
          clear hown9 hg9 hat9 hlt9 hz9 HNW HS0 HS1 HON HOG HL3 HO2 HI2 HB2 HB3 HX2 HZ HS3 HBA
          go_wp2_with fail
          clear hcx hfx hsx
          generalize w9.setCell ⟨w1.heap.size, 3, none⟩ (.slice (some ⟨g9, 0, none⟩) N.exprs.length cap9) = w10 at *
          refine (ints_any N.keys _ _ (RSl.mono mono_RI64 (HK0.out.trans (Keeps.of_below (HB.out.trans (HB10.out.mono HSZ.out)))) HN.out.keys) HT.out.keys).mono ?_
          rintro e w11 ⟨vv, rfl, hl11, hb11⟩
          obtain ⟨a11, c11, rfl⟩ := hl11.shape
          have HX11 : Hid (Box w11 w1.heap.size #[.int .i64 N.op, .int .i64 N.a, .int .i64 N.b, .slice (some ⟨g9, 0, none⟩) N.exprs.length cap9, .slice ak N.keys.length ck, .slice ao N.others.length co, .slice aa N.aggs.length ca] 71) := HXc.out.call hb11
          obtain ⟨hcx, hfx, hsx⟩ := HX11.out.all
          have HXn : Hid (Box (w11.setCell ⟨w1.heap.size, 4, none⟩ (.slice a11 N.keys.length c11)) w1.heap.size #[.int .i64 N.op, .int .i64 N.a, .int .i64 N.b, .slice (some ⟨g9, 0, none⟩) N.exprs.length cap9, .slice a11 N.keys.length c11, .slice ao N.others.length co, .slice aa N.aggs.length ca] 71) := by
            have := HX11.out.set 4 (.slice a11 N.keys.length c11)
            unfold Hid; simpa using this
          have HOn11 : Hid (Only (fun x => x = w1.heap.size) w10 (w11.setCell ⟨w1.heap.size, 4, none⟩ (.slice a11 N.keys.length c11))) := Only.setCell (S := fun x => x = w1.heap.size) (Only.below hb11) (p := ⟨w1.heap.size, 4, none⟩) rfl _
          have HLn11 : Hid (Lent (w11.setCell ⟨w1.heap.size, 4, none⟩ (.slice a11 N.keys.length c11)) 3 1 w10.heap.size w11.heap.size _ (.slice a11 N.keys.length c11) N.keys.length (N.keys.flatMap flInt ++ [.int .i64 (-77)])) := hl11.set (by have := HSc.out; omega) _
          have HBn11 : Hid (Below w1.heap.size w1 (w11.setCell ⟨w1.heap.size, 4, none⟩ (.slice a11 N.keys.length c11))) := (HB10.out.trans (hb11.mono HB10.out.size)).setCell (Nat.le_refl _) _
          have HSn11 : Hid (w10.heap.size ≤ w11.heap.size ∧ (w11.setCell ⟨w1.heap.size, 4, none⟩ (.slice a11 N.keys.length c11)).heap.size = w11.heap.size) := by have := hb11.size; unfold Hid; simp [World.setCell]; omega
          have HSd : Hid (w1.heap.size + 1 ≤ (w11.setCell ⟨w1.heap.size, 4, none⟩ (.slice a11 N.keys.length c11)).heap.size) := by have := HSn11.out; have := HSc.out; unfold Hid; omega
          clear hl11 hb11 HX11 HXc HSc
          have HXc := HXn
          have HSc := HSd
          clear HXn HSd
          go_wp2_with fail
          clear hcx hfx hsx
          generalize w11.setCell ⟨w1.heap.size, 4, none⟩ (.slice a11 N.keys.length c11) = w12 at *
          refine (ints_any N.others _ _ (RSl.mono mono_RI64 (HK0.out.trans (Keeps.of_below (HB.out.trans (HBn11.out.mono HSZ.out)))) HN.out.others) HT.out.others).mono ?_
          rintro e w13 ⟨vv, rfl, hl13, hb13⟩
          obtain ⟨a13, c13, rfl⟩ := hl13.shape
          have HX13 : Hid (Box w13 w1.heap.size #[.int .i64 N.op, .int .i64 N.a, .int .i64 N.b, .slice (some ⟨g9, 0, none⟩) N.exprs.length cap9, .slice a11 N.keys.length c11, .slice ao N.others.length co, .slice aa N.aggs.length ca] 71) := HXc.out.call hb13
          obtain ⟨hcx, hfx, hsx⟩ := HX13.out.all
          have HXn : Hid (Box (w13.setCell ⟨w1.heap.size, 5, none⟩ (.slice a13 N.others.length c13)) w1.heap.size #[.int .i64 N.op, .int .i64 N.a, .int .i64 N.b, .slice (some ⟨g9, 0, none⟩) N.exprs.length cap9, .slice a11 N.keys.length c11, .slice a13 N.others.length c13, .slice aa N.aggs.length ca] 71) := by
            have := HX13.out.set 5 (.slice a13 N.others.length c13)
            unfold Hid; simpa using this
          have HOn13 : Hid (Only (fun x => x = w1.heap.size) w12 (w13.setCell ⟨w1.heap.size, 5, none⟩ (.slice a13 N.others.length c13))) := Only.setCell (S := fun x => x = w1.heap.size) (Only.below hb13) (p := ⟨w1.heap.size, 5, none⟩) rfl _
          have HLn13 : Hid (Lent (w13.setCell ⟨w1.heap.size, 5, none⟩ (.slice a13 N.others.length c13)) 3 1 w12.heap.size w13.heap.size _ (.slice a13 N.others.length c13) N.others.length (N.others.flatMap flInt ++ [.int .i64 (-77)])) := hl13.set (by have := HSc.out; omega) _
          have HBn13 : Hid (Below w1.heap.size w1 (w13.setCell ⟨w1.heap.size, 5, none⟩ (.slice a13 N.others.length c13))) := (HBn11.out.trans (hb13.mono HBn11.out.size)).setCell (Nat.le_refl _) _
          have HSn13 : Hid (w12.heap.size ≤ w13.heap.size ∧ (w13.setCell ⟨w1.heap.size, 5, none⟩ (.slice a13 N.others.length c13)).heap.size = w13.heap.size) := by have := hb13.size; unfold Hid; simp [World.setCell]; omega
          have HSd : Hid (w1.heap.size + 1 ≤ (w13.setCell ⟨w1.heap.size, 5, none⟩ (.slice a13 N.others.length c13)).heap.size) := by have := HSn13.out; have := HSc.out; unfold Hid; omega
          clear hl13 hb13 HX13 HXc HSc
          have HXc := HXn
          have HSc := HSd
          clear HXn HSd
          go_wp2_with fail
          clear hcx hfx hsx
          generalize w13.setCell ⟨w1.heap.size, 5, none⟩ (.slice a13 N.others.length c13) = w14 at *
          refine (aggs_any N.aggs _ _ (RSl.mono mono_RTy (HK0.out.trans (Keeps.of_below (HB.out.trans (HBn13.out.mono HSZ.out)))) HN.out.aggs) HT.out.aggs).mono ?_
          rintro e w15 ⟨vv, rfl, hl15, hb15⟩
          obtain ⟨a15, c15, rfl⟩ := hl15.shape
          have HX15 : Hid (Box w15 w1.heap.size #[.int .i64 N.op, .int .i64 N.a, .int .i64 N.b, .slice (some ⟨g9, 0, none⟩) N.exprs.length cap9, .slice a11 N.keys.length c11, .slice a13 N.others.length c13, .slice aa N.aggs.length ca] 71) := HXc.out.call hb15
          obtain ⟨hcx, hfx, hsx⟩ := HX15.out.all
          have HXn : Hid (Box (w15.setCell ⟨w1.heap.size, 6, none⟩ (.slice a15 N.aggs.length c15)) w1.heap.size #[.int .i64 N.op, .int .i64 N.a, .int .i64 N.b, .slice (some ⟨g9, 0, none⟩) N.exprs.length cap9, .slice a11 N.keys.length c11, .slice a13 N.others.length c13, .slice a15 N.aggs.length c15] 71) := by
            have := HX15.out.set 6 (.slice a15 N.aggs.length c15)
            unfold Hid; simpa using this
          have HOn15 : Hid (Only (fun x => x = w1.heap.size) w14 (w15.setCell ⟨w1.heap.size, 6, none⟩ (.slice a15 N.aggs.length c15))) := Only.setCell (S := fun x => x = w1.heap.size) (Only.below hb15) (p := ⟨w1.heap.size, 6, none⟩) rfl _
          have HLn15 : Hid (Lent (w15.setCell ⟨w1.heap.size, 6, none⟩ (.slice a15 N.aggs.length c15)) 126 2 w14.heap.size w15.heap.size _ (.slice a15 N.aggs.length c15) N.aggs.length (N.aggs.flatMap flTy ++ [.int .i64 (-77), .int .i64 0])) := hl15.set (by have := HSc.out; omega) _
          have HBn15 : Hid (Below w1.heap.size w1 (w15.setCell ⟨w1.heap.size, 6, none⟩ (.slice a15 N.aggs.length c15))) := (HBn13.out.trans (hb15.mono HBn13.out.size)).setCell (Nat.le_refl _) _
          have HSn15 : Hid (w14.heap.size ≤ w15.heap.size ∧ (w15.setCell ⟨w1.heap.size, 6, none⟩ (.slice a15 N.aggs.length c15)).heap.size = w15.heap.size) := by have := hb15.size; unfold Hid; simp [World.setCell]; omega
          have HSd : Hid (w1.heap.size + 1 ≤ (w15.setCell ⟨w1.heap.size, 6, none⟩ (.slice a15 N.aggs.length c15)).heap.size) := by have := HSn15.out; have := HSc.out; unfold Hid; omega
          clear hl15 hb15 HX15 HXc HSc
          have HXc := HXn
          have HSc := HSd
          clear HXn HSd
          go_upto_region 16 with fail
          clear hcx hfx hsx
          generalize w15.setCell ⟨w1.heap.size, 6, none⟩ (.slice a15 N.aggs.length c15) = w16 at *
          have HP : Hid (PNode w0 bt ot k w16 (w1.heap.size + 1) w16.heap.size (fun j => ([.int .i64 N.op, .int .i64 N.a, .int .i64 N.b, .slice (some ⟨g9, 0, none⟩) N.exprs.length cap9, .slice a11 N.keys.length c11, .slice a13 N.others.length c13, .slice a15 N.aggs.length c15] : List Value)[j]?) N) := by
            have q1 := HS10.out
            have q2 := HSn11.out
            have q3 := HSn13.out
            have q4 := HSn15.out
            have q5 := HZZ.out
            have hne : ∀ b, w1.heap.size + 1 ≤ b → ¬ (fun x => x = w1.heap.size) b := fun b h e => by simp only at e; omega
            have o1 : Only (fun x => x = w1.heap.size) w10 w16 := (HOn11.out.trans HOn13.out).trans HOn15.out
            have o2 : Only (fun x => x = w1.heap.size) w9 w16 := HOn9.out.trans o1
            have o3 : Only (fun x => x = w1.heap.size) w12 w16 := HOn13.out.trans HOn15.out
            refine ⟨ae, ce, _, _, _, _, _, _, _, wr.heap.size, 1, _, w9.heap.size, w11.heap.size, w13.heap.size, HD3.out, HD4.out, HD5.out, HD6.out, rfl, rfl, rfl, rfl, rfl, rfl, rfl, ?_, HZ9.out.only o2 (hne _ (by omega)), rfl, by omega, by omega, by omega, by omega, by omega, by omega, ?_, ?_, ?_⟩
            · exact (HR9.out.only (stays_PExpr _ _) o2 (fun b h _ => hne b h)).wide (Nat.le_refl _) (by omega)
            · exact (HLn11.out.only o3 (fun b h _ => hne b (by omega))).wide (by omega) (by omega)
            · exact (HLn13.out.only HOn15.out (fun b h _ => hne b (by omega))).wide (by omega) (by omega)
            · exact HLn15.out.wide (by omega) (by omega)
          have HZ16 : Hid (w1.heap.size + 1 ≤ w16.heap.size) := HSc.out
          have HBN : Hid (Below w1.heap.size w1 w16) := HBn15.out
          clear HLn11 HLn13 HLn15 HR9 HZ9 HOn9 HOn11 HOn13 HOn15 HBn11 HBn13 HBn15
          obtain ⟨hcx, hfx, hsx⟩ := HXc.out.all
          have HOT : Hid ((w16.alloc (.cells #[.int .i64 N.op, .int .i64 N.a, .int .i64 N.b, .slice (some ⟨g9, 0, none⟩) N.exprs.length cap9, .slice a11 N.keys.length c11, .slice a13 N.others.length c13, .slice a15 N.aggs.length c15] 71)).ownsRow w.heap.size 71 7 u3 k xs) := World.ownsRow.alloc (owns_below HO.out HBN.out (fun g hg => (HO.out.lt g hg).2)) _
          have HNW : Hid (∀ j u, ([.int .i64 N.op, .int .i64 N.a, .int .i64 N.b, .slice (some ⟨g9, 0, none⟩) N.exprs.length cap9, .slice a11 N.keys.length c11, .slice a13 N.others.length c13, .slice a15 N.aggs.length c15] : List Value)[j]? = some u → (w16.alloc (.cells #[.int .i64 N.op, .int .i64 N.a, .int .i64 N.b, .slice (some ⟨g9, 0, none⟩) N.exprs.length cap9, .slice a11 N.keys.length c11, .slice a13 N.others.length c13, .slice a15 N.aggs.length c15] 71)).cell? ⟨w16.heap.size, j, none⟩ = some u) := fun j u hu => by
            rw [(Box.new w16 #[.int .i64 N.op, .int .i64 N.a, .int .i64 N.b, .slice (some ⟨g9, 0, none⟩) N.exprs.length cap9, .slice a11 N.keys.length c11, .slice a13 N.others.length c13, .slice a15 N.aggs.length c15] 71).rules.1 j, ← Array.getElem?_toList]; exact hu
          have HS0 : Hid ((w16.alloc (.cells #[.int .i64 N.op, .int .i64 N.a, .int .i64 N.b, .slice (some ⟨g9, 0, none⟩) N.exprs.length cap9, .slice a11 N.keys.length c11, .slice a13 N.others.length c13, .slice a15 N.aggs.length c15] 71)).heap.size = w16.heap.size + 1) := by unfold Hid; simp
          have HS1 : Hid (w.heap.size ≤ (w16.alloc (.cells #[.int .i64 N.op, .int .i64 N.a, .int .i64 N.b, .slice (some ⟨g9, 0, none⟩) N.exprs.length cap9, .slice a11 N.keys.length c11, .slice a13 N.others.length c13, .slice a15 N.aggs.length c15] 71)).heap.size) := by have := HZ16.out; have := HSZ.out; unfold Hid; simp; omega
          have HON : Hid (∀ u ∈ ([.int .i64 N.op, .int .i64 N.a, .int .i64 N.b, .slice (some ⟨g9, 0, none⟩) N.exprs.length cap9, .slice a11 N.keys.length c11, .slice a13 N.others.length c13, .slice a15 N.aggs.length c15] : List Value), u.oneCell' = true) := by intro u hu; simp at hu; rcases hu with rfl | rfl | rfl | rfl | rfl | rfl | rfl <;> rfl
          go_wp2_with (at_builtin; refine app_one elem_node _ (by rfl) _ _ (by rfl) w.heap.size u3 k xs (by rfl) HOT.out w16.heap.size 1 1 [.int .i64 N.op, .int .i64 N.a, .int .i64 N.b, .slice (some ⟨g9, 0, none⟩) N.exprs.length cap9, .slice a11 N.keys.length c11, .slice a13 N.others.length c13, .slice a15 N.aggs.length c15] (by rfl) rfl HNW.out HON.out (by omega) (by omega) (by omega) HS1.out (w16.heap.size + 1) HS0.out ?_; intro g17 cap17 w17 hown17 hg17 hat17 hlt17)
          have hz17 := hg17.size
          rw [HS0.out] at hz17
          have HB17 : Hid (Below w.heap.size w w17) := ((HB.out.trans (HBN.out.mono HSZ.out)).alloc (by have := HZ16.out; have := HSZ.out; omega) _).grown hg17 HS1.out (fun g hg => (HO.out.lt g hg).1)
          have HO17 : Hid (w17.ownsRow w.heap.size 71 7 (.slice (some ⟨g17, 0, none⟩) (k + 1) cap17) (k + 1) (xs ++ [.int .i64 N.op, .int .i64 N.a, .int .i64 N.b, .slice (some ⟨g9, 0, none⟩) N.exprs.length cap9, .slice a11 N.keys.length c11, .slice a13 N.others.length c13, .slice a15 N.aggs.length c15])) := hown17
          have HGR : Hid (∀ iv ∈ ivs ++ [(w1.heap.size + 1, w16.heap.size)], ∀ g, u3.ownBlock = some g → ¬ (iv.1 ≤ g ∧ g < iv.2)) := by
            intro iv hiv g hg
            rw [List.mem_append, List.mem_singleton] at hiv
            rcases hiv with hiv | rfl
            · exact (HI.out iv hiv).2.2 g hg
            · have := (HO.out.lt g hg).2
              simp only; omega
          have HL17 : Hid (LList 7 (PNode w0 bt ot) w17 (xs ++ [.int .i64 N.op, .int .i64 N.a, .int .i64 N.b, .slice (some ⟨g9, 0, none⟩) N.exprs.length cap9, .slice a11 N.keys.length c11, .slice a13 N.others.length c13, .slice a15 N.aggs.length c15]) (ns.take (k + 1)) (ivs ++ [(w1.heap.size + 1, w16.heap.size)])) := by
            unfold Hid
            rw [List.take_succ_eq_append_getElem hlt, HTK.out]
            have h1 : LList 7 (PNode w0 bt ot) w16 xs (ns.take k) ivs := HL.out.call (stays_PNode _ _ _) HBN.out
            have hlen2 : (ns.take k).length = k := by rw [List.length_take]; omega
            have h2 := h1.snoc (stays_PNode _ _ _) (cs := [.int .i64 N.op, .int .i64 N.a, .int .i64 N.b, .slice (some ⟨g9, 0, none⟩) N.exprs.length cap9, .slice a11 N.keys.length c11, .slice a13 N.others.length c13, .slice a15 N.aggs.length c15]) (x := N) (lo := w1.heap.size + 1) (hi := w16.heap.size) rfl (fun iv hiv => by have := (HI.out iv hiv).2.1; omega) (by rw [hlen2]; exact HP.out)
            exact (h2.call (stays_PNode _ _ _) ((Below.refl _ _).alloc (Nat.le_refl _) _)).grown (stays_PNode _ _ _) hg17 HGR.out
          have HI17 : Hid (∀ iv ∈ ivs ++ [(w1.heap.size + 1, w16.heap.size)], w.heap.size ≤ iv.1 ∧ iv.2 ≤ w17.heap.size ∧ ∀ g, Value.ownBlock (.slice (some ⟨g17, 0, none⟩) (k + 1) cap17) = some g → ¬ (iv.1 ≤ g ∧ g < iv.2)) := by
            have h9 := HZ16.out
            have h8 := HSZ.out
            intro iv hiv
            have hbd : w.heap.size ≤ iv.1 ∧ iv.2 ≤ w16.heap.size := by
              rw [List.mem_append, List.mem_singleton] at hiv
              rcases hiv with hiv | rfl
              · have := HI.out iv hiv; exact ⟨this.1, by omega⟩
              · exact ⟨by simp only; omega, Nat.le_refl _⟩
            refine ⟨hbd.1, by omega, fun g hg => ?_⟩
            simp only [Value.ownBlock, Option.some.injEq] at hg
            subst hg
            rcases hat17 with h | h
            · exact HGR.out iv hiv _ h
            · omega
          clear hown17 hg17 hat17 hlt17 hz17
          go_roundw
          case rel => exact ⟨k + 1, _, _, by omega, by go_num, HO17.out, HL17.out, HI17.out, HB17.out⟩
          case measure => simp [intOf]; omega
    · have hkt : k = ns.length := by omega
      subst hkt
      have HL3 : Hid (LList 7 (PNode w0 b0 o0) wr xs ns ivs) := by have := HL.out; rw [List.take_length] at this; exact this
      have HSZ : Hid (w.heap.size ≤ wr.heap.size) := HB.out.size
      clear HL
      have HOG : Hid ((wr.alloc (.cells #[.int .i64 (-77), .int .i64 0, .int .i64 0, .slice none 0 0, .slice none 0 0, .slice none 0 0, .slice none 0 0] 71)).ownsRow w.heap.size 71 7 u3 ns.length xs) := HO.out.alloc _
      have HNW : Hid (∀ j u, ([.int .i64 (-77), .int .i64 0, .int .i64 0, .slice none 0 0, .slice none 0 0, .slice none 0 0, .slice none 0 0] : List Value)[j]? = some u → (wr.alloc (.cells #[.int .i64 (-77), .int .i64 0, .int .i64 0, .slice none 0 0, .slice none 0 0, .slice none 0 0, .slice none 0 0] 71)).cell? ⟨wr.heap.size, j, none⟩ = some u) := fun j u hu => by
        rw [(Box.new wr #[.int .i64 (-77), .int .i64 0, .int .i64 0, .slice none 0 0, .slice none 0 0, .slice none 0 0, .slice none 0 0] 71).rules.1 j, ← Array.getElem?_toList]; exact hu
      have HS0 : Hid ((wr.alloc (.cells #[.int .i64 (-77), .int .i64 0, .int .i64 0, .slice none 0 0, .slice none 0 0, .slice none 0 0, .slice none 0 0] 71)).heap.size = wr.heap.size + 1) := by unfold Hid; simp
      have HS1 : Hid (w.heap.size ≤ (wr.alloc (.cells #[.int .i64 (-77), .int .i64 0, .int .i64 0, .slice none 0 0, .slice none 0 0, .slice none 0 0, .slice none 0 0] 71)).heap.size) := by have := HSZ.out; unfold Hid; simp; omega
      have HON : Hid (∀ u ∈ ([.int .i64 (-77), .int .i64 0, .int .i64 0, .slice none 0 0, .slice none 0 0, .slice none 0 0, .slice none 0 0] : List Value), u.oneCell' = true) := by intro u hu; simp at hu; rcases hu with rfl | rfl | rfl <;> rfl
      have HBA : Hid (Below wr.heap.size wr (wr.alloc (.cells #[.int .i64 (-77), .int .i64 0, .int .i64 0, .slice none 0 0, .slice none 0 0, .slice none 0 0, .slice none 0 0] 71))) := (Below.refl _ _).alloc (Nat.le_refl _) _
      go_upto_region 18 with (at_builtin; refine app_one elem_node _ (by rfl) _ _ (by rfl) w.heap.size u3 ns.length xs (by rfl) HOG.out wr.heap.size 1 1 [.int .i64 (-77), .int .i64 0, .int .i64 0, .slice none 0 0, .slice none 0 0, .slice none 0 0, .slice none 0 0] (by rfl) rfl HNW.out HON.out (by omega) (by omega) (by omega) HS1.out (wr.heap.size + 1) HS0.out ?_; intro g9 cap9 w9 hown9 hg9 hat9 hlt9)
      have hz9 := hg9.size
      rw [HS0.out] at hz9
      have HB9 : Hid (Below w.heap.size w w9) := (HB.out.trans (HBA.out.mono HSZ.out)).grown hg9 HS1.out (fun g hg => (HO.out.lt g hg).1)
      have HR9 : Hid (LRow 71 7 (PNode w0 b0 o0) w9 w.heap.size w9.heap.size (.slice (some ⟨g9, 0, none⟩) ns.length cap9) ns [.int .i64 (-77), .int .i64 0, .int .i64 0, .slice none 0 0, .slice none 0 0, .slice none 0 0, .slice none 0 0]) := by
        refine LRow.owns hown9 ((HL3.out.call (stays_PNode _ _ _) HBA.out).grown (stays_PNode _ _ _) hg9 (fun iv hiv => (HI.out iv hiv).2.2)) (Nat.le_refl _) (fun iv hiv => ?_)
        have := HI.out iv hiv
        refine ⟨this.1, by omega, ?_⟩
        rcases hat9 with h | h
        · exact this.2.2 _ h
        · omega
      have hcap9 : ns.length ≤ cap9 := by
        obtain ⟨_, _, _, _, _, hv, _, _, _, h, _⟩ := HR9.out
        simp only [Value.slice.injEq, true_and] at hv
        omega
      clear hown9 hg9 hat9 hlt9 hz9 HNW HS0 HS1 HON HOG HL3 HO HI HB HBA
      go_wp2_with fail
      go_ret
      exact ⟨_, rfl, ⟨b0, o0, HBO.out, HR9.out⟩, HB9.out⟩

end Go.Proofs.YtekkicgbloidkaaGreatDoor
