/- Faults and tables of types that are the same. -/
import Derived.Test.YtekkicgbloidkaaGreatDoorRfQ
import Derived.Test.YtekkicgbloidkaaGreatDoorSvF
import Derived.Test.YtekkicgbloidkaaGreatDoorBkP
import Derived.Test.YtekkicgbloidkaaGreatDoorBkU
import Derived.Test.YtekkicgbloidkaaGreatDoorBkA
namespace Go.Proofs.YtekkicgbloidkaaGreatDoor
open Go Go.RowKit
attribute [local go_sem ↓] Go.wp_at_zero Go.wp_at_succ

set_option maxRecDepth 20000 in
set_option maxHeartbeats 1000000 in
theorem sameFault_any (p : Int) (w : World) :
    Calls Tryz.prog 14 #[faultV p, faultV p] w fun e w' => e = .returned (.bool true) ∧ Below w.heap.size w w' := by
  have hb0 : Below w.heap.size w ((w.alloc (.cells #[.int .i64 p, .slice none 0 0] 46)).alloc (.cells #[.int .i64 p, .slice none 0 0] 46)) := ((Below.refl _ _).alloc (Nat.le_refl _) _).alloc (by simp) _
  have HB0 : Hid _ := hb0
  have HX : Hid (Box ((w.alloc (.cells #[.int .i64 p, .slice none 0 0] 46)).alloc (.cells #[.int .i64 p, .slice none 0 0] 46)) w.heap.size #[.int .i64 p, .slice none 0 0] 46) := (Box.new _ _ _).alloc _
  have HY : Hid (Box ((w.alloc (.cells #[.int .i64 p, .slice none 0 0] 46)).alloc (.cells #[.int .i64 p, .slice none 0 0] 46)) (w.heap.size + 1) #[.int .i64 p, .slice none 0 0] 46) := by
    have := Box.new (w.alloc (.cells #[.int .i64 p, .slice none 0 0] 46)) #[.int .i64 p, .slice none 0 0] 46
    unfold Hid; simpa using this
  clear hb0
  go_enter Tryz.func14, Tryz.ntmps14
  go_wp2_with fail
  generalize (w.alloc (.cells #[.int .i64 p, .slice none 0 0] 46)).alloc (.cells #[.int .i64 p, .slice none 0 0] 46) = wA at *
  refine (sameInts_any [] _ _ wA (RSl.nil _ _ _) (RSl.nil _ _ _)).mono ?_
  rintro e w1 ⟨rfl, hb1⟩
  obtain ⟨x1, x2, x3⟩ := (HX.out.call hb1).all
  obtain ⟨y1, y2, y3⟩ := (HY.out.call hb1).all
  have HB1 : Hid (Below w.heap.size w w1) := Below.step hb1 HB0.out HB0.out.size
  clear hb1
  go_wp2_with fail
  go_ret
  exact ⟨rfl, HB1.out⟩

set_option maxRecDepth 20000 in
set_option maxHeartbeats 4000000 in
theorem sameTable_any (l : List (Int × Int)) (va vb : Value) (w : World) (ha : RColEs w va l) (hb : RColEs w vb l) :
    Calls Tryz.prog 18 #[.agg #[va], .agg #[vb]] w fun e w' => e = .returned (.bool true) ∧ Below w.heap.size w w' := by
  obtain ⟨aa, ca, rfl, hla⟩ := ha.shape
  obtain ⟨ab, cb, rfl, -⟩ := hb.shape
  have hb0 : Below w.heap.size w ((w.alloc (.cells #[.slice aa l.length ca] 57)).alloc (.cells #[.slice ab l.length cb] 57)) := ((Below.refl _ _).alloc (Nat.le_refl _) _).alloc (by simp) _
  have HB0 : Hid _ := hb0
  have HA : Hid (RColEs w (.slice aa l.length ca) l) := ha
  have HBb : Hid (RColEs w (.slice ab l.length cb) l) := hb
  have HX : Hid (Box ((w.alloc (.cells #[.slice aa l.length ca] 57)).alloc (.cells #[.slice ab l.length cb] 57)) w.heap.size #[.slice aa l.length ca] 57) := (Box.new _ _ _).alloc _
  have HY : Hid (Box ((w.alloc (.cells #[.slice aa l.length ca] 57)).alloc (.cells #[.slice ab l.length cb] 57)) (w.heap.size + 1) #[.slice ab l.length cb] 57) := by
    have := Box.new (w.alloc (.cells #[.slice aa l.length ca] 57)) #[.slice ab l.length cb] 57
    unfold Hid; simpa using this
  have HS : Hid (((w.alloc (.cells #[.slice aa l.length ca] 57)).alloc (.cells #[.slice ab l.length cb] 57)).heap.size = w.heap.size + 2) := by unfold Hid; simp
  clear hb0 ha hb
  go_enter Tryz.func18, Tryz.ntmps18
  go_upto_region 1 with fail
  generalize (w.alloc (.cells #[.slice aa l.length ca] 57)).alloc (.cells #[.slice ab l.length cb] 57) = wA at *
  obtain ⟨x1, x2, x3⟩ := HX.out.all
  obtain ⟨y1, y2, y3⟩ := HY.out.all
  go_wp2_with fail
  clear x1 x2 x3 y1 y2 y3
  go_loopw [5] (fun i W => ∃ k : Nat, k ≤ l.length ∧ i = .int .i64 k ∧ Below wA.heap.size wA W) (fun i _ => l.length - (intOf i).toNat)
  case atStart => exact ⟨0, Nat.zero_le _, rfl, Below.refl _ _⟩
  case round =>
    obtain ⟨k, hk, rfl, hB⟩ := hrel
    have HB : Hid (Below wA.heap.size wA wr) := hB
    have HBW : Hid (Below w.heap.size w wr) := HB0.out.trans (hB.mono HB0.out.size)
    obtain ⟨x1, x2, x3⟩ := (HX.out.call hB).all
    obtain ⟨y1, y2, y3⟩ := (HY.out.call hB).all
    clear hB
    by_cases hlt : k < l.length
    · obtain ⟨b1, o1, h1, r0, r1, r2, r3, r4⟩ := RSl.cellAt HA.out hlt
      obtain ⟨b2, o2, h2, s0, s1, s2, s3, s4⟩ := RSl.cellAt HBb.out hlt
      subst h1
      subst h2
      simp only [Nat.add_zero] at r0 s0
      have kp := Keeps.of_below HBW.out
      have e0 := kp _ _ _ r0
      have e1 := kp _ _ _ r1
      have e2 := kp _ _ _ r2
      have e3 := kp _ _ _ r3
      have e4 := kp _ _ _ r4
      have f0 := kp _ _ _ s0
      have f1 := kp _ _ _ s1
      have f2 := kp _ _ _ s2
      have f3 := kp _ _ _ s3
      have f4 := kp _ _ _ s4
      have l1 := cell_lt e0
      have l2 := cell_lt f0
      have hi1 : (k : Int) < (l.length : Int) := by omega
      generalize l[k] = X at *
      clear kp r0 r1 r2 r3 r4 s0 s1 s2 s3 s4
      have hx : Box ((wr.alloc (.cells #[.int .i64 X.1, .int .i64 X.2, .slice none 0 0, .slice none 0 0, .slice none 0 0] 67)).alloc (.cells #[.int .i64 X.1, .int .i64 X.2, .slice none 0 0, .slice none 0 0, .slice none 0 0] 67)) wr.heap.size #[.int .i64 X.1, .int .i64 X.2, .slice none 0 0, .slice none 0 0, .slice none 0 0] 67 := (Box.new _ _ _).alloc _
      have hy : Box ((wr.alloc (.cells #[.int .i64 X.1, .int .i64 X.2, .slice none 0 0, .slice none 0 0, .slice none 0 0] 67)).alloc (.cells #[.int .i64 X.1, .int .i64 X.2, .slice none 0 0, .slice none 0 0, .slice none 0 0] 67)) (wr.heap.size + 1) #[.int .i64 X.1, .int .i64 X.2, .slice none 0 0, .slice none 0 0, .slice none 0 0] 67 := by
        have := Box.new (wr.alloc (.cells #[.int .i64 X.1, .int .i64 X.2, .slice none 0 0, .slice none 0 0, .slice none 0 0] 67)) #[.int .i64 X.1, .int .i64 X.2, .slice none 0 0, .slice none 0 0, .slice none 0 0] 67
        simpa using this
      have HX2 : Hid _ := hx
      have HY2 : Hid _ := hy
      have HB2 : Hid (Below wA.heap.size wA ((wr.alloc (.cells #[.int .i64 X.1, .int .i64 X.2, .slice none 0 0, .slice none 0 0, .slice none 0 0] 67)).alloc (.cells #[.int .i64 X.1, .int .i64 X.2, .slice none 0 0, .slice none 0 0, .slice none 0 0] 67))) := (HB.out.alloc HB.out.size _).alloc (by have := HB.out.size; simp; omega) _
      clear hx hy
      go_upto_region 8 with fail
      generalize (wr.alloc (.cells #[.int .i64 X.1, .int .i64 X.2, .slice none 0 0, .slice none 0 0, .slice none 0 0] 67)).alloc (.cells #[.int .i64 X.1, .int .i64 X.2, .slice none 0 0, .slice none 0 0, .slice none 0 0] 67) = w2 at *
      obtain ⟨p1, p2, p3⟩ := Box.all HX2.out
      obtain ⟨q1, q2, q3⟩ := Box.all HY2.out
      go_upto_block 2 with fail
      go_cut [] (fun W => W = w2)
      case first =>
        go_wp2_with fail
        go_loopw [8] (fun i W => i = .int .i64 0 ∧ W = w2) (fun _ _ => 0)
        case atStart => exact ⟨rfl, rfl⟩
        case round =>
          obtain ⟨rfl, rfl⟩ := hrel
          go_wp2_with fail
          go_meet
          case rel => first | rfl | trivial
      case rest =>
        subst hcut
        obtain ⟨w2, rfl⟩ : ∃ x : World, x = wc := ⟨wc, rfl⟩
        go_upto_block 4 with fail
        go_cut [] (fun W => W = w2)
        case first =>
          go_wp2_with fail
          go_loopw [9] (fun i W => i = .int .i64 0 ∧ W = w2) (fun _ _ => 0)
          case atStart => exact ⟨rfl, rfl⟩
          case round =>
            obtain ⟨rfl, rfl⟩ := hrel
            go_wp2_with fail
            go_meet
            case rel => first | rfl | trivial
        case rest =>
          subst hcut
          obtain ⟨w2, rfl⟩ : ∃ x : World, x = wc := ⟨wc, rfl⟩
          go_wp2_with fail
          go_loopw [10] (fun i W => i = .int .i64 0 ∧ W = w2) (fun _ _ => 0)
          case atStart => exact ⟨rfl, rfl⟩
          case round =>
            obtain ⟨rfl, rfl⟩ := hrel
            go_wp2_with fail
            go_roundw
            case rel => exact ⟨k + 1, by omega, by go_num, HB2.out⟩
            case measure => simp [intOf]; omega
    · go_wp2_with fail
      go_ret
      exact ⟨rfl, HBW.out⟩

end Go.Proofs.YtekkicgbloidkaaGreatDoor
/- One step of a script: a Check. -/
namespace Go.Proofs.YtekkicgbloidkaaGreatDoor
open Go Go.RowKit
attribute [local go_sem ↓] Go.wp_at_zero Go.wp_at_succ

theorem LTabs.reads {w : World} {lo hi : Nat} {v : Value} {ts : List (List DCol)} (h : LTabs w lo hi v ts) : RTabs w v ts := by
  obtain ⟨gz, cz, czs, hr, -⟩ := h
  exact hr.reads stays_PTab PTab.reads (by omega)
theorem LTabs.call {w w' : World} {lo hi : Nat} {v : Value} {ts : List (List DCol)} (h : LTabs w lo hi v ts) (hb : Below w.heap.size w w') : LTabs w' lo hi v ts := by
  obtain ⟨gz, cz, czs, hr, hbx, hz⟩ := h
  exact ⟨gz, cz, czs, hr.only stays_PTab (S := fun _ => False) (Only.below hb) (fun _ _ _ => id), hbx.call hb, hz⟩
theorem LNodes.reads {w0 w : World} {lo hi : Nat} {v0 v : Value} {ns : List DNode} (h : LNodes w0 w lo hi v0 v ns) : RNodes w v ns := by
  obtain ⟨b0, o0, -, hr⟩ := h
  exact hr.reads (stays_PNode _ _ _) (PNode.reads _ _ _) (by omega)
theorem LNodes.call {w0 w w' : World} {lo hi : Nat} {v0 v : Value} {ns : List DNode} (h : LNodes w0 w lo hi v0 v ns) (hb : Below w.heap.size w w') : LNodes w0 w' lo hi v0 v ns := by
  obtain ⟨b0, o0, hbo, hr⟩ := h
  exact ⟨b0, o0, hbo, hr.only (stays_PNode _ _ _) (S := fun _ => False) (Only.below hb) (fun _ _ _ => id)⟩
theorem LTabs.shape {w : World} {lo hi : Nat} {v : Value} {ts : List (List DCol)} (h : LTabs w lo hi v ts) : ∃ a c, v = .slice a ts.length c := by
  obtain ⟨_, _, _, ⟨g, cap, _, _, _, hv, -⟩, -⟩ := h
  exact ⟨_, _, hv⟩
theorem LNodes.shape {w0 w : World} {lo hi : Nat} {v0 v : Value} {ns : List DNode} (h : LNodes w0 w lo hi v0 v ns) : ∃ a c, v = .slice a ns.length c := by
  obtain ⟨_, _, _, g, cap, _, _, _, hv, -⟩ := h
  exact ⟨_, _, hv⟩

set_option maxRecDepth 20000 in
set_option maxHeartbeats 16000000 in
theorem step1_any {B : Nat} {w : World} {bk : Nat} {vN vW vC vP vF : Value} {nN nW nC nP : Nat} {fl : List Nat} (h : Book no B w bk vN vW vC vP vF nN nW nC nP fl) (hB : B ≤ w.heap.size) (hnP : nP ≤ 900000000) (ts : List (List DCol)) (ns : List DNode) (vt0 vn0 : Value) (ht : RTabs w vt0 ts) (hn : RNodes w vn0 ns) (hst : TabsSm ts) (hsn : NodesSm ns) (q1 q2 q3 q4 : Int) :
    Calls Tryz.prog 5 #[.pointer (some ⟨bk, 0, none⟩), .agg #[.int .i64 1, .int .i64 q1, .int .i64 q2, .int .i64 q3, .int .i64 q4, vt0, vn0]] w fun e w' => e = .returned (.bool true) ∧ (∃ vP', Book no B w' bk vN vW vC vP' vF nN nW nC (nP + 2) fl) ∧ Below B w w' := by
  obtain ⟨at0, ct0, rfl, -⟩ := ht.shape
  obtain ⟨an0, cn0, rfl, -⟩ := hn.shape
  have hb0 : Below w.heap.size w (w.alloc (.cells #[.int .i64 1, .int .i64 q1, .int .i64 q2, .int .i64 q3, .int .i64 q4, .slice at0 ts.length ct0, .slice an0 ns.length cn0] 38)) := (Below.refl _ _).alloc (Nat.le_refl _) _
  have HST : Hid (TabsSm ts) := hst
  have HSN : Hid (NodesSm ns) := hsn
  have HTA : Hid (RTabs (w.alloc (.cells #[.int .i64 1, .int .i64 q1, .int .i64 q2, .int .i64 q3, .int .i64 q4, .slice at0 ts.length ct0, .slice an0 ns.length cn0] 38)) (.slice at0 ts.length ct0) ts) := RSl.mono mono_RTab (Keeps.of_below hb0) ht
  have HNA : Hid (RNodes (w.alloc (.cells #[.int .i64 1, .int .i64 q1, .int .i64 q2, .int .i64 q3, .int .i64 q4, .slice at0 ts.length ct0, .slice an0 ns.length cn0] 38)) (.slice an0 ns.length cn0) ns) := RSl.mono mono_RNode (Keeps.of_below hb0) hn
  have HK : Hid (Book no B w bk vN vW vC vP vF nN nW nC nP fl) := h
  have HB0 : Hid (Below w.heap.size w (w.alloc (.cells #[.int .i64 1, .int .i64 q1, .int .i64 q2, .int .i64 q3, .int .i64 q4, .slice at0 ts.length ct0, .slice an0 ns.length cn0] 38))) := hb0
  have HX0 : Hid (Box (w.alloc (.cells #[.int .i64 1, .int .i64 q1, .int .i64 q2, .int .i64 q3, .int .i64 q4, .slice at0 ts.length ct0, .slice an0 ns.length cn0] 38)) w.heap.size #[.int .i64 1, .int .i64 q1, .int .i64 q2, .int .i64 q3, .int .i64 q4, .slice at0 ts.length ct0, .slice an0 ns.length cn0] 38) := Box.new _ _ _
  generalize hR : checkOf (lookSpec ts ns) = R at *
  have HR : Hid (checkOf (lookSpec ts ns) = R) := hR
  have HWA : Hid (w.heap.size < (w.alloc (.cells #[.int .i64 1, .int .i64 q1, .int .i64 q2, .int .i64 q3, .int .i64 q4, .slice at0 ts.length ct0, .slice an0 ns.length cn0] 38)).heap.size) := by unfold Hid; simp
  clear hR h ht hn hst hsn hb0
  go_enter Tryz.func5, Tryz.ntmps5
  go_wp2_with fail
  generalize (w.alloc (.cells #[.int .i64 1, .int .i64 q1, .int .i64 q2, .int .i64 q3, .int .i64 q4, .slice at0 ts.length ct0, .slice an0 ns.length cn0] 38)) = wA at *
  refine (tables_any ts _ wA HTA.out HST.out).mono ?_
  rintro e w1 ⟨vts, rfl, hlt1, hb1⟩
  obtain ⟨a1, c1, rfl⟩ := hlt1.shape
  have HL1 : Hid (LTabs w1 wA.heap.size w1.heap.size (.slice a1 ts.length c1) ts) := hlt1
  have HBA1 : Hid (Below wA.heap.size wA w1) := hb1
  have HX1 : Hid (Box w1 w.heap.size #[.int .i64 1, .int .i64 q1, .int .i64 q2, .int .i64 q3, .int .i64 q4, .slice at0 ts.length ct0, .slice an0 ns.length cn0] 38) := HX0.out.call hb1
  clear hlt1 hb1
  obtain ⟨x1, x2, x3⟩ := HX1.out.all
  go_wp2_with fail
  refine (plan_any ns _ wA w1 (Keeps.of_below HBA1.out) HNA.out HSN.out).mono ?_
  rintro e w2 ⟨vns, rfl, hln2, hb2⟩
  obtain ⟨a2, c2, rfl⟩ := hln2.shape
  have HL2 : Hid (LTabs w2 wA.heap.size w1.heap.size (.slice a1 ts.length c1) ts) := HL1.out.call hb2
  have HN2 : Hid (LNodes wA w2 w1.heap.size w2.heap.size (.slice an0 ns.length cn0) (.slice a2 ns.length c2) ns) := hln2
  have HZ1 : Hid (wA.heap.size ≤ w1.heap.size ∧ w1.heap.size ≤ w2.heap.size) := ⟨HBA1.out.size, hb2.size⟩
  have HBA2 : Hid (Below wA.heap.size wA w2) := HBA1.out.trans (hb2.mono HBA1.out.size)
  have HX2 : Hid (Box w2 w.heap.size #[.int .i64 1, .int .i64 q1, .int .i64 q2, .int .i64 q3, .int .i64 q4, .slice at0 ts.length ct0, .slice an0 ns.length cn0] 38) := HX1.out.call hb2
  clear hln2 hb2 x1 x2 x3 HX1 HX0
  obtain ⟨x1, x2, x3⟩ := HX2.out.all
  go_wp2_with fail
  refine (check_any ts ns _ _ w2 HL2.out.reads HN2.out.reads).mono ?_
  rw [HR.out]
  rintro e w3 ⟨rfl, hb3⟩
  have HL3 : Hid (LTabs w3 wA.heap.size w1.heap.size (.slice a1 ts.length c1) ts) := HL2.out.call hb3
  have HN3 : Hid (LNodes wA w3 w1.heap.size w2.heap.size (.slice an0 ns.length cn0) (.slice a2 ns.length c2) ns) := HN2.out.call hb3
  have HB3 : Hid (Below w2.heap.size w2 w3) := hb3
  have HZ3 : Hid (w2.heap.size ≤ w3.heap.size) := hb3.size
  have HX3 : Hid (Box w3 w.heap.size #[.int .i64 1, .int .i64 q1, .int .i64 q2, .int .i64 q3, .int .i64 q4, .slice at0 ts.length ct0, .slice an0 ns.length cn0] 38) := HX2.out.call hb3
  clear hb3 x1 x2 x3
  go_upto_region 6 with fail
  have hal : Below w3.heap.size w3 (w3.alloc (.cells #[.int .i64 R.2, .slice none 0 0] 46)) := (Below.refl _ _).alloc (Nat.le_refl _) _
  have HL4 : Hid (LTabs (w3.alloc (.cells #[.int .i64 R.2, .slice none 0 0] 46)) wA.heap.size w1.heap.size (.slice a1 ts.length c1) ts) := HL3.out.call hal
  have HN4 : Hid (LNodes wA (w3.alloc (.cells #[.int .i64 R.2, .slice none 0 0] 46)) w1.heap.size w2.heap.size (.slice an0 ns.length cn0) (.slice a2 ns.length c2) ns) := HN3.out.call hal
  have HB4 : Hid (Below w2.heap.size w2 (w3.alloc (.cells #[.int .i64 R.2, .slice none 0 0] 46))) := Below.step hal HB3.out HB3.out.size
  have HX4 : Hid (Box (w3.alloc (.cells #[.int .i64 R.2, .slice none 0 0] 46)) w.heap.size #[.int .i64 1, .int .i64 q1, .int .i64 q2, .int .i64 q3, .int .i64 q4, .slice at0 ts.length ct0, .slice an0 ns.length cn0] 38) := HX3.out.call hal
  have HF4 : Hid (Box (w3.alloc (.cells #[.int .i64 R.2, .slice none 0 0] 46)) w3.heap.size #[.int .i64 R.2, .slice none 0 0] 46) := Box.new _ _ _
  clear hal HL3 HN3 HB3 HX3
  generalize w3.alloc (.cells #[.int .i64 R.2, .slice none 0 0] 46) = w4 at *
  go_wp2_with fail
  refine (check_any ts ns _ _ w4 HL4.out.reads HN4.out.reads).mono ?_
  rw [HR.out]
  rintro e w5 ⟨rfl, hb5⟩
  have HL5 : Hid (LTabs w5 wA.heap.size w1.heap.size (.slice a1 ts.length c1) ts) := HL4.out.call hb5
  have HN5 : Hid (LNodes wA w5 w1.heap.size w2.heap.size (.slice an0 ns.length cn0) (.slice a2 ns.length c2) ns) := HN4.out.call hb5
  have HB5 : Hid (Below w2.heap.size w2 w5) := Below.step hb5 HB4.out HB4.out.size
  have HZ5 : Hid (w2.heap.size ≤ w5.heap.size) := HB5.out.size
  have HX5 : Hid (Box w5 w.heap.size #[.int .i64 1, .int .i64 q1, .int .i64 q2, .int .i64 q3, .int .i64 q4, .slice at0 ts.length ct0, .slice an0 ns.length cn0] 38) := HX4.out.call hb5
  have HF5 : Hid (Box w5 w3.heap.size #[.int .i64 R.2, .slice none 0 0] 46) := HF4.out.call hb5
  clear hb5 HL4 HN4 HB4 HX4 HF4
  go_upto_region 7 with fail
  have hal : Below w5.heap.size w5 (w5.alloc (.cells #[.int .i64 R.2, .slice none 0 0] 46)) := (Below.refl _ _).alloc (Nat.le_refl _) _
  have HL6 : Hid (LTabs (w5.alloc (.cells #[.int .i64 R.2, .slice none 0 0] 46)) wA.heap.size w1.heap.size (.slice a1 ts.length c1) ts) := HL5.out.call hal
  have HN6 : Hid (LNodes wA (w5.alloc (.cells #[.int .i64 R.2, .slice none 0 0] 46)) w1.heap.size w2.heap.size (.slice an0 ns.length cn0) (.slice a2 ns.length c2) ns) := HN5.out.call hal
  have HB6 : Hid (Below w2.heap.size w2 (w5.alloc (.cells #[.int .i64 R.2, .slice none 0 0] 46))) := Below.step hal HB5.out HB5.out.size
  have HX6 : Hid (Box (w5.alloc (.cells #[.int .i64 R.2, .slice none 0 0] 46)) w.heap.size #[.int .i64 1, .int .i64 q1, .int .i64 q2, .int .i64 q3, .int .i64 q4, .slice at0 ts.length ct0, .slice an0 ns.length cn0] 38) := HX5.out.call hal
  have HF6 : Hid (Box (w5.alloc (.cells #[.int .i64 R.2, .slice none 0 0] 46)) w3.heap.size #[.int .i64 R.2, .slice none 0 0] 46) := HF5.out.call hal
  have HG6 : Hid (Box (w5.alloc (.cells #[.int .i64 R.2, .slice none 0 0] 46)) w5.heap.size #[.int .i64 R.2, .slice none 0 0] 46) := Box.new _ _ _
  clear hal HL5 HN5 HB5 HX5 HF5
  generalize w5.alloc (.cells #[.int .i64 R.2, .slice none 0 0] 46) = w6 at *
  obtain ⟨x1, x2, x3⟩ := HX6.out.all
  have HBA6 : Hid (Below wA.heap.size wA w6) := HBA2.out.trans (HB6.out.mono (by have := HZ1.out; omega))
  have HNE : Hid (w3.heap.size ≥ w2.heap.size ∧ w5.heap.size ≥ w2.heap.size) := ⟨HZ3.out, HZ5.out⟩
  go_wp2_with fail
  refine (back_any ts ns _ _ _ _ 1 q1 q2 q3 q4 wA w6 wA.heap.size w1.heap.size w1.heap.size w2.heap.size HBA6.out HTA.out HNA.out HST.out HSN.out HL6.out HN6.out (Nat.le_refl _) (Nat.le_refl _) HZ1.out.1 HZ1.out.2 HB6.out.size).mono ?_
  rintro e w7 ⟨rfl, ho7⟩
  have HBA7 : Hid (Below wA.heap.size wA w7) := HBA6.out.trans (ho7.toBelow HBA6.out.size (fun b hb => hb.1))
  have HX7 : Hid (Box w7 w.heap.size #[.int .i64 1, .int .i64 q1, .int .i64 q2, .int .i64 q3, .int .i64 q4, .slice at0 ts.length ct0, .slice an0 ns.length cn0] 38) := HX6.out.only ho7 (fun hh => by have := HWA.out; omega)
  have HF7 : Hid (Box w7 w3.heap.size #[.int .i64 R.2, .slice none 0 0] 46) := HF6.out.only ho7 (fun hh => by have := HNE.out; omega)
  have HG7 : Hid (Box w7 w5.heap.size #[.int .i64 R.2, .slice none 0 0] 46) := HG6.out.only ho7 (fun hh => by have := HNE.out; omega)
  clear ho7 x1 x2 x3 HX6 HF6 HG6 HL6 HN6
  obtain ⟨x1, x2, x3⟩ := HX7.out.all
  go_wp2_with fail
  refine (rcheck_any ts ns _ _ w7 (RSl.mono mono_RTab (Keeps.of_below HBA7.out) HTA.out) (RSl.mono mono_RNode (Keeps.of_below HBA7.out) HNA.out)).mono ?_
  rw [HR.out]
  rintro e w8 ⟨rfl, hb8⟩
  have HF8 : Hid (Box w8 w3.heap.size #[.int .i64 R.2, .slice none 0 0] 46) := HF7.out.call hb8
  have HG8 : Hid (Box w8 w5.heap.size #[.int .i64 R.2, .slice none 0 0] 46) := HG7.out.call hb8
  have HBA8 : Hid (Below wA.heap.size wA w8) := Below.step hb8 HBA7.out HBA7.out.size
  clear hb8 x1 x2 x3 HX7 HF7 HG7
  go_upto_region 9 with fail
  have hal : Below w8.heap.size w8 (w8.alloc (.cells #[.int .i64 R.2, .slice none 0 0] 46)) := (Below.refl _ _).alloc (Nat.le_refl _) _
  have HF9 : Hid (Box (w8.alloc (.cells #[.int .i64 R.2, .slice none 0 0] 46)) w3.heap.size #[.int .i64 R.2, .slice none 0 0] 46) := HF8.out.call hal
  have HG9 : Hid (Box (w8.alloc (.cells #[.int .i64 R.2, .slice none 0 0] 46)) w5.heap.size #[.int .i64 R.2, .slice none 0 0] 46) := HG8.out.call hal
  have HH9 : Hid (Box (w8.alloc (.cells #[.int .i64 R.2, .slice none 0 0] 46)) w8.heap.size #[.int .i64 R.2, .slice none 0 0] 46) := Box.new _ _ _
  have HBA9 : Hid (Below wA.heap.size wA (w8.alloc (.cells #[.int .i64 R.2, .slice none 0 0] 46))) := Below.step hal HBA8.out HBA8.out.size
  clear hal HF8 HG8
  generalize w8.alloc (.cells #[.int .i64 R.2, .slice none 0 0] 46) = w9 at *
  obtain ⟨f1, f2, f3⟩ := HF9.out.all
  obtain ⟨g1, g2, g3⟩ := HG9.out.all
  obtain ⟨h1, h2, h3⟩ := HH9.out.all
  go_wp2_with fail
  refine (sameFault_any R.2 w9).mono ?_
  rintro e w10 ⟨rfl, hb10⟩
  have HF10 : Hid (Box w10 w3.heap.size #[.int .i64 R.2, .slice none 0 0] 46) := HF9.out.call hb10
  have HG10 : Hid (Box w10 w5.heap.size #[.int .i64 R.2, .slice none 0 0] 46) := HG9.out.call hb10
  have HH10 : Hid (Box w10 w8.heap.size #[.int .i64 R.2, .slice none 0 0] 46) := HH9.out.call hb10
  have HBA10 : Hid (Below wA.heap.size wA w10) := Below.step hb10 HBA9.out HBA9.out.size
  clear hb10 f1 f2 f3 g1 g2 g3 h1 h2 h3 HF9 HG9 HH9
  obtain ⟨g1, g2, g3⟩ := HG10.out.all
  obtain ⟨h1, h2, h3⟩ := HH10.out.all
  go_wp2_with fail
  refine (sameFault_any R.2 w10).mono ?_
  rintro e w11 ⟨rfl, hb11⟩
  have HF11 : Hid (Box w11 w3.heap.size #[.int .i64 R.2, .slice none 0 0] 46) := HF10.out.call hb11
  have HG11 : Hid (Box w11 w5.heap.size #[.int .i64 R.2, .slice none 0 0] 46) := HG10.out.call hb11
  have HBA11 : Hid (Below wA.heap.size wA w11) := Below.step hb11 HBA10.out HBA10.out.size
  have HBW11 : Hid (Below w.heap.size w w11) := HB0.out.trans (HBA11.out.mono HB0.out.size)
  have HK11 : Hid (Book no B w11 bk vN vW vC vP vF nN nW nC nP fl) := HK.out.call HBW11.out
  clear hb11 g1 g2 g3 h1 h2 h3 HF10 HG10 HH10
  obtain ⟨f1, f2, f3⟩ := HF11.out.all
  go_wp2_with fail
  refine (place_any HK11.out (Nat.le_trans hB HBW11.out.size) (by omega)).mono ?_
  rintro e w12 ⟨rfl, ⟨vP2, hk12⟩, hb12, hs12⟩
  have HK12 : Hid (Book no B w12 bk vN vW vC vP2 vF nN nW nC (nP + 1) fl) := hk12
  have HB12 : Hid (Below B w w12) := (HBW11.out.mono hB).trans hb12
  have HG12 : Hid (w12.cell? ⟨w5.heap.size, 1, none⟩ = some (.slice none 0 0)) := by unfold Hid; rw [(hs12 _ _ HG11.out).rules.1]; rfl
  have g1 := HG12.out
  have g2 := cell_lt g1
  clear hk12 hb12 hs12 f1 f2 f3 HF11 HG11
  go_wp2_with fail
  refine (place_any HK12.out (Nat.le_trans hB HB12.out.size) (by omega)).mono ?_
  rintro e w13 ⟨rfl, ⟨vP3, hk13⟩, hb13, -⟩
  have HK13 : Hid (Book no B w13 bk vN vW vC vP3 vF nN nW nC (nP + 1 + 1) fl) := hk13
  have HB13 : Hid (Below B w w13) := HB12.out.trans hb13
  clear hk13 hb13 g1 g2
  go_wp2_with fail
  go_ret
  exact ⟨by simp, ⟨_, HK13.out⟩, HB13.out⟩

end Go.Proofs.YtekkicgbloidkaaGreatDoor
/- One step of a script: a Types. -/
namespace Go.Proofs.YtekkicgbloidkaaGreatDoor
open Go Go.RowKit
attribute [local go_sem ↓] Go.wp_at_zero Go.wp_at_succ

def tyL (o : Except (Int × Nat) (List (List (Int × Int)))) : List (Int × Int) := match o with | .error _ => [] | .ok tys => tys.getLastD []
def tyC (o : Except (Int × Nat) (List (List (Int × Int)))) : Int := match o with | .error (c, _) => c | .ok _ => 0
theorem tyL_le (ts : List (List DCol)) (ns : List DNode) : (tyL (lookSpec ts ns)).length ≤ 8 := by
  cases h : lookSpec ts ns with
  | error e => simp [tyL]
  | ok tys =>
    obtain ⟨hp, hw⟩ := lookSpec_ok h
    have := hw (tys.length - 1) (by omega)
    simp only [tyL]
    rw [List.getLastD_eq_getLast?, List.getLast?_eq_getElem?, List.getElem?_eq_getElem (by omega)]
    simp only [Option.getD_some]
    exact this.2

/-- A list of columns without entries and without spare room, of the call's own. -/
def TyO (w : World) (lo hi : Nat) (ao : Option Addr) (L : List (Int × Int)) : Prop := (ao = none ∧ L = []) ∨ ∃ g cs, ao = some ⟨g, 0, none⟩ ∧ lo ≤ g ∧ g < hi ∧ Box w g cs 67 ∧ cs.size = L.length * 5 ∧ ColsUpTo cs L L.length
theorem TyO.box {w w' : World} {lo hi : Nat} {ao : Option Addr} {L : List (Int × Int)} (h : TyO w lo hi ao L) (hb : ∀ g cs, ao = some ⟨g, 0, none⟩ → lo ≤ g → g < hi → Box w g cs 67 → Box w' g cs 67) : TyO w' lo hi ao L := by
  rcases h with h | ⟨g, cs, h1, h2, h3, h4, h5⟩
  · exact .inl h
  · exact .inr ⟨g, cs, h1, h2, h3, hb g cs h1 h2 h3 h4, h5⟩
theorem TyO.call {w w' : World} {lo hi : Nat} {ao : Option Addr} {L : List (Int × Int)} (h : TyO w lo hi ao L) (hb : Below w.heap.size w w') : TyO w' lo hi ao L := h.box (fun _ _ _ _ _ hx => hx.call hb)
theorem TyO.full {w : World} {lo hi : Nat} {ao : Option Addr} {L : List (Int × Int)} (h : TyO w lo hi ao L) : Full 67 5 w lo ao L.length := by
  rcases h with ⟨h1, h2⟩ | ⟨g, cs, h1, h2, _, h3, h4, _⟩
  · exact .inl ⟨h1, by rw [h2]; rfl⟩
  · exact .inr ⟨g, cs, h1, h2, h3, h4⟩
theorem TyO.reads {w : World} {lo hi : Nat} {ao : Option Addr} {L : List (Int × Int)} (h : TyO w lo hi ao L) (hL : L.length ≤ 9223372036854775807) : RColEs w (.slice ao L.length L.length) L := by
  rcases h with ⟨h1, h2⟩ | ⟨g, cs, h1, h2, _, h3, h4, h5⟩
  · subst h1 h2; exact RSl.nil _ _ _
  · subst h1
    refine ⟨_, L.length, rfl, hL, fun i hi => ⟨g, 0, rfl, ?_⟩⟩
    have := h5 i hi hi
    refine ⟨?_, ?_, ?_, ?_, ?_⟩
    all_goals simp only [Nat.zero_add, Nat.add_zero]; rw [h3.rules.1]
    · exact this.1
    · exact this.2.1
    · exact this.2.2.1
    · exact this.2.2.2.1
    · exact this.2.2.2.2
theorem TypesRet.tyo {B : Nat} {w' : World} {e : Ending} {o : Except (Int × Nat) (List (List (Int × Int)))} (h : TypesRet B w' e o) : ∃ ao, e = .returned (.tuple #[.slice ao (tyL o).length (tyL o).length, .int .i64 (tyC o)]) ∧ TyO w' B w'.heap.size ao (tyL o) := by
  cases o with
  | error e => obtain ⟨c, p⟩ := e; exact ⟨none, h, .inl ⟨rfl, rfl⟩⟩
  | ok tys => obtain ⟨g, cs, h1, h2, h3, h4, h5⟩ := h; exact ⟨_, h1, .inr ⟨g, cs, rfl, h2, h3.lt, h3, h4, h5⟩⟩
theorem RTypesRet.read {w' : World} {e : Ending} {o : Except (Int × Nat) (List (List (Int × Int)))} (h : RTypesRet w' e o) : ∃ v, e = .returned (.tuple #[v, .int .i64 (tyC o)]) ∧ RColEs w' v (tyL o) := by
  cases o with
  | error e => obtain ⟨c, p⟩ := e; exact ⟨_, h, RSl.nil _ _ _⟩
  | ok tys => obtain ⟨v, h1, h2⟩ := h; exact ⟨v, h1, h2⟩

set_option maxRecDepth 20000 in
set_option maxHeartbeats 16000000 in
theorem step2_any {B : Nat} {w : World} {bk : Nat} {vN vW vC vP vF : Value} {nN nW nC nP : Nat} {fl : List Nat} (h : Book no B w bk vN vW vC vP vF nN nW nC nP fl) (hB : B ≤ w.heap.size) (hT : TabB B w) (hnN : nN ≤ 800000000) (hnW : nW ≤ 800000000) (hnC : nC ≤ 800000000) (hnF : fl.length ≤ 800000000) (ts : List (List DCol)) (ns : List DNode) (vt0 vn0 : Value) (ht : RTabs w vt0 ts) (hn : RNodes w vn0 ns) (hst : TabsSm ts) (hsn : NodesSm ns) (q1 q2 q3 q4 : Int) :
    Calls Tryz.prog 5 #[.pointer (some ⟨bk, 0, none⟩), .agg #[.int .i64 2, .int .i64 q1, .int .i64 q2, .int .i64 q3, .int .i64 q4, vt0, vn0]] w fun e w' => e = .returned (.bool true) ∧ (∃ vN' vW' vC' vF' nN' nW' fl', nN' ≤ nN + 16 ∧ nW' ≤ nW + 16 ∧ fl'.length ≤ fl.length + 16 ∧ Book no B w' bk vN' vW' vC' vP vF' nN' nW' (nC + 2) nP fl') ∧ Below B w w' := by
  obtain ⟨at0, ct0, rfl, -⟩ := ht.shape
  obtain ⟨an0, cn0, rfl, -⟩ := hn.shape
  have hb0 : Below w.heap.size w (w.alloc (.cells #[.int .i64 2, .int .i64 q1, .int .i64 q2, .int .i64 q3, .int .i64 q4, .slice at0 ts.length ct0, .slice an0 ns.length cn0] 38)) := (Below.refl _ _).alloc (Nat.le_refl _) _
  have HST : Hid (TabsSm ts) := hst
  have HSN : Hid (NodesSm ns) := hsn
  have HTA : Hid (RTabs (w.alloc (.cells #[.int .i64 2, .int .i64 q1, .int .i64 q2, .int .i64 q3, .int .i64 q4, .slice at0 ts.length ct0, .slice an0 ns.length cn0] 38)) (.slice at0 ts.length ct0) ts) := RSl.mono mono_RTab (Keeps.of_below hb0) ht
  have HNA : Hid (RNodes (w.alloc (.cells #[.int .i64 2, .int .i64 q1, .int .i64 q2, .int .i64 q3, .int .i64 q4, .slice at0 ts.length ct0, .slice an0 ns.length cn0] 38)) (.slice an0 ns.length cn0) ns) := RSl.mono mono_RNode (Keeps.of_below hb0) hn
  have HK : Hid (Book no B w bk vN vW vC vP vF nN nW nC nP fl) := h
  have HB0 : Hid (Below w.heap.size w (w.alloc (.cells #[.int .i64 2, .int .i64 q1, .int .i64 q2, .int .i64 q3, .int .i64 q4, .slice at0 ts.length ct0, .slice an0 ns.length cn0] 38))) := hb0
  have HX0 : Hid (Box (w.alloc (.cells #[.int .i64 2, .int .i64 q1, .int .i64 q2, .int .i64 q3, .int .i64 q4, .slice at0 ts.length ct0, .slice an0 ns.length cn0] 38)) w.heap.size #[.int .i64 2, .int .i64 q1, .int .i64 q2, .int .i64 q3, .int .i64 q4, .slice at0 ts.length ct0, .slice an0 ns.length cn0] 38) := Box.new _ _ _
  have HL8 : Hid ((tyL (lookSpec ts ns)).length ≤ 8) := tyL_le ts ns
  generalize hR : lookSpec ts ns = R at *
  have HR : Hid (lookSpec ts ns = R) := hR
  have HWA : Hid (w.heap.size < (w.alloc (.cells #[.int .i64 2, .int .i64 q1, .int .i64 q2, .int .i64 q3, .int .i64 q4, .slice at0 ts.length ct0, .slice an0 ns.length cn0] 38)).heap.size) := by unfold Hid; simp
  have HT : Hid (TabB B w) := hT
  clear hT hR h ht hn hst hsn hb0
  go_enter Tryz.func5, Tryz.ntmps5
  go_wp2_with fail
  generalize (w.alloc (.cells #[.int .i64 2, .int .i64 q1, .int .i64 q2, .int .i64 q3, .int .i64 q4, .slice at0 ts.length ct0, .slice an0 ns.length cn0] 38)) = wA at *
  refine (tables_any ts _ wA HTA.out HST.out).mono ?_
  rintro e w1 ⟨vts, rfl, hlt1, hb1⟩
  obtain ⟨a1, c1, rfl⟩ := hlt1.shape
  have HL1 : Hid (LTabs w1 wA.heap.size w1.heap.size (.slice a1 ts.length c1) ts) := hlt1
  have HBA1 : Hid (Below wA.heap.size wA w1) := hb1
  have HX1 : Hid (Box w1 w.heap.size #[.int .i64 2, .int .i64 q1, .int .i64 q2, .int .i64 q3, .int .i64 q4, .slice at0 ts.length ct0, .slice an0 ns.length cn0] 38) := HX0.out.call hb1
  clear hlt1 hb1
  obtain ⟨x1, x2, x3⟩ := HX1.out.all
  go_wp2_with fail
  refine (plan_any ns _ wA w1 (Keeps.of_below HBA1.out) HNA.out HSN.out).mono ?_
  rintro e w2 ⟨vns, rfl, hln2, hb2⟩
  obtain ⟨a2, c2, rfl⟩ := hln2.shape
  have HL2 : Hid (LTabs w2 wA.heap.size w1.heap.size (.slice a1 ts.length c1) ts) := HL1.out.call hb2
  have HN2 : Hid (LNodes wA w2 w1.heap.size w2.heap.size (.slice an0 ns.length cn0) (.slice a2 ns.length c2) ns) := hln2
  have HZ1 : Hid (wA.heap.size ≤ w1.heap.size ∧ w1.heap.size ≤ w2.heap.size) := ⟨HBA1.out.size, hb2.size⟩
  have HBA2 : Hid (Below wA.heap.size wA w2) := HBA1.out.trans (hb2.mono HBA1.out.size)
  have HX2 : Hid (Box w2 w.heap.size #[.int .i64 2, .int .i64 q1, .int .i64 q2, .int .i64 q3, .int .i64 q4, .slice at0 ts.length ct0, .slice an0 ns.length cn0] 38) := HX1.out.call hb2
  clear hln2 hb2 x1 x2 x3 HX1 HX0
  obtain ⟨x1, x2, x3⟩ := HX2.out.all
  go_wp2_with fail
  refine (types_any ts ns _ _ w2 HL2.out.reads HN2.out.reads).mono ?_
  rw [HR.out]
  rintro e w3 ⟨hret3, hb3⟩
  obtain ⟨ao1, rfl, hty1⟩ := hret3.tyo
  have HY1 : Hid (TyO w3 w2.heap.size w3.heap.size ao1 (tyL R)) := hty1
  have HL3 : Hid (LTabs w3 wA.heap.size w1.heap.size (.slice a1 ts.length c1) ts) := HL2.out.call hb3
  have HN3 : Hid (LNodes wA w3 w1.heap.size w2.heap.size (.slice an0 ns.length cn0) (.slice a2 ns.length c2) ns) := HN2.out.call hb3
  have HB3 : Hid (Below w2.heap.size w2 w3) := hb3
  have HX3 : Hid (Box w3 w.heap.size #[.int .i64 2, .int .i64 q1, .int .i64 q2, .int .i64 q3, .int .i64 q4, .slice at0 ts.length ct0, .slice an0 ns.length cn0] 38) := HX2.out.call hb3
  clear hret3 hty1 hb3 x1 x2 x3
  go_wp2_with fail
  refine (types_any ts ns _ _ w3 HL3.out.reads HN3.out.reads).mono ?_
  rw [HR.out]
  rintro e w4 ⟨hret4, hb4⟩
  obtain ⟨ao2, rfl, hty2⟩ := hret4.tyo
  have HY2 : Hid (TyO w4 w3.heap.size w4.heap.size ao2 (tyL R)) := hty2
  have HY1b : Hid (TyO w4 w2.heap.size w3.heap.size ao1 (tyL R)) := HY1.out.call hb4
  have HL4 : Hid (LTabs w4 wA.heap.size w1.heap.size (.slice a1 ts.length c1) ts) := HL3.out.call hb4
  have HN4 : Hid (LNodes wA w4 w1.heap.size w2.heap.size (.slice an0 ns.length cn0) (.slice a2 ns.length c2) ns) := HN3.out.call hb4
  have HB4 : Hid (Below w2.heap.size w2 w4) := Below.step hb4 HB3.out HB3.out.size
  have HX4 : Hid (Box w4 w.heap.size #[.int .i64 2, .int .i64 q1, .int .i64 q2, .int .i64 q3, .int .i64 q4, .slice at0 ts.length ct0, .slice an0 ns.length cn0] 38) := HX3.out.call hb4
  have HBA4 : Hid (Below wA.heap.size wA w4) := HBA2.out.trans (HB4.out.mono (by have := HZ1.out; omega))
  have HZ4 : Hid (w2.heap.size ≤ w3.heap.size ∧ w3.heap.size ≤ w4.heap.size) := ⟨HB3.out.size, hb4.size⟩
  clear hret4 hty2 hb4 HY1 HL3 HN3 HX3
  obtain ⟨x1, x2, x3⟩ := HX4.out.all
  go_wp2_with fail
  refine (back_any ts ns _ _ _ _ 2 q1 q2 q3 q4 wA w4 wA.heap.size w1.heap.size w1.heap.size w2.heap.size HBA4.out HTA.out HNA.out HST.out HSN.out HL4.out HN4.out (Nat.le_refl _) (Nat.le_refl _) HZ1.out.1 HZ1.out.2 HB4.out.size).mono ?_
  rintro e w5 ⟨rfl, ho5⟩
  have HBA5 : Hid (Below wA.heap.size wA w5) := HBA4.out.trans (ho5.toBelow HBA4.out.size (fun b hb => hb.1))
  have HX5 : Hid (Box w5 w.heap.size #[.int .i64 2, .int .i64 q1, .int .i64 q2, .int .i64 q3, .int .i64 q4, .slice at0 ts.length ct0, .slice an0 ns.length cn0] 38) := HX4.out.only ho5 (fun hh => by have := HWA.out; omega)
  have HY15 : Hid (TyO w5 w2.heap.size w3.heap.size ao1 (tyL R)) := HY1b.out.box (fun g cs _ hg1 _ hx => hx.only ho5 (fun hh => by omega))
  have HY25 : Hid (TyO w5 w3.heap.size w4.heap.size ao2 (tyL R)) := HY2.out.box (fun g cs _ hg1 _ hx => hx.only ho5 (fun hh => by have := HZ4.out; omega))
  have HZ5 : Hid (w4.heap.size ≤ w5.heap.size) := ho5.size
  clear ho5 x1 x2 x3 HX4 HY1b HY2 HL4 HN4
  obtain ⟨x1, x2, x3⟩ := HX5.out.all
  go_wp2_with fail
  refine (rtypes_any ts ns _ _ w5 (RSl.mono mono_RTab (Keeps.of_below HBA5.out) HTA.out) (RSl.mono mono_RNode (Keeps.of_below HBA5.out) HNA.out)).mono ?_
  rw [HR.out]
  rintro e w6 ⟨hret6, hb6⟩
  obtain ⟨v6, rfl, hr6⟩ := hret6.read
  obtain ⟨a6, c6, rfl, -⟩ := hr6.shape
  have HV6 : Hid (RColEs w6 (.slice a6 (tyL R).length c6) (tyL R)) := hr6
  have HY16 : Hid (TyO w6 w2.heap.size w3.heap.size ao1 (tyL R)) := HY15.out.call hb6
  have HY26 : Hid (TyO w6 w3.heap.size w4.heap.size ao2 (tyL R)) := HY25.out.call hb6
  have HBA6 : Hid (Below wA.heap.size wA w6) := Below.step hb6 HBA5.out HBA5.out.size
  have HZ6 : Hid (w5.heap.size ≤ w6.heap.size) := hb6.size
  clear hret6 hr6 hb6 x1 x2 x3 HX5 HY15 HY25
  go_wp2_with fail
  refine (sameTable_any (tyL R) _ _ w6 (HY16.out.reads (by have := HL8.out; omega)) HV6.out).mono ?_
  rintro e w7 ⟨rfl, hb7⟩
  have HV7 : Hid (RColEs w7 (.slice a6 (tyL R).length c6) (tyL R)) := RSl.mono mono_RColE (Keeps.of_below hb7) HV6.out
  have HY17 : Hid (TyO w7 w2.heap.size w3.heap.size ao1 (tyL R)) := HY16.out.call hb7
  have HY27 : Hid (TyO w7 w3.heap.size w4.heap.size ao2 (tyL R)) := HY26.out.call hb7
  have HBA7 : Hid (Below wA.heap.size wA w7) := Below.step hb7 HBA6.out HBA6.out.size
  have HZ7 : Hid (w6.heap.size ≤ w7.heap.size) := hb7.size
  clear hb7 HY16 HY26
  go_wp2_with fail
  refine (sameTable_any (tyL R) _ _ w7 (HY27.out.reads (by have := HL8.out; omega)) HV7.out).mono ?_
  rintro e w8 ⟨rfl, hb8⟩
  have HY18 : Hid (TyO w8 w2.heap.size w3.heap.size ao1 (tyL R)) := HY17.out.call hb8
  have HY28 : Hid (TyO w8 w3.heap.size w4.heap.size ao2 (tyL R)) := HY27.out.call hb8
  have HBA8 : Hid (Below wA.heap.size wA w8) := Below.step hb8 HBA7.out HBA7.out.size
  have HZ8 : Hid (w4.heap.size ≤ w8.heap.size) := by have := HZ5.out; have := HZ6.out; have := HZ7.out; have := hb8.size; unfold Hid; omega
  have HBW8 : Hid (Below w.heap.size w w8) := HB0.out.trans (HBA8.out.mono HB0.out.size)
  have HG1 : Hid (∀ b, ao1 = some ⟨b, 0, none⟩ → w2.heap.size ≤ b ∧ b < w3.heap.size) := fun b e => by
    rcases HY18.out with ⟨h0, -⟩ | ⟨g, cs, h0, h1, h2, -⟩
    · rw [h0] at e; simp at e
    · rw [h0] at e
      simp only [Option.some.injEq, Addr.mk.injEq, and_true] at e
      subst e; exact ⟨h1, h2⟩
  have HG2 : Hid (∀ b, ao2 = some ⟨b, 0, none⟩ → w3.heap.size ≤ b ∧ b < w4.heap.size) := fun b e => by
    rcases HY28.out with ⟨h0, -⟩ | ⟨g, cs, h0, h1, h2, -⟩
    · rw [h0] at e; simp at e
    · rw [h0] at e
      simp only [Option.some.injEq, Addr.mk.injEq, and_true] at e
      subst e; exact ⟨h1, h2⟩
  have HWZ : Hid (w.heap.size ≤ w2.heap.size) := by have := HWA.out; have := HZ1.out; unfold Hid; omega
  have HK8 : Hid (Book (fun b => ao1 = some ⟨b, 0, none⟩ ∨ ao2 = some ⟨b, 0, none⟩) B w8 bk vN vW vC vP vF nN nW nC nP fl) := (HK.out.fresh (fun b hb => by
    have h1 := HWZ.out
    have h2 := HZ4.out
    rcases hb with h | h
    · have := HG1.out b h; omega
    · have := HG2.out b h; omega)).call HBW8.out
  have HB8 : Hid (Below B w w8) := HBW8.out.mono hB
  clear hb8 HY17 HY27 HV6 HV7
  have hl8 := HL8.out
  go_wp2_with fail
  refine (bookList_any (av' := fun b => ao2 = some ⟨b, 0, none⟩) HK8.out (Nat.le_trans hB HB8.out.size) (HT.out.on HB8.out) (by omega) (by omega) (by omega) (by omega) ao1 (tyL R) (tyL R).length rfl (by omega) w2.heap.size (by have := HZ4.out; have := HZ8.out; omega) (by have := HWZ.out; omega) HY18.out.full (HY18.out.reads (by omega)) (fun b hb => .inl hb) (fun b hb => ⟨.inr hb, fun h => by have := HG1.out b h; have := HG2.out b hb; omega, by have := HG2.out b hb; have := HZ8.out; omega⟩)).mono ?_
  rintro e w9 ⟨rfl, ⟨vN9, vW9, vC9, vF9, fl9, hfl9, hk9⟩, hb9, hs9⟩
  have HK9 : Hid (Book (fun b => ao2 = some ⟨b, 0, none⟩) B w9 bk vN9 vW9 vC9 vP vF9 (nN + (tyL R).length) (nW + (tyL R).length) (nC + 1) nP fl9) := hk9
  have HB9 : Hid (Below B w w9) := HB8.out.trans hb9
  have HY29 : Hid (TyO w9 w3.heap.size w4.heap.size ao2 (tyL R)) := HY28.out.box (fun g cs he _ _ hx => hs9 g cs he hx)
  have HFL9 : Hid (fl9.length = fl.length + (tyL R).length) := hfl9
  have HZ9 : Hid (w8.heap.size ≤ w9.heap.size) := hb9.size
  clear hfl9 hk9 hb9 hs9 HY18 HY28
  have hfl9 := HFL9.out
  go_wp2_with fail
  refine (bookList_any (av' := no) HK9.out (Nat.le_trans hB HB9.out.size) (HT.out.on HB9.out) (by omega) (by omega) (by omega) (by omega) ao2 (tyL R) (tyL R).length rfl (by omega) w3.heap.size (by have := HZ4.out; have := HZ8.out; have := HZ9.out; omega) (by have := HWZ.out; have := HZ4.out; omega) HY29.out.full (HY29.out.reads (by omega)) (fun b hb => hb) (fun b hb => hb.elim)).mono ?_
  rintro e w10 ⟨rfl, ⟨vN10, vW10, vC10, vF10, fl10, hfl10, hk10⟩, hb10, -⟩
  have HK10 : Hid (Book no B w10 bk vN10 vW10 vC10 vP vF10 (nN + (tyL R).length + (tyL R).length) (nW + (tyL R).length + (tyL R).length) (nC + 1 + 1) nP fl10) := hk10
  have HB10 : Hid (Below B w w10) := HB9.out.trans hb10
  have HFL10 : Hid (fl10.length = fl9.length + (tyL R).length) := hfl10
  clear hfl10 hk10 hb10 hfl9
  go_wp2_with fail
  go_ret
  exact ⟨by simp, ⟨_, _, _, _, _, _, _, by omega, by omega, by have := HFL10.out; have := HFL9.out; omega, HK10.out⟩, HB10.out⟩

end Go.Proofs.YtekkicgbloidkaaGreatDoor
/- A plan has no node of a kind that is in no range. -/
namespace Go.Proofs.YtekkicgbloidkaaGreatDoor
open Go Go.RowKit

set_option maxRecDepth 20000 in
set_option maxHeartbeats 4000000 in
theorem has_any (ns : List DNode) (v : Value) (w : World) (hn : RNodes w v ns) :
    Calls Tryz.prog 7 #[v, .int .i64 1, .int .i64 0] w fun e w' => e = .returned (.bool false) ∧ Below w.heap.size w w' := by
  obtain ⟨aa, ca, rfl, hla⟩ := hn.shape
  have HA : Hid (RNodes w (.slice aa ns.length ca) ns) := hn
  clear hn
  go_enter Tryz.func7, Tryz.ntmps7
  go_wp2
  go_loopw [7] (fun i W => ∃ k : Nat, k ≤ ns.length ∧ i = .int .i64 k ∧ Below w.heap.size w W) (fun i _ => ns.length - (intOf i).toNat)
  case atStart => exact ⟨0, Nat.zero_le _, rfl, Below.refl _ _⟩
  case round =>
    obtain ⟨k, hk, rfl, hB⟩ := hrel
    have HBW : Hid (Below w.heap.size w wr) := hB
    clear hB
    by_cases hlt : k < ns.length
    · obtain ⟨b1, o1, c1, ae, ce, ak, ck, ao, co, aa2, ca2, hv1, -, -, d0, -⟩ := node_at HA.out hlt
      simp only [Value.slice.injEq, true_and] at hv1
      obtain ⟨rfl, rfl⟩ := hv1
      have e1 := (Keeps.of_below HBW.out) _ _ _ d0
      have hl1 := cell_lt e1
      have hi1 : (k : Int) < (ns.length : Int) := by omega
      generalize ns[k].op = X at *
      clear d0
      by_cases hx : 1 ≤ X
      · have hx0 : ¬ X ≤ 0 := by omega
        skip
        go_wp2_with fail
        go_roundw
        case rel => exact ⟨k + 1, by omega, by go_num, HBW.out⟩
        case measure => simp [intOf]; omega
      · skip
        go_wp2_with fail
        go_roundw
        case rel => exact ⟨k + 1, by omega, by go_num, HBW.out⟩
        case measure => simp [intOf]; omega
    · go_wp2_with fail
      go_ret
      exact ⟨rfl, HBW.out⟩
end Go.Proofs.YtekkicgbloidkaaGreatDoor
/- The plain step that every script begins with. -/
namespace Go.Proofs.YtekkicgbloidkaaGreatDoor
open Go Go.RowKit

def plainTabs : List (List DCol) := [[⟨1, 0, [5, 7], [], [false, true]⟩]]
def plainNodes : List DNode := [⟨1, 0, 0, [], [], [], []⟩]

set_option maxRecDepth 20000 in
set_option maxHeartbeats 4000000 in
theorem plain_any (kind : Int) (w : World) :
    Calls Tryz.prog 6 #[.int .i64 kind] w fun e w' => ∃ vt vn, e = .returned (.agg #[.int .i64 kind, .int .i64 2, .int .i64 1, .int .i64 0, .int .i64 1, vt, vn]) ∧ RTabs w' vt plainTabs ∧ RNodes w' vn plainNodes ∧ Below w.heap.size w w' := by
  go_enter Tryz.func6, Tryz.ntmps6
  go_wp2_with fail
  refine bodyPost_ret (v := .agg #[.int .i64 kind, .int .i64 2, .int .i64 1, .int .i64 0, .int .i64 1, .slice (some ⟨w.heap.size + 1 + 1 + 1 + 1 + 1, 0, none⟩) 1 1, .slice (some ⟨w.heap.size + 1 + 1 + 1 + 1 + 1 + 1, 0, none⟩) 1 1]) (by simp [results, Tryz.results6, go_sem]) rfl ⟨_, _, rfl, ?_, ?_, ?_⟩
  · refine ⟨_, _, rfl, by simp [plainTabs], fun i hi => ?_⟩
    have : i = 0 := by simp [plainTabs] at hi; exact hi
    subst this
    refine ⟨_, _, rfl, .slice (some ⟨w.heap.size + 1 + 1 + 1, 0, none⟩) 1 1, by simp [go_sem], ?_⟩
    refine ⟨_, _, rfl, by simp [plainTabs], fun i hi => ?_⟩
    have : i = 0 := by simp [plainTabs] at hi; exact hi
    subst this
    refine ⟨_, _, rfl, .slice (some ⟨w.heap.size + 1, 0, none⟩) 2 2, .slice none 0 0, .slice (some ⟨w.heap.size + 1 + 1, 0, none⟩) 2 2, by simp [go_sem, plainTabs], by simp [go_sem, plainTabs], by simp [go_sem], by simp [go_sem], by simp [go_sem], ?_, ?_, ?_⟩
    · refine ⟨_, _, rfl, by simp [plainTabs], fun i hi => ⟨_, _, rfl, ?_⟩⟩
      have : i = 0 ∨ i = 1 := by simp [plainTabs] at hi; omega
      rcases this with rfl | rfl <;> simp [RI64, plainTabs, go_sem]
    · exact RSl.nil _ _ _
    · refine ⟨_, _, rfl, by simp [plainTabs], fun i hi => ⟨_, _, rfl, ?_⟩⟩
      have : i = 0 ∨ i = 1 := by simp [plainTabs] at hi; omega
      rcases this with rfl | rfl <;> simp [RBool, plainTabs, go_sem]
  · refine ⟨_, _, rfl, by simp [plainNodes], fun i hi => ?_⟩
    have : i = 0 := by simp [plainNodes] at hi; exact hi
    subst this
    exact ⟨_, _, rfl, .slice none 0 0, .slice none 0 0, .slice none 0 0, .slice none 0 0, by simp [go_sem, plainNodes], by simp [go_sem, plainNodes], by simp [go_sem, plainNodes], by simp [go_sem], by simp [go_sem], by simp [go_sem], by simp [go_sem], ⟨RSl.nil _ _ _, RSl.nil _ _ _, RSl.nil _ _ _, RSl.nil _ _ _⟩⟩
  · exact (((((((Below.refl _ _).alloc (by simp) _).alloc (by simp [Nat.add_assoc]) _).alloc (by simp [Nat.add_assoc]) _).alloc (by simp [Nat.add_assoc]) _).alloc (by simp [Nat.add_assoc]) _).alloc (by simp [Nat.add_assoc]) _).alloc (by simp [Nat.add_assoc]) _
theorem plain_tabs : TabsSm plainTabs := ⟨by simp [plainTabs], fun t ht => by
  simp only [plainTabs, List.mem_singleton] at ht
  subst ht
  exact ⟨by simp, fun c hc => by simp only [List.mem_singleton] at hc; subst hc; exact ⟨by simp, by simp, by simp⟩⟩⟩
theorem plain_nodes : NodesSm plainNodes := ⟨by simp [plainNodes], fun t ht => by
  simp only [plainNodes, List.mem_singleton] at ht
  subst ht
  exact ⟨by simp, by simp, by simp, by simp, by simp⟩⟩
end Go.Proofs.YtekkicgbloidkaaGreatDoor
/- A script is played. -/
namespace Go.Proofs.YtekkicgbloidkaaGreatDoor
open Go Go.RowKit

/-- A step of a script, as it is read. -/
structure DOp where
  kind : Int
  q1 : Int
  q2 : Int
  q3 : Int
  q4 : Int
  ts : List (List DCol)
  ns : List DNode
def ROp (w : World) (rd : Nat → Option Value) (o : DOp) : Prop :=
  ∃ vt vn, rd 0 = some (.int .i64 o.kind) ∧ rd 1 = some (.int .i64 o.q1) ∧ rd 2 = some (.int .i64 o.q2) ∧ rd 3 = some (.int .i64 o.q3) ∧ rd 4 = some (.int .i64 o.q4) ∧ rd 5 = some vt ∧ rd 6 = some vn ∧ RTabs w vt o.ts ∧ RNodes w vn o.ns
theorem mono_ROp : Mono ROp := fun _ _ _ _ _ hk hr ⟨vt, vn, h0, h1, h2, h3, h4, h5, h6, ht, hn⟩ =>
  ⟨vt, vn, hr _ _ h0, hr _ _ h1, hr _ _ h2, hr _ _ h3, hr _ _ h4, hr _ _ h5, hr _ _ h6, ht.mono mono_RTab hk, hn.mono mono_RNode hk⟩
abbrev RScript (w : World) := RSl w 7 ROp
theorem op_at {w : World} {v : Value} {l : List DOp} (h : RScript w v l) {k : Nat} (hk : k < l.length) :
    ∃ b off cap at1 ct an1 cn, v = .slice (some ⟨b, off, none⟩) l.length cap ∧ w.cell? ⟨b, off + k * 7, none⟩ = some (.int .i64 l[k].kind) ∧ w.cell? ⟨b, off + k * 7 + 1, none⟩ = some (.int .i64 l[k].q1) ∧ w.cell? ⟨b, off + k * 7 + 2, none⟩ = some (.int .i64 l[k].q2) ∧ w.cell? ⟨b, off + k * 7 + 3, none⟩ = some (.int .i64 l[k].q3) ∧ w.cell? ⟨b, off + k * 7 + 4, none⟩ = some (.int .i64 l[k].q4) ∧ w.cell? ⟨b, off + k * 7 + 5, none⟩ = some (.slice at1 l[k].ts.length ct) ∧ w.cell? ⟨b, off + k * 7 + 6, none⟩ = some (.slice an1 l[k].ns.length cn) ∧ RTabs w (.slice at1 l[k].ts.length ct) l[k].ts ∧ RNodes w (.slice an1 l[k].ns.length cn) l[k].ns := by
  obtain ⟨x, cap, rfl, hl, hel⟩ := h
  obtain ⟨b, off, rfl, vt, vn, h0, h1, h2, h3, h4, h5, h6, ht, hn⟩ := hel k hk
  simp only [Nat.add_zero] at h0
  obtain ⟨a1, c1, rfl, -⟩ := ht.shape
  obtain ⟨a2, c2, rfl, -⟩ := hn.shape
  exact ⟨b, off, cap, a1, c1, a2, c2, rfl, h0, h1, h2, h3, h4, h5, h6, ht, hn⟩
structure OpSm (o : DOp) : Prop where
  ts : TabsSm o.ts
  ns : NodesSm o.ns
structure ScriptSm (l : List DOp) : Prop where
  len : l.length ≤ 2000000
  each : ∀ o ∈ l, OpSm o

/-- The book, each of its lists of at most n entries. -/
def Held (B : Nat) (w : World) (bk n : Nat) : Prop :=
  ∃ vN vW vC vP vF nN nW nC nP fl, nN ≤ n ∧ nW ≤ n ∧ nC ≤ n ∧ nP ≤ n ∧ List.length fl ≤ n ∧ Book no B w bk vN vW vC vP vF nN nW nC nP fl
theorem Held.call {B : Nat} {w w' : World} {bk n : Nat} (h : Held B w bk n) (hb : Below w.heap.size w w') : Held B w' bk n := by
  obtain ⟨vN, vW, vC, vP, vF, nN, nW, nC, nP, fl, h1, h2, h3, h4, h5, h6⟩ := h
  exact ⟨vN, vW, vC, vP, vF, nN, nW, nC, nP, fl, h1, h2, h3, h4, h5, h6.call hb⟩
theorem Held.more {B : Nat} {w : World} {bk n m : Nat} (h : Held B w bk n) (hm : n ≤ m) : Held B w bk m := by
  obtain ⟨vN, vW, vC, vP, vF, nN, nW, nC, nP, fl, h1, h2, h3, h4, h5, h6⟩ := h
  exact ⟨vN, vW, vC, vP, vF, nN, nW, nC, nP, fl, by omega, by omega, by omega, by omega, by omega, h6⟩
theorem Held.new (w : World) : Held w.heap.size (w.alloc (.cells #[.slice none 0 0, .slice none 0 0, .slice none 0 0, .slice none 0 0, .slice none 0 0] 33)) w.heap.size 0 :=
  ⟨_, _, _, _, _, 0, 0, 0, 0, [], Nat.le_refl _, Nat.le_refl _, Nat.le_refl _, Nat.le_refl _, Nat.le_refl _,
    ⟨Nat.le_refl _, Box.new _ _ _, Ent.nil _ _ _ _ _ _ _, Ent.nil _ _ _ _ _ _ _, ⟨[], World.ownsRow_nil _ _ _ _, fun k hk => absurd hk (Nat.not_lt_zero k)⟩, Ent.nil _ _ _ _ _ _ _, Ent.nil _ _ _ _ _ _ _, fun m hm => by simp at hm⟩⟩

theorem step_any {B : Nat} {w : World} {bk n : Nat} (h : Held B w bk n) (hn8 : n ≤ 800000000) (hB : B ≤ w.heap.size) (hT : TabB B w) (kind : Int) (hkd : kind = 1 ∨ kind = 2) (ts : List (List DCol)) (ns : List DNode) (vt0 vn0 : Value) (ht : RTabs w vt0 ts) (hn : RNodes w vn0 ns) (hst : TabsSm ts) (hsn : NodesSm ns) (q1 q2 q3 q4 : Int) :
    Calls Tryz.prog 5 #[.pointer (some ⟨bk, 0, none⟩), .agg #[.int .i64 kind, .int .i64 q1, .int .i64 q2, .int .i64 q3, .int .i64 q4, vt0, vn0]] w fun e w' => e = .returned (.bool true) ∧ Held B w' bk (n + 16) ∧ Below B w w' := by
  obtain ⟨vN, vW, vC, vP, vF, nN, nW, nC, nP, fl, h1, h2, h3, h4, h5, h6⟩ := h
  rcases hkd with rfl | rfl
  · refine (step1_any h6 hB (by omega) ts ns vt0 vn0 ht hn hst hsn q1 q2 q3 q4).mono ?_
    rintro e w' ⟨rfl, ⟨vP', hb⟩, hbl⟩
    exact ⟨rfl, ⟨_, _, _, _, _, _, _, _, _, _, by omega, by omega, by omega, by omega, by omega, hb⟩, hbl⟩
  · refine (step2_any h6 hB hT (by omega) (by omega) (by omega) (by omega) ts ns vt0 vn0 ht hn hst hsn q1 q2 q3 q4).mono ?_
    rintro e w' ⟨rfl, ⟨vN', vW', vC', vF', nN', nW', fl', g1, g2, g3, hb⟩, hbl⟩
    exact ⟨rfl, ⟨_, _, _, _, _, _, _, _, _, _, by omega, by omega, by omega, by omega, by omega, hb⟩, hbl⟩
theorem looks_held {B : Nat} {w : World} {bk n : Nat} (h : Held B w bk n) (hn8 : n ≤ 900000000) (hB : B ≤ w.heap.size) (hT : TabB B w) :
    Calls Tryz.prog 8 #[.pointer (some ⟨bk, 0, none⟩)] w fun e w' => e = .returned (.bool true) ∧ Held B w' bk n ∧ Below B w w' := by
  obtain ⟨vN, vW, vC, vP, vF, nN, nW, nC, nP, fl, h1, h2, h3, h4, h5, h6⟩ := h
  refine (looks_any h6 hB hT (by omega) (by omega) (by omega) (by omega) (by omega)).mono ?_
  rintro e w' ⟨rfl, ⟨fl', g, hb⟩, hbl⟩
  exact ⟨rfl, ⟨_, _, _, _, _, _, _, _, _, _, h1, h2, h3, h4, by omega, hb⟩, hbl⟩
end Go.Proofs.YtekkicgbloidkaaGreatDoor
