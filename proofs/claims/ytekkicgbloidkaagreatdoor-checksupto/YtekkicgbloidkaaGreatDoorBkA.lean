/- What was lent is as it was; and it is written over. -/
import Derived.Test.YtekkicgbloidkaaGreatDoorBkU
import Derived.Deep.RegionHeld3
namespace Go.Proofs.YtekkicgbloidkaaGreatDoor
open Go Go.RowKit
attribute [local go_sem] run_eql_slice_nil
attribute [local go_sem ↓] Go.wp_at_zero Go.wp_at_succ

theorem Lent.drew {w : World} {T : TypeId} {sz lo hi : Nat} {v0 v : Value} {n : Nat} {cells : List Value} (h : Lent w T sz lo hi v0 v n cells) : Lent w.drew T sz lo hi v0 v n cells :=
  h.only (S := fun _ => False) (Only.drew (Only.refl _ _)) (fun _ _ _ => id)

set_option maxRecDepth 20000 in
set_option maxHeartbeats 32000000 in
theorem back_any (ts : List (List DCol)) (ns : List DNode) (vts vns vt0 vn0 : Value) (q0 q1 q2 q3 q4 : Int) (w0 w : World) (lo1 hi1 lo2 hi2 : Nat) (hB : Below w0.heap.size w0 w) (ht : RTabs w0 vt0 ts) (hn : RNodes w0 vn0 ns) (hst : TabsSm ts) (hsn : NodesSm ns)
    (lt : LTabs w lo1 hi1 vts ts) (ln : LNodes w0 w lo2 hi2 vn0 vns ns) (hlo : w0.heap.size ≤ lo1) (hmid : hi1 ≤ lo2) (hlo2 : lo1 ≤ lo2) (hhi1 : hi1 ≤ hi2) (hhi : hi2 ≤ w.heap.size) :
    Calls Tryz.prog 12 #[vts, vns, .agg #[.int .i64 q0, .int .i64 q1, .int .i64 q2, .int .i64 q3, .int .i64 q4, vt0, vn0]] w fun e w' => e = .returned (.bool true) ∧ Only (fun b => lo1 ≤ b ∧ b < hi2) w w' := by
  obtain ⟨at0, ct0, rfl, -⟩ := ht.shape
  obtain ⟨an0, cn0, rfl, -⟩ := hn.shape
  obtain ⟨gz, cz, czs, hrow, hzb, hz0⟩ := lt
  obtain ⟨gt, capt, curt, ivt, rfl, PT⟩ := hrow.parts stays_PTab
  obtain ⟨b0, o0, hbo, hrown⟩ := ln
  obtain ⟨gn, capn, curn, ivn, rfl, PN⟩ := hrown.parts (stays_PNode _ _ _)
  have HT : Hid (RTabs w0 (.slice at0 ts.length ct0) ts) := ht
  have HN : Hid (RNodes w0 (.slice an0 ns.length cn0) ns) := hn
  have HST : Hid (TabsSm ts) := hst
  have HSN : Hid (NodesSm ns) := hsn
  have HBO : Hid _ := hbo
  have hlt := hst.len
  have hln := hsn.len
  have hrt := PT.room
  have hrn := PN.room
  have HPT : Hid (LParts 57 1 PTab w lo1 hi1 gt capt curt ts ivt [.slice (some ⟨gz, 0, none⟩) 1 cz]) := PT
  have HPN : Hid (LParts 71 7 (PNode w0 b0 o0) w lo2 hi2 gn capn curn ns ivn _) := PN
  have hBA : Below w.heap.size w (w.alloc (.cells #[.int .i64 q0, .int .i64 q1, .int .i64 q2, .int .i64 q3, .int .i64 q4, .slice at0 ts.length ct0, .slice an0 ns.length cn0] 38)) := (Below.refl _ _).alloc (Nat.le_refl _) _
  have HBA : Hid _ := hBA
  have HB0 : Hid (Below w0.heap.size w0 (w.alloc (.cells #[.int .i64 q0, .int .i64 q1, .int .i64 q2, .int .i64 q3, .int .i64 q4, .slice at0 ts.length ct0, .slice an0 ns.length cn0] 38))) := hB.trans (hBA.mono hB.size)
  have HOP : Hid (Box (w.alloc (.cells #[.int .i64 q0, .int .i64 q1, .int .i64 q2, .int .i64 q3, .int .i64 q4, .slice at0 ts.length ct0, .slice an0 ns.length cn0] 38)) w.heap.size #[.int .i64 q0, .int .i64 q1, .int .i64 q2, .int .i64 q3, .int .i64 q4, .slice at0 ts.length ct0, .slice an0 ns.length cn0] 38) := Box.new _ _ _
  have HSA : Hid ((w.alloc (.cells #[.int .i64 q0, .int .i64 q1, .int .i64 q2, .int .i64 q3, .int .i64 q4, .slice at0 ts.length ct0, .slice an0 ns.length cn0] 38)).heap.size = w.heap.size + 1) := by unfold Hid; simp
  have z1 : (w.alloc (.cells #[.int .i64 q0, .int .i64 q1, .int .i64 q2, .int .i64 q3, .int .i64 q4, .slice at0 ts.length ct0, .slice an0 ns.length cn0] 38)).cell? ⟨gt, ts.length, none⟩ = some (.slice (some ⟨gz, 0, none⟩) 1 cz) := (Keeps.of_below hBA) _ _ _ (by
    have := PT.spare 0 (.slice (some ⟨gz, 0, none⟩) 1 cz) (by omega) rfl
    rw [PT.box.rules.1]; simpa using this)
  have z2 : (w.alloc (.cells #[.int .i64 q0, .int .i64 q1, .int .i64 q2, .int .i64 q3, .int .i64 q4, .slice at0 ts.length ct0, .slice an0 ns.length cn0] 38)).cell? ⟨gz, 0, none⟩ = some (.int .i64 (-77)) := (Keeps.of_below hBA) _ _ _ (by rw [hzb.rules.1]; exact hz0)
  have hg1 := cell_lt z1
  have hg2 := cell_lt z2
  have hci : ((ts.length : Int) + 1) ≤ (capt : Int) := by omega
  have hcn : ((ns.length : Int) + 1) ≤ (capn : Int) := by omega
  clear ht hn hst hsn hrow hzb hz0 hrown PT PN hBA hB hbo
  obtain ⟨hco, hfo, hso⟩ := HOP.out.all
  go_enter Tryz.func12, Tryz.ntmps12
  go_upto_block 0 with fail
  clear hco hfo hso
  generalize w.alloc (.cells #[.int .i64 q0, .int .i64 q1, .int .i64 q2, .int .i64 q3, .int .i64 q4, .slice at0 ts.length ct0, .slice an0 ns.length cn0] 38) = wA at *
  go_cut [8] (fun ok W => ok = .bool true ∧ Only (fun b => lo1 ≤ b ∧ b < hi1) wA W)
  case first =>
    go_wp2_with fail
    go_loopw [8, 9] (fun ok i W => ∃ (k : Nat) (cu : Array Value), k ≤ ts.length ∧ ok = .bool true ∧ i = .int .i64 k ∧ Box W gt cu 57 ∧ cu.size = capt ∧ (∀ j, k ≤ j → cu[j]? = curt[j]?) ∧ Only (Upto ivt gt k) wA W)
      (fun _ i _ => ts.length - (intOf i).toNat)
    case atStart => exact ⟨0, curt, Nat.zero_le _, rfl, rfl, HPT.out.box.call HBA.out, by rw [HPT.out.size]; omega, fun _ _ => rfl, Only.refl _ _⟩
    case round =>
      obtain ⟨k, cu, hk, rfl, rfl, hbx, hcs, hsame, hon⟩ := hrel
      have HX : Hid (Box wr gt cu 57) := hbx
      have HCS : Hid (cu.size = capt) := hcs
      have HSM : Hid (∀ j, k ≤ j → cu[j]? = curt[j]?) := hsame
      have HOn : Hid (Only (Upto ivt gt k) wA wr) := hon
      have HOW : Hid (Only (fun b => lo1 ≤ b ∧ b < hi1) wA wr) := Upto.within hon ⟨HPT.out.glo, HPT.out.ghi⟩ (fun iv h => ⟨(HPT.out.iv iv h).1, (HPT.out.iv iv h).2.1⟩)
      have HBk : Hid (Below w0.heap.size w0 wr) := HB0.out.trans (HOW.out.toBelow (by have := HB0.out.size; omega) (fun b hb => by omega))
      have HOPk : Hid (Box wr w.heap.size #[.int .i64 q0, .int .i64 q1, .int .i64 q2, .int .i64 q3, .int .i64 q4, .slice at0 ts.length ct0, .slice an0 ns.length cn0] 38) := HOP.out.only HOW.out (fun h => by omega)
      obtain ⟨hco, hfo, hso⟩ := HOPk.out.all
      clear hbx hcs hsame hon z1 z2 hg1 hg2
      by_cases hltk : k < ts.length
      · obtain ⟨bt, ot, ct, ac, cc, hvt, hbt, d0, hcols⟩ := tab_at HT.out hltk
        simp only [Value.slice.injEq, true_and] at hvt
        obtain ⟨rfl, rfl⟩ := hvt
        have HD0 : Hid _ := d0
        have e0 := (Keeps.of_below HBk.out) _ _ _ d0
        have hb0 := cell_lt e0
        have hki : k < ivt.length := by rw [HPT.out.leni]; exact hltk
        have hpt : PTab k wr ivt[k].1 ivt[k].2 (fun j => curt[k * 1 + j]?) ts[k] := stays_PTab.only _ _ _ _ _ _ _ _ ((Only.below HBA.out).trans HOn.out) (fun b h1 h2 => Upto.not HPT.out.pw (fun iv h => (HPT.out.iv iv h).2.2) hki h1 h2) (HPT.out.each k hltk hki)
        obtain ⟨vc, hvc, hrowc⟩ := hpt
        obtain ⟨gc, capc, curc, ivc, rfl, PC⟩ := hrowc.parts stays_PCol
        have HPC : Hid (LParts 67 5 PCol wr ivt[k].1 ivt[k].2 gc capc curc ts[k] ivc zCol) := PC
        have e1 : wr.cell? ⟨gt, k, none⟩ = some (.slice (some ⟨gc, 0, none⟩) ts[k].length capc) := by rw [HX.out.rules.1, HSM.out k (Nat.le_refl _)]; simpa using hvc
        have HC : Hid (RCols w0 (.slice ac ts[k].length cc) ts[k]) := hcols
        have HTS : Hid (TabSm ts[k]) := HST.out.each _ (List.getElem_mem hltk)
        have hIv := HPT.out.iv _ (List.getElem_mem hki)
        have HIV : Hid _ := hIv
        have z3 : wr.cell? ⟨gc, ts[k].length * 5, none⟩ = some (.int .i64 (-77)) := by
          have := PC.spare 0 (.int .i64 (-77)) (by omega) rfl
          rw [PC.box.rules.1]; simpa using this
        have hrc := PC.room
        have htl := HTS.out.len
        have hgt := HX.out.lt
        have hgc := PC.box.lt
        have hi1 : (k : Int) < (ts.length : Int) := by omega
        have hi2 : (k : Int) < ((ts.length + 1 : Nat) : Int) := by omega
        have hcc2 : ((ts[k].length : Int) + 1) ≤ (capc : Int) := by omega
        generalize hI1 : ivt[k].1 = I1 at *
        generalize hI2 : ivt[k].2 = I2 at *
        have HI1 : Hid _ := hI1
        have HI2 : Hid _ := hI2
        generalize ts[k] = t at *
        clear hvc hrowc PC hcols d0 hIv hI1 hI2
        obtain ⟨w1, rfl⟩ : ∃ x : World, x = wr := ⟨wr, rfl⟩
        go_wp2_with fail
        go_loopw [8, 12] (fun ok j W => ∃ (m : Nat) (cv : Array Value), m ≤ t.length ∧ ok = .bool true ∧ j = .int .i64 m ∧ Box W gc cv 67 ∧ cv.size = capc * 5 ∧ (∀ j, m * 5 ≤ j → cv[j]? = curc[j]?) ∧ Only (Upto ivc gc m) w1 W)
          (fun _ j _ => t.length - (intOf j).toNat)
        case atStart => exact ⟨0, curc, Nat.zero_le _, rfl, rfl, HPC.out.box, HPC.out.size, fun _ _ => rfl, Only.refl _ _⟩
        case round =>
          obtain ⟨m, cv, hm, rfl, rfl, hbx, hcs, hsame, hon⟩ := hrel
          have HX2 : Hid (Box wr gc cv 67) := hbx
          have HCS2 : Hid (cv.size = capc * 5) := hcs
          have HSM2 : Hid (∀ j, m * 5 ≤ j → cv[j]? = curc[j]?) := hsame
          have HOn2 : Hid (Only (Upto ivc gc m) w1 wr) := hon
          have HOW2 : Hid (Only (fun b => I1 ≤ b ∧ b < I2) w1 wr) := Upto.within hon ⟨HPC.out.glo, HPC.out.ghi⟩ (fun iv h => ⟨(HPC.out.iv iv h).1, (HPC.out.iv iv h).2.1⟩)
          have HBk2 : Hid (Below w0.heap.size w0 wr) := HBk.out.trans (HOW2.out.toBelow HBk.out.size (fun b hb => by have := HIV.out.1; omega))
          have HOPk2 : Hid (Box wr w.heap.size _ 38) := HOPk.out.only HOW2.out (fun h => by have := HIV.out.2.1; omega)
          have HXT : Hid (Box wr gt cu 57) := HX.out.only HOW2.out HIV.out.2.2
          have HSW : Hid (w.heap.size + 1 ≤ wr.heap.size) := by have := HOPk2.out.lt; unfold Hid; omega
          have e0' := (Keeps.of_below HBk2.out) _ _ _ HD0.out
          clear hbx hcs hsame hon hco hfo hso e0 hb0 e1 z3 hgt hgc
          by_cases hlt2 : m < t.length
          · obtain ⟨bc, oc, ccp, ai, ci, az, cz', an, cn', hvc, hbc, c0, c1, c2, c3, c4, hcol⟩ := col_at HC.out hlt2
            simp only [Value.slice.injEq, true_and] at hvc
            obtain ⟨rfl, rfl⟩ := hvc
            have kp := Keeps.of_below HBk2.out
            have f0 := kp _ _ _ c0
            have f1 := kp _ _ _ c1
            have f2 := kp _ _ _ c2
            have f3 := kp _ _ _ c3
            have f4 := kp _ _ _ c4
            have hbf := cell_lt f0
            have hb0' := cell_lt e0'
            have hmi : m < ivc.length := by rw [HPC.out.leni]; exact hlt2
            have hpc : PCol m wr ivc[m].1 ivc[m].2 (fun j => curc[m * 5 + j]?) t[m] := stays_PCol.only _ _ _ _ _ _ _ _ HOn2.out (fun b h1 h2 => Upto.not HPC.out.pw (fun iv h => (HPC.out.iv iv h).2.2) hmi h1 h2) (HPC.out.each m hlt2 hmi)
            obtain ⟨vi, vs, vn, vi0, vs0, vn0, r0, r1, r2, r3, r4, L1, L2, L3, -⟩ := hpc
            obtain ⟨xi, yi, rfl⟩ := L1.shape
            obtain ⟨xz, yz, rfl⟩ := L2.shape
            obtain ⟨xn, yn, rfl⟩ := L3.shape
            have gg : ∀ j u, curc[m * 5 + j]? = some u → wr.cell? ⟨gc, m * 5 + j, none⟩ = some u := fun j u hu => by rw [HX2.out.rules.1, HSM2.out _ (by omega)]; exact hu
            have g0 := gg 0 _ r0
            have g1 := gg 1 _ r1
            have g2 := gg 2 _ r2
            have g3 := gg 3 _ r3
            have g4 := gg 4 _ r4
            simp only [Nat.add_zero] at g0
            have hJ := HPC.out.iv _ (List.getElem_mem hmi)
            have hgc := HX2.out.lt
            have hop5 : wr.cell? ⟨w.heap.size, 5, none⟩ = some (.slice (some ⟨bt, ot, none⟩) ts.length ct0) := by rw [HOPk2.out.rules.1]; rfl
            have hopl := HOPk2.out.lt
            have hj1 : (m : Int) < (t.length : Int) := by omega
            have hj2 : (m : Int) < ((t.length + 1 : Nat) : Int) := by omega
            have hj3 : (m : Int) < (t.length : Int) + 1 := by omega
            have hj0 : (0 : Int) ≤ (m : Int) := by omega
            have hk0 : (0 : Int) ≤ (k : Int) := by omega
            have HCI : Hid (ColIs w0 (.slice ai t[m].ints.length ci) (.slice az t[m].strs.length cz') (.slice an t[m].nulls.length cn') t[m]) := hcol
            have HCM : Hid (ColSm t[m]) := HTS.out.each _ (List.getElem_mem hlt2)
            have HL1 : Hid _ := L1.drew
            have HL2 : Hid _ := L2.drew
            have HL3 : Hid _ := L3.drew
            generalize hJ1 : ivc[m].1 = J1 at *
            generalize hJ2 : ivc[m].2 = J2 at *
            have HJ1 : Hid _ := hJ1
            have HJ2 : Hid _ := hJ2
            have nG : ¬ (J1 ≤ gc ∧ gc < J2) := hJ.2.2
            have nO : ¬ (J1 ≤ w.heap.size ∧ w.heap.size < J2) := by have := HIV.out.2.1; omega
            have nT : ¬ (J1 ≤ bt ∧ bt < J2) := by have := HIV.out.1; omega
            have nC : ¬ (J1 ≤ bc ∧ bc < J2) := by have := HIV.out.1; omega
            have hq1 : w0.heap.size ≤ J1 := by have := HIV.out.1; omega
            have HQ2 : Hid (J2 ≤ wr.drew.heap.size) := by have := HIV.out.2.1; have := HSW.out; unfold Hid; simp; omega
            have HBD : Hid (Below w0.heap.size w0 wr.drew) := HBk2.out.drew
            have HJ : Hid _ := hJ
            generalize t[m] = C at *
            clear kp c0 c1 c2 c3 c4 hcol r0 r1 r2 r3 r4 L1 L2 L3 gg hJ hJ1 hJ2
            go_upto_region 15 with fail
            go_region_held3 (fun W => W.cell? ⟨gc, m * 5, none⟩ = some (.int .i64 C.kind) ∧ W.cell? ⟨gc, m * 5 + 1, none⟩ = some (.int .i64 C.scale) ∧ W.cell? ⟨gc, m * 5 + 2, none⟩ = some (.slice xi C.ints.length yi) ∧ W.cell? ⟨gc, m * 5 + 3, none⟩ = some (.slice xz C.strs.length yz) ∧ W.cell? ⟨gc, m * 5 + 4, none⟩ = some (.slice xn C.nulls.length yn) ∧ W.cell? ⟨w.heap.size, 5, none⟩ = some (.slice (some ⟨bt, ot, none⟩) ts.length ct0) ∧ W.cell? ⟨bt, ot + k, none⟩ = some (.slice (some ⟨bc, oc, none⟩) t.length cc) ∧ W.cell? ⟨bc, oc + m * 5, none⟩ = some (.int .i64 C.kind) ∧ W.cell? ⟨bc, oc + m * 5 + 1, none⟩ = some (.int .i64 C.scale) ∧ W.cell? ⟨bc, oc + m * 5 + 2, none⟩ = some (.slice ai C.ints.length ci) ∧ W.cell? ⟨bc, oc + m * 5 + 3, none⟩ = some (.slice az C.strs.length cz') ∧ W.cell? ⟨bc, oc + m * 5 + 4, none⟩ = some (.slice an C.nulls.length cn'))
              ((go_split_ands; refine ⟨?_, ?_, ?_, ?_, ?_, ?_, ?_, ?_, ?_, ?_, ?_, ?_⟩ <;> first | (exact cell_only hon3 (by assumption) (by first | exact nG | exact nO | exact nT | exact nC)) | (go_keep; done)))
              (first | (go_at_call 36; refine (spareColumn_any C _ _ _ _ _ _ _ _ _ w0 _ J1 J2 hq1 HQ2.out HBD.out HCI.out HCM.out HL1.out HL2.out HL3.out).mono ?_; rintro e w3 ⟨rfl, hon3⟩))
            have HX3 : Hid (Box w3 gc cv 67) := HX2.out.drew.only hon3 nG
            have HO3 : Hid (Only (Upto ivc gc (m + 1)) w1 w3) := Upto.only HOn2.out.drew hmi (by rw [HJ1.out, HJ2.out]; exact hon3)
            have hr := HX3.out.rules.1
            have hff := HX3.out.rules.2
            have hgl := HX3.out.lt
            have hle : (m + 1) * 5 ≤ capc * 5 := Nat.mul_le_mul_right _ (by omega)
            obtain ⟨y0, hy0⟩ : ∃ y, w3.cell? ⟨gc, m * 5, none⟩ = some y := ⟨cv[m * 5]'(by have := HCS2.out; omega), by rw [hr]; simp⟩
            obtain ⟨y1, hy1⟩ : ∃ y, w3.cell? ⟨gc, m * 5 + 1, none⟩ = some y := ⟨cv[m * 5 + 1]'(by have := HCS2.out; omega), by rw [hr]; simp⟩
            obtain ⟨y2, hy2⟩ : ∃ y, w3.cell? ⟨gc, m * 5 + 2, none⟩ = some y := ⟨cv[m * 5 + 2]'(by have := HCS2.out; omega), by rw [hr]; simp⟩
            obtain ⟨y3, hy3⟩ : ∃ y, w3.cell? ⟨gc, m * 5 + 3, none⟩ = some y := ⟨cv[m * 5 + 3]'(by have := HCS2.out; omega), by rw [hr]; simp⟩
            obtain ⟨y4, hy4⟩ : ∃ y, w3.cell? ⟨gc, m * 5 + 4, none⟩ = some y := ⟨cv[m * 5 + 4]'(by have := HCS2.out; omega), by rw [hr]; simp⟩
            clear hr hle hon3 g0 g1 g2 g3 g4 f0 f1 f2 f3 f4 hop5 hopl
            go_wp2_with fail
            go_roundw
            case rel =>
              refine ⟨m + 1, _, by omega, by first | rfl | simp, by go_num, ((((HX3.out.set _ _).set _ _).set _ _).set _ _).set _ _, by simp; exact HCS2.out, fun j hj => ?_, ((((HO3.out.setCell (.inl rfl) _).setCell (.inl rfl) _).setCell (.inl rfl) _).setCell (.inl rfl) _).setCell (.inl rfl) _⟩
              simp only [Array.getElem?_setIfInBounds]
              repeat rw [if_neg (by omega)]
              exact HSM2.out j (by omega)
            case measure => simp [intOf]; omega
          · have hmt : m = t.length := by omega
            subst hmt
            obtain ⟨y0, hy0⟩ : ∃ y, wr.cell? ⟨gt, k, none⟩ = some y := ⟨cu[k]'(by have := HCS.out; omega), by rw [HXT.out.rules.1]; simp⟩
            have hff := HXT.out.rules.2
            have hgl := HXT.out.lt
            have HO3 : Hid (Only (Upto ivt gt (k + 1)) wA wr) := Upto.only HOn.out hki (by rw [HI1.out, HI2.out]; exact HOW2.out)
            clear e0'
            go_wp2_with fail
            go_roundw
            case rel =>
              refine ⟨k + 1, _, by omega, by first | rfl | simp, by go_num, HXT.out.set _ _, by simp; exact HCS.out, fun j hj => ?_, HO3.out.setCell (.inl rfl) _⟩
              rw [Array.getElem?_setIfInBounds, if_neg (by omega)]; exact HSM.out j (by omega)
            case measure => simp [intOf]; omega
      · have hkt : k = ts.length := by omega
        subst hkt
        go_wp2_with fail
        go_meet
        case rel => exact ⟨rfl, HOW.out⟩
  case rest =>
    obtain ⟨rfl, hO⟩ := hcut
    obtain ⟨wC, rfl⟩ : ∃ x : World, x = wc := ⟨wc, rfl⟩
    have HOc : Hid (Only (fun b => lo1 ≤ b ∧ b < hi1) wA wC) := hO
    have HBc : Hid (Below w0.heap.size w0 wC) := HB0.out.trans (hO.toBelow (by have := HB0.out.size; omega) (fun b hb => by omega))
    have HOPc : Hid (Box wC w.heap.size _ 38) := HOP.out.only hO (fun h => by omega)
    have hOw : Only (fun b => lo1 ≤ b ∧ b < hi1) w wC := (Only.below HBA.out).trans hO
    have HOw : Hid _ := hOw
    have HXN : Hid (Box wC gn curn 71) := HPN.out.box.only hOw (fun h => by have := HPN.out.glo; omega)
    have z1' : wC.cell? ⟨gn, ns.length * 7, none⟩ = some (.int .i64 (-77)) := by
      have := HPN.out.spare 0 (.int .i64 (-77)) (by omega) rfl
      rw [HXN.out.rules.1]; simpa using this
    have hgn := HXN.out.lt
    obtain ⟨hco, hfo, hso⟩ := HOPc.out.all
    clear hO hOw z1 z2 hg1 hg2
    go_wp2_with fail
    go_loopw [8, 15] (fun ok i W => ∃ (k : Nat) (cu : Array Value), k ≤ ns.length ∧ ok = .bool true ∧ i = .int .i64 k ∧ Box W gn cu 71 ∧ cu.size = capn * 7 ∧ (∀ j, k * 7 ≤ j → cu[j]? = curn[j]?) ∧ Only (Upto ivn gn k) wC W)
      (fun _ i _ => ns.length - (intOf i).toNat)
    case atStart => exact ⟨0, curn, Nat.zero_le _, rfl, rfl, HXN.out, HPN.out.size, fun _ _ => rfl, Only.refl _ _⟩
    case round =>
      obtain ⟨k, cu, hk, rfl, rfl, hbx, hcs, hsame, hon⟩ := hrel
      have HX : Hid (Box wr gn cu 71) := hbx
      have HCS : Hid (cu.size = capn * 7) := hcs
      have HSM : Hid (∀ j, k * 7 ≤ j → cu[j]? = curn[j]?) := hsame
      have HOn : Hid (Only (Upto ivn gn k) wC wr) := hon
      have HOW : Hid (Only (fun b => lo2 ≤ b ∧ b < hi2) wC wr) := Upto.within hon ⟨HPN.out.glo, HPN.out.ghi⟩ (fun iv h => ⟨(HPN.out.iv iv h).1, (HPN.out.iv iv h).2.1⟩)
      have HBk : Hid (Below w0.heap.size w0 wr) := HBc.out.trans (HOW.out.toBelow HBc.out.size (fun b hb => by omega))
      have HOPk : Hid (Box wr w.heap.size _ 38) := HOPc.out.only HOW.out (fun h => by omega)
      obtain ⟨hco, hfo, hso⟩ := HOPk.out.all
      clear hbx hcs hsame hon z1' hgn
      by_cases hltk : k < ns.length
      · obtain ⟨bt, ot, ct, ae, ce, ak, ck, ao, co, aa, ca, hvt, -, hbt, d0, d1, d2, d3, d4, d5, d6, hnode⟩ := node_at HN.out hltk
        simp only [Value.slice.injEq, true_and] at hvt
        obtain ⟨rfl, rfl⟩ := hvt
        obtain ⟨rfl, rfl⟩ := HBO.out _ _ _ _ rfl
        have HND : Hid (NodeIs w0 (.slice ae ns[k].exprs.length ce) (.slice ak ns[k].keys.length ck) (.slice ao ns[k].others.length co) (.slice aa ns[k].aggs.length ca) ns[k]) := hnode
        have kp := Keeps.of_below HBk.out
        have e0 := kp _ _ _ d0
        have e1 := kp _ _ _ d1
        have e2 := kp _ _ _ d2
        have e3 := kp _ _ _ d3
        have e4 := kp _ _ _ d4
        have e5 := kp _ _ _ d5
        have e6 := kp _ _ _ d6
        have hb0 := cell_lt e0
        have hki : k < ivn.length := by rw [HPN.out.leni]; exact hltk
        have hpn : PNode w0 bt ot k wr ivn[k].1 ivn[k].2 (fun j => curn[k * 7 + j]?) ns[k] := (stays_PNode _ _ _).only _ _ _ _ _ _ _ _ HOn.out (fun b h1 h2 => Upto.not HPN.out.pw (fun iv h => (HPN.out.iv iv h).2.2) hki h1 h2) ((stays_PNode _ _ _).only _ _ _ _ _ _ _ _ HOw.out (fun b h1 h2 h => by have := (HPN.out.iv _ (List.getElem_mem hki)).1; omega) (HPN.out.each k hltk hki))
        obtain ⟨ae', ce', vk0, vo0, va0, ve, vk, vo, va, gz', cz', czs', m0, m1, m2, k3, k4, k5, k6, r0, r1, r2, r3, r4, r5, r6, hre, hzb, hzz, y1, y2, j0, j1, j2, j3, l1, l2, l3⟩ := hpn
        rw [d3] at k3
        rw [d4] at k4
        rw [d5] at k5
        rw [d6] at k6
        simp only [Option.some.injEq, Value.slice.injEq, true_and] at k3 k4 k5 k6
        obtain ⟨rfl, rfl⟩ := k3
        subst k4 k5 k6
        obtain ⟨ge, cape, cure, ive, rfl, PE⟩ := hre.parts (stays_PExpr _ _)
        obtain ⟨xk, yk, rfl⟩ := l1.shape
        obtain ⟨xo, yo, rfl⟩ := l2.shape
        obtain ⟨xa, ya, rfl⟩ := l3.shape
        have gg : ∀ j u, curn[k * 7 + j]? = some u → wr.cell? ⟨gn, k * 7 + j, none⟩ = some u := fun j u hu => by rw [HX.out.rules.1, HSM.out _ (by omega)]; exact hu
        have g0 := gg 0 _ r0
        have g1 := gg 1 _ r1
        have g2 := gg 2 _ r2
        have g3 := gg 3 _ r3
        have g4 := gg 4 _ r4
        have g5 := gg 5 _ r5
        have g6 := gg 6 _ r6
        simp only [Nat.add_zero] at g0
        have HIV : Hid (lo2 ≤ ivn[k].1 ∧ ivn[k].2 ≤ hi2 ∧ ¬ (ivn[k].1 ≤ gn ∧ gn < ivn[k].2)) := HPN.out.iv _ (List.getElem_mem hki)
        have HNS : Hid (NodeSm ns[k]) := HSN.out.each _ (List.getElem_mem hltk)
        have hgn := HX.out.lt
        have HSW : Hid (w.heap.size + 1 ≤ wr.heap.size) := by have := HOPk.out.lt; unfold Hid; omega
        generalize hI1 : ivn[k].1 = I1 at *
        generalize hI2 : ivn[k].2 = I2 at *
        have HI1 : Hid _ := hI1
        have HI2 : Hid _ := hI2
        generalize ns[k] = N at *
        have hel := HNS.out.exprs
        have hi1 : (k : Int) < (ns.length : Int) := by omega
        have hi2 : (k : Int) < ((ns.length + 1 : Nat) : Int) := by omega
        have HJS : Hid (I1 ≤ m0 ∧ m0 ≤ m1 ∧ m1 ≤ m2 ∧ m2 ≤ I2) := ⟨j0, j1, j2, j3⟩
        have HX1 : Hid (Box ((wr.alloc (.cells #[.int .i64 N.op, .int .i64 N.a, .int .i64 N.b, .slice (some ⟨ge, 0, none⟩) N.exprs.length cape, .slice xk N.keys.length yk, .slice xo N.others.length yo, .slice xa N.aggs.length ya] 71)).alloc (.cells #[.int .i64 N.op, .int .i64 N.a, .int .i64 N.b, .slice ae N.exprs.length ce, .slice ak N.keys.length ck, .slice ao N.others.length co, .slice aa N.aggs.length ca] 71)) wr.heap.size #[.int .i64 N.op, .int .i64 N.a, .int .i64 N.b, .slice (some ⟨ge, 0, none⟩) N.exprs.length cape, .slice xk N.keys.length yk, .slice xo N.others.length yo, .slice xa N.aggs.length ya] 71) := (Box.new _ _ _).alloc _
        have HX2 : Hid (Box ((wr.alloc (.cells #[.int .i64 N.op, .int .i64 N.a, .int .i64 N.b, .slice (some ⟨ge, 0, none⟩) N.exprs.length cape, .slice xk N.keys.length yk, .slice xo N.others.length yo, .slice xa N.aggs.length ya] 71)).alloc (.cells #[.int .i64 N.op, .int .i64 N.a, .int .i64 N.b, .slice ae N.exprs.length ce, .slice ak N.keys.length ck, .slice ao N.others.length co, .slice aa N.aggs.length ca] 71)) (wr.heap.size + 1) #[.int .i64 N.op, .int .i64 N.a, .int .i64 N.b, .slice ae N.exprs.length ce, .slice ak N.keys.length ck, .slice ao N.others.length co, .slice aa N.aggs.length ca] 71) := by
          have := Box.new (wr.alloc (.cells #[.int .i64 N.op, .int .i64 N.a, .int .i64 N.b, .slice (some ⟨ge, 0, none⟩) N.exprs.length cape, .slice xk N.keys.length yk, .slice xo N.others.length yo, .slice xa N.aggs.length ya] 71)) #[.int .i64 N.op, .int .i64 N.a, .int .i64 N.b, .slice ae N.exprs.length ce, .slice ak N.keys.length ck, .slice ao N.others.length co, .slice aa N.aggs.length ca] 71
          unfold Hid; simpa using this
        have HB2 : Hid (Below wr.heap.size wr ((wr.alloc (.cells #[.int .i64 N.op, .int .i64 N.a, .int .i64 N.b, .slice (some ⟨ge, 0, none⟩) N.exprs.length cape, .slice xk N.keys.length yk, .slice xo N.others.length yo, .slice xa N.aggs.length ya] 71)).alloc (.cells #[.int .i64 N.op, .int .i64 N.a, .int .i64 N.b, .slice ae N.exprs.length ce, .slice ak N.keys.length ck, .slice ao N.others.length co, .slice aa N.aggs.length ca] 71))) := ((Below.refl _ _).alloc (Nat.le_refl _) _).alloc (by simp) _
        clear hnode kp d0 d1 d2 d3 d4 d5 d6 r0 r1 r2 r3 r4 r5 r6 hre gg hI1 hI2 j0 j1 j2 j3
        go_upto_region 26 with fail
        clear e0 e1 e2 e3 e4 e5 e6 g0 g1 g2 g3 g4 g5 g6 hb0 hgn hco hfo hso
        have HS2 : Hid ((((wr.alloc (.cells #[.int .i64 N.op, .int .i64 N.a, .int .i64 N.b, .slice (some ⟨ge, 0, none⟩) N.exprs.length cape, .slice xk N.keys.length yk, .slice xo N.others.length yo, .slice xa N.aggs.length ya] 71)).alloc (.cells #[.int .i64 N.op, .int .i64 N.a, .int .i64 N.b, .slice ae N.exprs.length ce, .slice ak N.keys.length ck, .slice ao N.others.length co, .slice aa N.aggs.length ca] 71))).heap.size = wr.heap.size + 2) := by unfold Hid; simp
        have HPE : Hid (LParts 84 1 (PExpr w0 ae) wr I1 m0 ge cape cure N.exprs ive [.slice (some ⟨gz', 0, none⟩) 1 cz']) := PE
        have HL1 : Hid (Lent _ _ _ _ _ _ _ _ _) := l1
        have HL2 : Hid (Lent _ _ _ _ _ _ _ _ _) := l2
        have HL3 : Hid (Lent _ _ _ _ _ _ _ _ _) := l3
        have hroom := PE.room
        have z3 : (((wr.alloc (.cells #[.int .i64 N.op, .int .i64 N.a, .int .i64 N.b, .slice (some ⟨ge, 0, none⟩) N.exprs.length cape, .slice xk N.keys.length yk, .slice xo N.others.length yo, .slice xa N.aggs.length ya] 71)).alloc (.cells #[.int .i64 N.op, .int .i64 N.a, .int .i64 N.b, .slice ae N.exprs.length ce, .slice ak N.keys.length ck, .slice ao N.others.length co, .slice aa N.aggs.length ca] 71))).cell? ⟨ge, N.exprs.length, none⟩ = some (.slice (some ⟨gz', 0, none⟩) 1 cz') := (Keeps.of_below HB2.out) _ _ _ (by
          have := PE.spare 0 (.slice (some ⟨gz', 0, none⟩) 1 cz') (by omega) rfl
          rw [PE.box.rules.1]; simpa using this)
        have z4 : (((wr.alloc (.cells #[.int .i64 N.op, .int .i64 N.a, .int .i64 N.b, .slice (some ⟨ge, 0, none⟩) N.exprs.length cape, .slice xk N.keys.length yk, .slice xo N.others.length yo, .slice xa N.aggs.length ya] 71)).alloc (.cells #[.int .i64 N.op, .int .i64 N.a, .int .i64 N.b, .slice ae N.exprs.length ce, .slice ak N.keys.length ck, .slice ao N.others.length co, .slice aa N.aggs.length ca] 71))).cell? ⟨gz', 0, none⟩ = some (.int .i64 (-77)) := (Keeps.of_below HB2.out) _ _ _ (by rw [hzb.rules.1]; exact hzz)
        clear PE l1 l2 l3 hzb hzz y1 y2
        generalize ((wr.alloc (.cells #[.int .i64 N.op, .int .i64 N.a, .int .i64 N.b, .slice (some ⟨ge, 0, none⟩) N.exprs.length cape, .slice xk N.keys.length yk, .slice xo N.others.length yo, .slice xa N.aggs.length ya] 71)).alloc (.cells #[.int .i64 N.op, .int .i64 N.a, .int .i64 N.b, .slice ae N.exprs.length ce, .slice ak N.keys.length ck, .slice ao N.others.length co, .slice aa N.aggs.length ca] 71)) = w2 at *
        obtain ⟨h1c, h1f, h1s⟩ := HX1.out.all
        obtain ⟨h2c, h2f, h2s⟩ := HX2.out.all
        have hgz := cell_lt z4
        have hge := cell_lt z3
        have hcape : ((N.exprs.length : Int) + 1) ≤ (cape : Int) := by omega
        obtain ⟨w1, rfl⟩ : ∃ x : World, x = wr := ⟨wr, rfl⟩
        go_upto_block 6 with fail
        clear h1c h1f h1s h2c h2f h2s z3 z4 hgz hge
        go_cut [8] (fun ok W => ok = .bool true ∧ Only (fun b => I1 ≤ b ∧ b < m0) w2 W)
        case first =>
          go_wp2_with fail
          go_loopw [8, 19] (fun ok j W => ∃ (m : Nat) (cv : Array Value), m ≤ N.exprs.length ∧ ok = .bool true ∧ j = .int .i64 m ∧ Box W ge cv 84 ∧ cv.size = cape ∧ (∀ j, m ≤ j → cv[j]? = cure[j]?) ∧ Only (Upto ive ge m) w2 W)
            (fun _ j _ => N.exprs.length - (intOf j).toNat)
          case atStart => exact ⟨0, cure, Nat.zero_le _, rfl, rfl, HPE.out.box.call HB2.out, by rw [HPE.out.size]; omega, fun _ _ => rfl, Only.refl _ _⟩
          case round =>
            obtain ⟨m, cv, hm, rfl, rfl, hbx, hcs, hsame, hon⟩ := hrel
            have HXe : Hid (Box wr ge cv 84) := hbx
            have HCS2 : Hid (cv.size = cape) := hcs
            have HSM2 : Hid (∀ j, m ≤ j → cv[j]? = cure[j]?) := hsame
            have HOn2 : Hid (Only (Upto ive ge m) w2 wr) := hon
            have HOW2 : Hid (Only (fun b => I1 ≤ b ∧ b < m0) w2 wr) := Upto.within hon ⟨HPE.out.glo, HPE.out.ghi⟩ (fun iv h => ⟨(HPE.out.iv iv h).1, (HPE.out.iv iv h).2.1⟩)
            have HB2k : Hid (Below w0.heap.size w0 w2) := HBk.out.trans (HB2.out.mono (by have := HBk.out.size; omega))
            have HBk2 : Hid (Below w0.heap.size w0 wr) := HB2k.out.trans (HOW2.out.toBelow HB2k.out.size (fun b hb => by have := HIV.out.1; omega))
            have HX2k : Hid (Box wr (w1.heap.size + 1) _ 71) := HX2.out.only HOW2.out (fun h => by have := HIV.out.2.1; have := HSW.out; have := HJS.out; omega)
            clear hbx hcs hsame hon
            by_cases hlt2 : m < N.exprs.length
            · obtain ⟨be, oe, cpe, vE, hve, hbe, c0, hex⟩ := exprs_at HND.out.exprs hlt2
              simp only [Value.slice.injEq, true_and] at hve
              obtain ⟨rfl, rfl⟩ := hve
              have f0 := (Keeps.of_below HBk2.out) _ _ _ c0
              have hbf := cell_lt f0
              have hmi : m < ive.length := by rw [HPE.out.leni]; exact hlt2
              have hpe : PExpr w0 (some ⟨be, oe, none⟩) m wr ive[m].1 ive[m].2 (fun j => cure[m * 1 + j]?) N.exprs[m] := (stays_PExpr _ _).only _ _ _ _ _ _ _ _ HOn2.out (fun b h1 h2 => Upto.not HPE.out.pw (fun iv h => (HPE.out.iv iv h).2.2) hmi h1 h2) ((stays_PExpr _ _).only _ _ _ _ _ _ _ (fun _ => False) (Only.below HB2.out) (fun _ _ _ => id) (HPE.out.each m hlt2 hmi))
              obtain ⟨be', oe', v0', v', hbe', hc0', hrd, L, -⟩ := hpe
              simp only [Option.some.injEq, Addr.mk.injEq, and_true] at hbe'
              obtain ⟨rfl, rfl⟩ := hbe'
              rw [c0] at hc0'
              simp only [Option.some.injEq] at hc0'
              subst hc0'
              obtain ⟨aE, cE, rfl, -⟩ := hex.shape
              obtain ⟨xE, yE, rfl⟩ := L.shape
              have g0 : wr.cell? ⟨ge, m, none⟩ = some (.slice xE N.exprs[m].length yE) := by rw [HXe.out.rules.1, HSM2.out _ (Nat.le_refl _)]; simpa using hrd
              have hJ := HPE.out.iv _ (List.getElem_mem hmi)
              have hge := HXe.out.lt
              have h2c : wr.cell? ⟨w1.heap.size + 1, 3, none⟩ = some (.slice (some ⟨be, oe, none⟩) N.exprs.length ce) := by rw [HX2k.out.rules.1]; rfl
              have h2l := HX2k.out.lt
              have hj0 : (0 : Int) ≤ (m : Int) := by omega
              have hj1 : (m : Int) < (N.exprs.length : Int) := by omega
              have hj2 : (m : Int) < ((N.exprs.length + 1 : Nat) : Int) := by omega
              have hj3 : (m : Int) < (N.exprs.length : Int) + 1 := by omega
              have HEX : Hid (RTerms wr.drew (.slice aE N.exprs[m].length cE) N.exprs[m]) := RSl.mono mono_RTerm ((Keeps.of_below HBk2.out).drew) hex
              have HES : Hid (N.exprs[m].length ≤ 2000000) := HNS.out.each _ (List.getElem_mem hlt2)
              have HLE : Hid _ := L.drew
              generalize hJ1 : ive[m].1 = J1 at *
              generalize hJ2 : ive[m].2 = J2 at *
              have HJ1 : Hid _ := hJ1
              have HJ2 : Hid _ := hJ2
              have nG : ¬ (J1 ≤ ge ∧ ge < J2) := hJ.2.2
              have nO : ¬ (J1 ≤ w1.heap.size + 1 ∧ w1.heap.size + 1 < J2) := by have := HIV.out.2.1; have := HJS.out; have := HSW.out; omega
              have nE : ¬ (J1 ≤ be ∧ be < J2) := by have := HIV.out.1; omega
              generalize N.exprs[m] = E at *
              clear c0 hex hrd L hJ hJ1 hJ2
              go_upto_region 34 with fail
              go_region_held3 (fun W => W.cell? ⟨ge, m, none⟩ = some (.slice xE E.length yE) ∧ W.cell? ⟨w1.heap.size + 1, 3, none⟩ = some (.slice (some ⟨be, oe, none⟩) N.exprs.length ce) ∧ W.cell? ⟨be, oe + m, none⟩ = some (.slice aE E.length cE))
                ((go_split_ands; refine ⟨?_, ?_, ?_⟩ <;> first | (exact cell_only hon3 (by assumption) (by first | exact nG | exact nO | exact nE)) | (go_keep; done)))
                (first | (go_at_call 37; refine (spareTerms_any E _ _ _ J1 J2 HLE.out HEX.out HES.out).mono ?_; rintro e w3 ⟨rfl, hon3⟩))
              have HX3 : Hid (Box w3 ge cv 84) := HXe.out.drew.only hon3 nG
              have HO3 : Hid (Only (Upto ive ge (m + 1)) w2 w3) := Upto.only HOn2.out.drew hmi (by rw [HJ1.out, HJ2.out]; exact hon3)
              have hff := HX3.out.rules.2
              have hgl := HX3.out.lt
              obtain ⟨y0, hy0⟩ : ∃ y, w3.cell? ⟨ge, m, none⟩ = some y := ⟨cv[m]'(by have := HCS2.out; omega), by rw [HX3.out.rules.1]; simp⟩
              clear hon3 g0 f0 h2c h2l
              go_wp2_with fail
              go_roundw
              case rel =>
                refine ⟨m + 1, _, by omega, by first | rfl | simp, by go_num, HX3.out.set _ _, by simp; exact HCS2.out, fun j hj => ?_, HO3.out.setCell (.inl rfl) _⟩
                rw [Array.getElem?_setIfInBounds, if_neg (by omega)]; exact HSM2.out j (by omega)
              case measure => simp [intOf]; omega
            · obtain ⟨h2c, h2f, h2s⟩ := HX2k.out.all
              go_wp2_with fail
              go_meet
              case rel => exact ⟨rfl, HOW2.out⟩
        case rest =>
          obtain ⟨rfl, hO3⟩ := hcut
          have hB2k : Below w0.heap.size w0 w2 := HBk.out.trans (HB2.out.mono (by have := HBk.out.size; omega))
          have HB3 : Hid (Below w0.heap.size w0 wc) := hB2k.trans (hO3.toBelow hB2k.size (fun b hb => by have := HIV.out.1; omega))
          have HO3 : Hid (Only (fun b => I1 ≤ b ∧ b < I2) w1 wc) := (Only.below HB2.out).trans (hO3.mono (fun b _ h => ⟨h.1, by have := HJS.out; omega⟩))
          have HX1c : Hid (Box wc w1.heap.size _ 71) := HX1.out.only hO3 (fun h => by have := HIV.out.2.1; have := HSW.out; have := HJS.out; omega)
          have HX2c : Hid (Box wc (w1.heap.size + 1) _ 71) := HX2.out.only hO3 (fun h => by have := HIV.out.2.1; have := HSW.out; have := HJS.out; omega)
          have HK3 : Hid (Lent _ _ _ _ _ _ _ _ _) := (HL1.out.only (S := fun _ => False) (Only.below HB2.out) (fun _ _ _ => id)).only hO3 (fun b h1 h2 h => by have := HJS.out; omega)
          have HP3 : Hid (Lent _ _ _ _ _ _ _ _ _) := (HL2.out.only (S := fun _ => False) (Only.below HB2.out) (fun _ _ _ => id)).only hO3 (fun b h1 h2 h => by have := HJS.out; omega)
          have HA3 : Hid (Lent _ _ _ _ _ _ _ _ _) := (HL3.out.only (S := fun _ => False) (Only.below HB2.out) (fun _ _ _ => id)).only hO3 (fun b h1 h2 h => by have := HJS.out; omega)
          clear hO3 hB2k HL1 HL2 HL3 HX1 HX2
          obtain ⟨h1c, h1f, h1s⟩ := HX1c.out.all
          obtain ⟨h2c, h2f, h2s⟩ := HX2c.out.all
          go_wp2_with fail
          refine (spareInts_any N.keys _ _ _ m0 m1 HK3.out (RSl.mono mono_RI64 (Keeps.of_below HB3.out) HND.out.keys) HNS.out.keys).mono ?_
          rintro e w4 ⟨rfl, ho4⟩
          have HB4 : Hid (Below w0.heap.size w0 w4) := HB3.out.trans (ho4.toBelow HB3.out.size (fun b hb => by have := HIV.out.1; have := HJS.out; omega))
          have HO4 : Hid (Only (fun b => I1 ≤ b ∧ b < I2) w1 w4) := HO3.out.trans (ho4.mono (fun b _ h => by have := HJS.out; exact ⟨by omega, by omega⟩))
          have HX1d : Hid (Box w4 w1.heap.size _ 71) := HX1c.out.only ho4 (fun h => by have := HIV.out.2.1; have := HSW.out; have := HJS.out; omega)
          have HX2d : Hid (Box w4 (w1.heap.size + 1) _ 71) := HX2c.out.only ho4 (fun h => by have := HIV.out.2.1; have := HSW.out; have := HJS.out; omega)
          have HP4 : Hid (Lent _ _ _ _ _ _ _ _ _) := HP3.out.only ho4 (fun b h1 h2 h => by have := HJS.out; omega)
          have HA4 : Hid (Lent _ _ _ _ _ _ _ _ _) := HA3.out.only ho4 (fun b h1 h2 h => by have := HJS.out; omega)
          clear ho4 h1c h1f h1s h2c h2f h2s HX1c HX2c HB3 HO3 HK3 HP3 HA3
          obtain ⟨h1c, h1f, h1s⟩ := HX1d.out.all
          obtain ⟨h2c, h2f, h2s⟩ := HX2d.out.all
          go_wp2_with fail
          refine (spareInts_any N.others _ _ _ m1 m2 HP4.out (RSl.mono mono_RI64 (Keeps.of_below HB4.out) HND.out.others) HNS.out.others).mono ?_
          rintro e w5 ⟨rfl, ho5⟩
          have HB5 : Hid (Below w0.heap.size w0 w5) := HB4.out.trans (ho5.toBelow HB4.out.size (fun b hb => by have := HIV.out.1; have := HJS.out; omega))
          have HO5 : Hid (Only (fun b => I1 ≤ b ∧ b < I2) w1 w5) := HO4.out.trans (ho5.mono (fun b _ h => by have := HJS.out; exact ⟨by omega, by omega⟩))
          have HX1e : Hid (Box w5 w1.heap.size _ 71) := HX1d.out.only ho5 (fun h => by have := HIV.out.2.1; have := HSW.out; have := HJS.out; omega)
          have HX2e : Hid (Box w5 (w1.heap.size + 1) _ 71) := HX2d.out.only ho5 (fun h => by have := HIV.out.2.1; have := HSW.out; have := HJS.out; omega)
          have HA5 : Hid (Lent _ _ _ _ _ _ _ _ _) := HA4.out.only ho5 (fun b h1 h2 h => by have := HJS.out; omega)
          clear ho5 h1c h1f h1s h2c h2f h2s HX1d HX2d HB4 HO4 HP4 HA4
          obtain ⟨h1c, h1f, h1s⟩ := HX1e.out.all
          obtain ⟨h2c, h2f, h2s⟩ := HX2e.out.all
          go_wp2_with fail
          refine (spareAggs_any N.aggs _ _ _ m2 I2 HA5.out (RSl.mono mono_RTy (Keeps.of_below HB5.out) HND.out.aggs) HNS.out.aggs).mono ?_
          rintro e w6 ⟨rfl, ho6⟩
          have HO6 : Hid (Only (fun b => I1 ≤ b ∧ b < I2) w1 w6) := HO5.out.trans (ho6.mono (fun b _ h => by have := HJS.out; exact ⟨by omega, by omega⟩))
          have HX6 : Hid (Box w6 gn cu 71) := HX.out.only HO6.out HIV.out.2.2
          have HO7 : Hid (Only (Upto ivn gn (k + 1)) wC w6) := Upto.only HOn.out hki (by rw [HI1.out, HI2.out]; exact HO6.out)
          clear ho6 h1c h1f h1s h2c h2f h2s HX1e HX2e HB5 HO5 HA5
          have hr := HX6.out.rules.1
          have hff := HX6.out.rules.2
          have hgl := HX6.out.lt
          have hle : (k + 1) * 7 ≤ capn * 7 := Nat.mul_le_mul_right _ (by omega)
          obtain ⟨y0, hy0⟩ : ∃ y, w6.cell? ⟨gn, k * 7, none⟩ = some y := ⟨cu[k * 7]'(by have := HCS.out; omega), by rw [hr]; simp⟩
          obtain ⟨y1, hy1⟩ : ∃ y, w6.cell? ⟨gn, k * 7 + 1, none⟩ = some y := ⟨cu[k * 7 + 1]'(by have := HCS.out; omega), by rw [hr]; simp⟩
          obtain ⟨y2, hy2⟩ : ∃ y, w6.cell? ⟨gn, k * 7 + 2, none⟩ = some y := ⟨cu[k * 7 + 2]'(by have := HCS.out; omega), by rw [hr]; simp⟩
          obtain ⟨y3, hy3⟩ : ∃ y, w6.cell? ⟨gn, k * 7 + 3, none⟩ = some y := ⟨cu[k * 7 + 3]'(by have := HCS.out; omega), by rw [hr]; simp⟩
          obtain ⟨y4, hy4⟩ : ∃ y, w6.cell? ⟨gn, k * 7 + 4, none⟩ = some y := ⟨cu[k * 7 + 4]'(by have := HCS.out; omega), by rw [hr]; simp⟩
          obtain ⟨y5, hy5⟩ : ∃ y, w6.cell? ⟨gn, k * 7 + 5, none⟩ = some y := ⟨cu[k * 7 + 5]'(by have := HCS.out; omega), by rw [hr]; simp⟩
          obtain ⟨y6, hy6⟩ : ∃ y, w6.cell? ⟨gn, k * 7 + 6, none⟩ = some y := ⟨cu[k * 7 + 6]'(by have := HCS.out; omega), by rw [hr]; simp⟩
          clear hr hle
          go_wp2_with fail
          go_roundw
          case rel =>
            refine ⟨k + 1, _, by omega, by first | rfl | simp, by go_num, (((((((HX6.out.set _ _).set _ _).set _ _).set _ _).set _ _).set _ _).set _ _), by simp; exact HCS.out, fun j hj => ?_, (((((((HO7.out.setCell (.inl rfl) _).setCell (.inl rfl) _).setCell (.inl rfl) _).setCell (.inl rfl) _).setCell (.inl rfl) _).setCell (.inl rfl) _).setCell (.inl rfl) _)⟩
            simp only [Array.getElem?_setIfInBounds]
            repeat rw [if_neg (by omega)]
            exact HSM.out j (by omega)
          case measure => simp [intOf]; omega
      · have hkt : k = ns.length := by omega
        subst hkt
        go_wp2_with fail
        go_ret
        exact ⟨rfl, ((HOw.out.mono (fun b _ h => ⟨h.1, by omega⟩)).trans (HOW.out.mono (fun b _ h => ⟨by omega, h.2⟩)))⟩

end Go.Proofs.YtekkicgbloidkaaGreatDoor
