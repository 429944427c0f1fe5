/- Flags are turned. -/
import Derived.Test.YtekkicgbloidkaaGreatDoorFlT
import Derived.Deep.DeepCutAuto
import Derived.Deep.CutBlock
import Derived.Deep.RegionLaw
import Derived.BigRegion
namespace Go.Proofs.YtekkicgbloidkaaGreatDoor
open Go Go.RowKit
attribute [local go_sem ↓] Go.wp_at_zero Go.wp_at_succ

/-- A list in a block of an interval, whatever it holds. -/
def Sh (T : TypeId) (w : World) (lo hi : Nat) (v : Value) : Prop :=
  v = .slice none 0 0 ∨ ∃ g n cap cur, v = .slice (some ⟨g, 0, none⟩) n cap ∧ lo ≤ g ∧ g < hi ∧ Box w g cur T ∧ n ≤ cap ∧ cap ≤ 9223372036854775807 ∧ cur.size = cap * 1
theorem Mk.sh {T : TypeId} {w : World} {lo hi : Nat} {v : Value} {xs : List Value} (h : Mk T 1 w lo hi v xs) : Sh T w lo hi v := by
  rcases h with h | ⟨g, n, cap, cur, hv, h1, h2, hb, h3, h4, h5, -⟩
  · exact .inl h
  · exact .inr ⟨g, n, cap, cur, hv, h1, h2, hb, h3, h4, h5⟩
theorem Sh.set {T : TypeId} {w : World} {lo hi : Nat} {v : Value} (h : Sh T w lo hi v) (b j : Nat) (x : Value) : Sh T (w.setCell ⟨b, j, none⟩ x) lo hi v := by
  rcases h with h | ⟨g, n, cap, cur, hv, h1, h2, hb, h3, h4, h5⟩
  · exact .inl h
  · by_cases e : g = b
    · subst e
      exact .inr ⟨g, n, cap, _, hv, h1, h2, hb.set j x, h3, h4, by simpa using h5⟩
    · exact .inr ⟨g, n, cap, cur, hv, h1, h2, hb.set_ne e x, h3, h4, h5⟩
theorem Sh.mk {T : TypeId} {w : World} {lo hi : Nat} {a : Option Addr} {n c : Nat} {x : Value} (h : Sh T w lo hi (.slice a n c)) (hc : ∀ j, j < n → ∃ g, a = some ⟨g, 0, none⟩ ∧ w.cell? ⟨g, j, none⟩ = some x) : Mk T 1 w lo hi (.slice a n c) [x] := by
  rcases h with h | ⟨g, n', cap, cur, hv, h1, h2, hb, h3, h4, h5⟩
  · exact .inl h
  · simp only [Value.slice.injEq] at hv
    obtain ⟨rfl, rfl, rfl⟩ := hv
    refine .inr ⟨g, n, c, cur, rfl, h1, h2, hb, h3, h4, h5, fun j i u hj hu hi => ?_⟩
    have hi0 : i = 0 := by omega
    subst hi0
    simp at hu
    subst hu
    obtain ⟨g', e, hcell⟩ := hc j hj
    simp only [Option.some.injEq, Addr.mk.injEq, and_true] at e
    subst e
    rw [hb.rules.1] at hcell
    simpa using hcell

set_option maxRecDepth 20000 in
set_option maxHeartbeats 16000000 in
theorem turn_any {av : Nat → Prop} {B : Nat} {w : World} {bk : Nat} {vN vW vC vP vF : Value} {nN nW nC nP : Nat} {fl : List Nat} (h : Book av B w bk vN vW vC vP vF nN nW nC nP fl) (hBs : B ≤ w.heap.size) (hn : fl.length ≤ 1000000000) (tb : Nat) (htb : tb < 10) :
    Calls Tryz.prog 24 #[.pointer (some ⟨bk, 0, none⟩), .int .i64 tb] w fun e w' => e = .returned (.tuple #[]) ∧ (∃ fl', fl'.length = fl.length ∧ Book av B w' bk vN vW vC vP vF nN nW nC nP fl') ∧ Below B w w' := by
  obtain ⟨aF, cF, hvF⟩ := h.flags.shape
  subst hvF
  have HK : Hid (Book av B w bk vN vW vC vP (.slice aF fl.length cF) nN nW nC nP fl) := h
  clear h
  go_enter Tryz.func24, Tryz.ntmps24
  go_wp2_with fail
  go_loopw [4] (fun i W => ∃ (k : Nat) (fl' : List Nat), k ≤ fl.length ∧ i = .int .i64 k ∧ fl'.length = fl.length ∧ Book av B W bk vN vW vC vP (.slice aF fl.length cF) nN nW nC nP fl' ∧ Below B w W) (fun i _ => fl.length - (intOf i).toNat)
  case atStart => exact ⟨0, fl, Nat.zero_le _, rfl, rfl, HK.out, Below.refl _ _⟩
  case round =>
    obtain ⟨k, fl', hk, rfl, hfl, hbk, hB⟩ := hrel
    have HFL : Hid (fl'.length = fl.length) := hfl
    have HKr : Hid (Book av B wr bk vN vW vC vP (.slice aF fl.length cF) nN nW nC nP fl') := hbk
    have HB : Hid (Below B w wr) := hB
    obtain ⟨x1, x2, x3⟩ := hbk.box.all
    clear hfl hbk hB
    by_cases hlt : k < fl.length
    · obtain ⟨xs, ivs, hrow, hl, hiv, -⟩ := HKr.out.flags
      rw [HFL.out] at hrow
      obtain ⟨g, c', hv, hgB, hg⟩ := World.ownsRow.form hrow (by omega)
      simp only [Value.slice.injEq, true_and] at hv
      obtain ⟨rfl, rfl⟩ := hv
      have hk' : k < fl'.length := by rw [HFL.out]; exact hlt
      have hki : k < ivs.length := by rw [hl.leni]; exact hk'
      obtain ⟨v0, v1, v2, v3, r0, r1, r2, r3, r4, m0, m1, m2, m3⟩ := hl.each k hk' hki
      simp only [Nat.add_zero] at r0
      obtain ⟨b0, n0, c0, rfl⟩ := m0.shape
      obtain ⟨b1, n1, c1, rfl⟩ := m1.shape
      obtain ⟨b2, n2, c2, rfl⟩ := m2.shape
      obtain ⟨b3, n3, c3, rfl⟩ := m3.shape
      have e0 := owns_cell hrow _ _ r0
      have e1 := owns_cell hrow _ _ r1
      have e2 := owns_cell hrow _ _ r2
      have e3 := owns_cell hrow _ _ r3
      have e4 := owns_cell hrow _ _ r4
      have HROW : Hid (wr.ownsRow B 120 5 (.slice (some ⟨g, 0, none⟩) fl.length cF) fl.length xs) := hrow
      have HL : Hid (LList 5 (PEnt 4 1 XFlag) wr xs fl' ivs) := hl
      have HIV : Hid (∀ iv ∈ ivs, B ≤ iv.1 ∧ iv.2 ≤ wr.heap.size) := hiv
      have HM0 : Hid (Mk 4 1 wr ivs[k].1 ivs[k].2 (.slice b0 n0 c0) (XFlag fl'[k])) := m0
      have HM1 : Hid (Mk 4 1 wr ivs[k].1 ivs[k].2 (.slice b1 n1 c1) (XFlag fl'[k])) := m1
      have HM2 : Hid (Mk 4 1 wr ivs[k].1 ivs[k].2 (.slice b2 n2 c2) (XFlag fl'[k])) := m2
      have HM3 : Hid (Mk 4 1 wr ivs[k].1 ivs[k].2 (.slice b3 n3 c3) (XFlag fl'[k])) := m3
      have hi1 : (k : Int) < (fl.length : Int) := by omega
      have hi0 : (0 : Int) ≤ (k : Int) := by omega
      clear m0 m1 m2 m3 hrow hl hiv r4
      go_upto_region 4 with fail
      obtain ⟨M, hM1, hMe⟩ : ∃ M : Nat, M ≤ 1 ∧ ((k : Int) / 2 ^ tb).tmod 2 = (M : Int) := by
        have h0 : (0 : Int) ≤ (k : Int) / 2 ^ tb := Int.ediv_nonneg (by omega) (Int.le_of_lt (Int.pow_pos (by omega)))
        generalize (k : Int) / 2 ^ tb = D at h0 ⊢
        rw [Int.tmod_eq_emod_of_nonneg h0]
        exact ⟨(D % 2).toNat, by omega, by omega⟩
      rw [hMe]
      have hMb : ((M : Int) == 0) = decide (M = 0) := by
        rcases Nat.le_one_iff_eq_zero_or_eq_one.1 hM1 with rfl | rfl <;> rfl
      have HME : Hid _ := hMe
      have HSB : Hid (∀ b, (ivs[k].1 ≤ b ∧ b < ivs[k].2 ∧ ∃ cb, Box wr b cb 4) → ∃ cb, Box wr b cb 4) := fun b h => h.2.2
      have HOn : Hid (Only (fun b => ivs[k].1 ≤ b ∧ b < ivs[k].2 ∧ ∃ cb, Box wr b cb 4) wr wr) := Only.refl _ _
      have HS0 : Hid (Sh 4 wr ivs[k].1 ivs[k].2 (.slice b0 n0 c0)) := HM0.out.sh
      have O0 : Hid (Sh 4 wr ivs[k].1 ivs[k].2 (.slice b0 n0 c0)) := HM0.out.sh
      have HS1 : Hid (Sh 4 wr ivs[k].1 ivs[k].2 (.slice b1 n1 c1)) := HM1.out.sh
      have O1 : Hid (Sh 4 wr ivs[k].1 ivs[k].2 (.slice b1 n1 c1)) := HM1.out.sh
      have HS2 : Hid (Sh 4 wr ivs[k].1 ivs[k].2 (.slice b2 n2 c2)) := HM2.out.sh
      have O2 : Hid (Sh 4 wr ivs[k].1 ivs[k].2 (.slice b2 n2 c2)) := HM2.out.sh
      have HS3 : Hid (Sh 4 wr ivs[k].1 ivs[k].2 (.slice b3 n3 c3)) := HM3.out.sh
      have O3 : Hid (Sh 4 wr ivs[k].1 ivs[k].2 (.slice b3 n3 c3)) := HM3.out.sh
      clear hMe HM0 HM1 HM2 HM3
      obtain ⟨wR, rfl⟩ : ∃ x : World, x = wr := ⟨wr, rfl⟩
      have q1 : wR.cell? ⟨bk, 4, none⟩ = some (.slice (some ⟨g, 0, none⟩) fl.length cF) := cell_only HOn.out (x1 4) (fun h => by obtain ⟨cb, hb⟩ := h.2.2; exact (HKr.out.box.ne hb (by decide)) rfl)
      have q2 : wR.cell? ⟨g, k * 5 + 3, none⟩ = some (.slice b3 n3 c3) := cell_only HOn.out e3 (fun h => by obtain ⟨cb, hb⟩ := h.2.2; obtain ⟨cu, hcu⟩ := owns_box HROW.out; exact (hcu.ne hb (by decide)) rfl)
      have q3 := cell_lt q1
      have q4 := cell_lt q2
      go_upto_block 2 with fail
      clear q1 q2 q3 q4
      go_cut [] (fun W => Only (fun b => ivs[k].1 ≤ b ∧ b < ivs[k].2 ∧ ∃ cb, Box wR b cb 4) wR W ∧ Sh 4 W ivs[k].1 ivs[k].2 (.slice b0 n0 c0) ∧ Sh 4 W ivs[k].1 ivs[k].2 (.slice b1 n1 c1) ∧ Sh 4 W ivs[k].1 ivs[k].2 (.slice b2 n2 c2) ∧ Sh 4 W ivs[k].1 ivs[k].2 (.slice b3 n3 c3) ∧ Mk 4 1 W ivs[k].1 ivs[k].2 (.slice b3 n3 c3) [.bool (decide (M = 0))])
      case first =>
        go_wp2_with fail
        go_loopw [7] (fun i W => ∃ k2 : Nat, k2 ≤ n3 ∧ i = .int .i64 k2 ∧ (∀ j, j < k2 → ∃ g', b3 = some ⟨g', 0, none⟩ ∧ W.cell? ⟨g', j, none⟩ = some (.bool (decide (M = 0)))) ∧ Only (fun b => ivs[k].1 ≤ b ∧ b < ivs[k].2 ∧ ∃ cb, Box wR b cb 4) wR W ∧ Sh 4 W ivs[k].1 ivs[k].2 (.slice b0 n0 c0) ∧ Sh 4 W ivs[k].1 ivs[k].2 (.slice b1 n1 c1) ∧ Sh 4 W ivs[k].1 ivs[k].2 (.slice b2 n2 c2) ∧ Sh 4 W ivs[k].1 ivs[k].2 (.slice b3 n3 c3)) (fun i _ => n3 - (intOf i).toNat)
        case atStart => exact ⟨0, Nat.zero_le _, rfl, fun j h => absurd h (Nat.not_lt_zero _), HOn.out, HS0.out, HS1.out, HS2.out, HS3.out⟩
        case round =>
          obtain ⟨k2, hk2, rfl, hcl, hon, s0, s1, s2, s3⟩ := hrel
          have HCL : Hid (∀ j, j < k2 → ∃ g', b3 = some ⟨g', 0, none⟩ ∧ wr.cell? ⟨g', j, none⟩ = some (.bool (decide (M = 0)))) := hcl
          have HOn2 : Hid (Only (fun b => ivs[k].1 ≤ b ∧ b < ivs[k].2 ∧ ∃ cb, Box wR b cb 4) wR wr) := hon
          have T0 : Hid (Sh _ _ _ _ _) := s0
          have T1 : Hid (Sh _ _ _ _ _) := s1
          have T2 : Hid (Sh _ _ _ _ _) := s2
          have T3 : Hid (Sh _ _ _ _ _) := s3
          clear hcl hon s0 s1 s2 s3 
          by_cases hlt2 : k2 < n3
          · rcases O3.out with h0 | ⟨gx, nx, cx, cux, hvx, gx1, gx2, hbx, -, -, -⟩
            · simp only [Value.slice.injEq] at h0; omega
            rcases T3.out with h0 | ⟨gq, nq, cq, cuq, hvq, gq1, gq2, hbq, hnc, hcm, hsz⟩
            · simp only [Value.slice.injEq] at h0; omega
            simp only [Value.slice.injEq] at hvx hvq
            obtain ⟨rfl, rfl, rfl⟩ := hvq
            obtain ⟨hgx, -, -⟩ := hvx
            simp only [Option.some.injEq, Addr.mk.injEq, and_true] at hgx
            subst hgx
            have HIN : Hid (ivs[k].1 ≤ gq ∧ gq < ivs[k].2 ∧ ∃ cb, Box wR gq cb 4) := ⟨gq1, gq2, cux, hbx⟩
            obtain ⟨y0, hy0⟩ : ∃ y, wr.cell? ⟨gq, k2, none⟩ = some y := ⟨cuq[k2]'(by omega), by rw [hbq.rules.1]; simp⟩
            have hff := hbq.rules.2
            have hgl := hbq.lt
            have hj1 : (k2 : Int) < (n3 : Int) := by omega
            have hn63 : n3 ≤ 9223372036854775807 := by omega
            have HCN : Hid (∀ j, j < k2 + 1 → ∃ g', (some ⟨gq, 0, none⟩ : Option Addr) = some ⟨g', 0, none⟩ ∧ (wr.setCell ⟨gq, k2, none⟩ (.bool (decide (M = 0)))).cell? ⟨g', j, none⟩ = some (.bool (decide (M = 0)))) := fun j hj => by
              refine ⟨gq, rfl, ?_⟩
              rw [(hbq.set k2 (.bool (decide (M = 0)))).rules.1, Array.getElem?_setIfInBounds]
              by_cases e : k2 = j
              · subst e; rw [if_pos rfl, if_pos (by omega)]
              · rw [if_neg e]
                obtain ⟨g', e', hc⟩ := HCL.out j (by omega)
                simp only [Option.some.injEq, Addr.mk.injEq, and_true] at e'
                subst e'
                rw [hbq.rules.1] at hc; exact hc
            clear hbq hsz hnc hbx
            go_wp2_with fail
            go_roundw
            case rel => exact ⟨k2 + 1, by omega, by go_num, HCN.out, HOn2.out.setCell (p := ⟨gq, k2, none⟩) HIN.out _, T0.out.set _ _ _, T1.out.set _ _ _, T2.out.set _ _ _, T3.out.set _ _ _⟩
            case measure => simp [intOf]; omega
          · have hkk : k2 = n3 := by omega
            subst hkk
            go_wp2_with fail
            go_meet
            case rel => exact ⟨HOn2.out, T0.out, T1.out, T2.out, T3.out, T3.out.mk HCL.out⟩
      case rest =>
        obtain ⟨hon, s0, s1, s2, s3, d3⟩ := hcut
        obtain ⟨wS, rfl⟩ : ∃ x : World, x = wc := ⟨wc, rfl⟩
        clear HOn 
        have HOn : Hid (Only (fun b => ivs[k].1 ≤ b ∧ b < ivs[k].2 ∧ ∃ cb, Box wR b cb 4) wR wS) := hon
        have HT0 : Hid (Sh 4 wS ivs[k].1 ivs[k].2 (.slice b0 n0 c0)) := s0
        have HT1 : Hid (Sh 4 wS ivs[k].1 ivs[k].2 (.slice b1 n1 c1)) := s1
        have HT2 : Hid (Sh 4 wS ivs[k].1 ivs[k].2 (.slice b2 n2 c2)) := s2
        have HT3 : Hid (Sh 4 wS ivs[k].1 ivs[k].2 (.slice b3 n3 c3)) := s3
        clear HS0 HS1 HS2 HS3 hon s0 s1 s2 s3
        have HS0 := HT0
        have HS1 := HT1
        have HS2 := HT2
        have HS3 := HT3
        clear HT0 HT1 HT2 HT3
        have D3 : Hid (Mk 4 1 wS ivs[k].1 ivs[k].2 (.slice b3 n3 c3) [.bool (decide (M = 0))]) := d3
        clear d3
        have q1 : wS.cell? ⟨bk, 4, none⟩ = some (.slice (some ⟨g, 0, none⟩) fl.length cF) := cell_only HOn.out (x1 4) (fun h => by obtain ⟨cb, hb⟩ := h.2.2; exact (HKr.out.box.ne hb (by decide)) rfl)
        have q2 : wS.cell? ⟨g, k * 5 + 2, none⟩ = some (.slice b2 n2 c2) := cell_only HOn.out e2 (fun h => by obtain ⟨cb, hb⟩ := h.2.2; obtain ⟨cu, hcu⟩ := owns_box HROW.out; exact (hcu.ne hb (by decide)) rfl)
        have q3 := cell_lt q1
        have q4 := cell_lt q2
        go_upto_block 4 with fail
        clear q1 q2 q3 q4
        go_cut [] (fun W => Only (fun b => ivs[k].1 ≤ b ∧ b < ivs[k].2 ∧ ∃ cb, Box wR b cb 4) wR W ∧ Sh 4 W ivs[k].1 ivs[k].2 (.slice b0 n0 c0) ∧ Sh 4 W ivs[k].1 ivs[k].2 (.slice b1 n1 c1) ∧ Sh 4 W ivs[k].1 ivs[k].2 (.slice b2 n2 c2) ∧ Sh 4 W ivs[k].1 ivs[k].2 (.slice b3 n3 c3) ∧ Mk 4 1 W ivs[k].1 ivs[k].2 (.slice b3 n3 c3) [.bool (decide (M = 0))] ∧ Mk 4 1 W ivs[k].1 ivs[k].2 (.slice b2 n2 c2) [.bool (decide (M = 0))])
        case first =>
          go_wp2_with fail
          go_loopw [8] (fun i W => ∃ k2 : Nat, k2 ≤ n2 ∧ i = .int .i64 k2 ∧ (∀ j, j < k2 → ∃ g', b2 = some ⟨g', 0, none⟩ ∧ W.cell? ⟨g', j, none⟩ = some (.bool (decide (M = 0)))) ∧ Only (fun b => ivs[k].1 ≤ b ∧ b < ivs[k].2 ∧ ∃ cb, Box wR b cb 4) wR W ∧ Sh 4 W ivs[k].1 ivs[k].2 (.slice b0 n0 c0) ∧ Sh 4 W ivs[k].1 ivs[k].2 (.slice b1 n1 c1) ∧ Sh 4 W ivs[k].1 ivs[k].2 (.slice b2 n2 c2) ∧ Sh 4 W ivs[k].1 ivs[k].2 (.slice b3 n3 c3) ∧ Mk 4 1 W ivs[k].1 ivs[k].2 (.slice b3 n3 c3) [.bool (decide (M = 0))]) (fun i _ => n2 - (intOf i).toNat)
          case atStart => exact ⟨0, Nat.zero_le _, rfl, fun j h => absurd h (Nat.not_lt_zero _), HOn.out, HS0.out, HS1.out, HS2.out, HS3.out, D3.out⟩
          case round =>
            obtain ⟨k2, hk2, rfl, hcl, hon, s0, s1, s2, s3, d3⟩ := hrel
            have HCL : Hid (∀ j, j < k2 → ∃ g', b2 = some ⟨g', 0, none⟩ ∧ wr.cell? ⟨g', j, none⟩ = some (.bool (decide (M = 0)))) := hcl
            have HOn2 : Hid (Only (fun b => ivs[k].1 ≤ b ∧ b < ivs[k].2 ∧ ∃ cb, Box wR b cb 4) wR wr) := hon
            have T0 : Hid (Sh _ _ _ _ _) := s0
            have T1 : Hid (Sh _ _ _ _ _) := s1
            have T2 : Hid (Sh _ _ _ _ _) := s2
            have T3 : Hid (Sh _ _ _ _ _) := s3
            have D3 : Hid (Mk 4 1 wr ivs[k].1 ivs[k].2 (.slice b3 n3 c3) [.bool (decide (M = 0))]) := d3
            clear hcl hon s0 s1 s2 s3 d3
            by_cases hlt2 : k2 < n2
            · rcases O2.out with h0 | ⟨gx, nx, cx, cux, hvx, gx1, gx2, hbx, -, -, -⟩
              · simp only [Value.slice.injEq] at h0; omega
              rcases T2.out with h0 | ⟨gq, nq, cq, cuq, hvq, gq1, gq2, hbq, hnc, hcm, hsz⟩
              · simp only [Value.slice.injEq] at h0; omega
              simp only [Value.slice.injEq] at hvx hvq
              obtain ⟨rfl, rfl, rfl⟩ := hvq
              obtain ⟨hgx, -, -⟩ := hvx
              simp only [Option.some.injEq, Addr.mk.injEq, and_true] at hgx
              subst hgx
              have HIN : Hid (ivs[k].1 ≤ gq ∧ gq < ivs[k].2 ∧ ∃ cb, Box wR gq cb 4) := ⟨gq1, gq2, cux, hbx⟩
              obtain ⟨y0, hy0⟩ : ∃ y, wr.cell? ⟨gq, k2, none⟩ = some y := ⟨cuq[k2]'(by omega), by rw [hbq.rules.1]; simp⟩
              have hff := hbq.rules.2
              have hgl := hbq.lt
              have hj1 : (k2 : Int) < (n2 : Int) := by omega
              have hn63 : n2 ≤ 9223372036854775807 := by omega
              have HCN : Hid (∀ j, j < k2 + 1 → ∃ g', (some ⟨gq, 0, none⟩ : Option Addr) = some ⟨g', 0, none⟩ ∧ (wr.setCell ⟨gq, k2, none⟩ (.bool (decide (M = 0)))).cell? ⟨g', j, none⟩ = some (.bool (decide (M = 0)))) := fun j hj => by
                refine ⟨gq, rfl, ?_⟩
                rw [(hbq.set k2 (.bool (decide (M = 0)))).rules.1, Array.getElem?_setIfInBounds]
                by_cases e : k2 = j
                · subst e; rw [if_pos rfl, if_pos (by omega)]
                · rw [if_neg e]
                  obtain ⟨g', e', hc⟩ := HCL.out j (by omega)
                  simp only [Option.some.injEq, Addr.mk.injEq, and_true] at e'
                  subst e'
                  rw [hbq.rules.1] at hc; exact hc
              clear hbq hsz hnc hbx
              go_wp2_with fail
              go_roundw
              case rel => exact ⟨k2 + 1, by omega, by go_num, HCN.out, HOn2.out.setCell (p := ⟨gq, k2, none⟩) HIN.out _, T0.out.set _ _ _, T1.out.set _ _ _, T2.out.set _ _ _, T3.out.set _ _ _, D3.out.again⟩
              case measure => simp [intOf]; omega
            · have hkk : k2 = n2 := by omega
              subst hkk
              go_wp2_with fail
              go_meet
              case rel => exact ⟨HOn2.out, T0.out, T1.out, T2.out, T3.out, D3.out, T2.out.mk HCL.out⟩
        case rest =>
          obtain ⟨hon, s0, s1, s2, s3, d3, d2⟩ := hcut
          obtain ⟨wT, rfl⟩ : ∃ x : World, x = wc := ⟨wc, rfl⟩
          clear HOn D3
          have HOn : Hid (Only (fun b => ivs[k].1 ≤ b ∧ b < ivs[k].2 ∧ ∃ cb, Box wR b cb 4) wR wT) := hon
          have HT0 : Hid (Sh 4 wT ivs[k].1 ivs[k].2 (.slice b0 n0 c0)) := s0
          have HT1 : Hid (Sh 4 wT ivs[k].1 ivs[k].2 (.slice b1 n1 c1)) := s1
          have HT2 : Hid (Sh 4 wT ivs[k].1 ivs[k].2 (.slice b2 n2 c2)) := s2
          have HT3 : Hid (Sh 4 wT ivs[k].1 ivs[k].2 (.slice b3 n3 c3)) := s3
          clear HS0 HS1 HS2 HS3 hon s0 s1 s2 s3
          have HS0 := HT0
          have HS1 := HT1
          have HS2 := HT2
          have HS3 := HT3
          clear HT0 HT1 HT2 HT3
          have D3 : Hid (Mk 4 1 wT ivs[k].1 ivs[k].2 (.slice b3 n3 c3) [.bool (decide (M = 0))]) := d3
          have D2 : Hid (Mk 4 1 wT ivs[k].1 ivs[k].2 (.slice b2 n2 c2) [.bool (decide (M = 0))]) := d2
          clear d3 d2
          have q1 : wT.cell? ⟨bk, 4, none⟩ = some (.slice (some ⟨g, 0, none⟩) fl.length cF) := cell_only HOn.out (x1 4) (fun h => by obtain ⟨cb, hb⟩ := h.2.2; exact (HKr.out.box.ne hb (by decide)) rfl)
          have q2 : wT.cell? ⟨g, k * 5 + 1, none⟩ = some (.slice b1 n1 c1) := cell_only HOn.out e1 (fun h => by obtain ⟨cb, hb⟩ := h.2.2; obtain ⟨cu, hcu⟩ := owns_box HROW.out; exact (hcu.ne hb (by decide)) rfl)
          have q3 := cell_lt q1
          have q4 := cell_lt q2
          go_upto_block 6 with fail
          clear q1 q2 q3 q4
          go_cut [] (fun W => Only (fun b => ivs[k].1 ≤ b ∧ b < ivs[k].2 ∧ ∃ cb, Box wR b cb 4) wR W ∧ Sh 4 W ivs[k].1 ivs[k].2 (.slice b0 n0 c0) ∧ Sh 4 W ivs[k].1 ivs[k].2 (.slice b1 n1 c1) ∧ Sh 4 W ivs[k].1 ivs[k].2 (.slice b2 n2 c2) ∧ Sh 4 W ivs[k].1 ivs[k].2 (.slice b3 n3 c3) ∧ Mk 4 1 W ivs[k].1 ivs[k].2 (.slice b3 n3 c3) [.bool (decide (M = 0))] ∧ Mk 4 1 W ivs[k].1 ivs[k].2 (.slice b2 n2 c2) [.bool (decide (M = 0))] ∧ Mk 4 1 W ivs[k].1 ivs[k].2 (.slice b1 n1 c1) [.bool (decide (M = 0))])
          case first =>
            go_wp2_with fail
            go_loopw [9] (fun i W => ∃ k2 : Nat, k2 ≤ n1 ∧ i = .int .i64 k2 ∧ (∀ j, j < k2 → ∃ g', b1 = some ⟨g', 0, none⟩ ∧ W.cell? ⟨g', j, none⟩ = some (.bool (decide (M = 0)))) ∧ Only (fun b => ivs[k].1 ≤ b ∧ b < ivs[k].2 ∧ ∃ cb, Box wR b cb 4) wR W ∧ Sh 4 W ivs[k].1 ivs[k].2 (.slice b0 n0 c0) ∧ Sh 4 W ivs[k].1 ivs[k].2 (.slice b1 n1 c1) ∧ Sh 4 W ivs[k].1 ivs[k].2 (.slice b2 n2 c2) ∧ Sh 4 W ivs[k].1 ivs[k].2 (.slice b3 n3 c3) ∧ Mk 4 1 W ivs[k].1 ivs[k].2 (.slice b3 n3 c3) [.bool (decide (M = 0))] ∧ Mk 4 1 W ivs[k].1 ivs[k].2 (.slice b2 n2 c2) [.bool (decide (M = 0))]) (fun i _ => n1 - (intOf i).toNat)
            case atStart => exact ⟨0, Nat.zero_le _, rfl, fun j h => absurd h (Nat.not_lt_zero _), HOn.out, HS0.out, HS1.out, HS2.out, HS3.out, D3.out, D2.out⟩
            case round =>
              obtain ⟨k2, hk2, rfl, hcl, hon, s0, s1, s2, s3, d3, d2⟩ := hrel
              have HCL : Hid (∀ j, j < k2 → ∃ g', b1 = some ⟨g', 0, none⟩ ∧ wr.cell? ⟨g', j, none⟩ = some (.bool (decide (M = 0)))) := hcl
              have HOn2 : Hid (Only (fun b => ivs[k].1 ≤ b ∧ b < ivs[k].2 ∧ ∃ cb, Box wR b cb 4) wR wr) := hon
              have T0 : Hid (Sh _ _ _ _ _) := s0
              have T1 : Hid (Sh _ _ _ _ _) := s1
              have T2 : Hid (Sh _ _ _ _ _) := s2
              have T3 : Hid (Sh _ _ _ _ _) := s3
              have D3 : Hid (Mk 4 1 wr ivs[k].1 ivs[k].2 (.slice b3 n3 c3) [.bool (decide (M = 0))]) := d3
              have D2 : Hid (Mk 4 1 wr ivs[k].1 ivs[k].2 (.slice b2 n2 c2) [.bool (decide (M = 0))]) := d2
              clear hcl hon s0 s1 s2 s3 d3 d2
              by_cases hlt2 : k2 < n1
              · rcases O1.out with h0 | ⟨gx, nx, cx, cux, hvx, gx1, gx2, hbx, -, -, -⟩
                · simp only [Value.slice.injEq] at h0; omega
                rcases T1.out with h0 | ⟨gq, nq, cq, cuq, hvq, gq1, gq2, hbq, hnc, hcm, hsz⟩
                · simp only [Value.slice.injEq] at h0; omega
                simp only [Value.slice.injEq] at hvx hvq
                obtain ⟨rfl, rfl, rfl⟩ := hvq
                obtain ⟨hgx, -, -⟩ := hvx
                simp only [Option.some.injEq, Addr.mk.injEq, and_true] at hgx
                subst hgx
                have HIN : Hid (ivs[k].1 ≤ gq ∧ gq < ivs[k].2 ∧ ∃ cb, Box wR gq cb 4) := ⟨gq1, gq2, cux, hbx⟩
                obtain ⟨y0, hy0⟩ : ∃ y, wr.cell? ⟨gq, k2, none⟩ = some y := ⟨cuq[k2]'(by omega), by rw [hbq.rules.1]; simp⟩
                have hff := hbq.rules.2
                have hgl := hbq.lt
                have hj1 : (k2 : Int) < (n1 : Int) := by omega
                have hn63 : n1 ≤ 9223372036854775807 := by omega
                have HCN : Hid (∀ j, j < k2 + 1 → ∃ g', (some ⟨gq, 0, none⟩ : Option Addr) = some ⟨g', 0, none⟩ ∧ (wr.setCell ⟨gq, k2, none⟩ (.bool (decide (M = 0)))).cell? ⟨g', j, none⟩ = some (.bool (decide (M = 0)))) := fun j hj => by
                  refine ⟨gq, rfl, ?_⟩
                  rw [(hbq.set k2 (.bool (decide (M = 0)))).rules.1, Array.getElem?_setIfInBounds]
                  by_cases e : k2 = j
                  · subst e; rw [if_pos rfl, if_pos (by omega)]
                  · rw [if_neg e]
                    obtain ⟨g', e', hc⟩ := HCL.out j (by omega)
                    simp only [Option.some.injEq, Addr.mk.injEq, and_true] at e'
                    subst e'
                    rw [hbq.rules.1] at hc; exact hc
                clear hbq hsz hnc hbx
                go_wp2_with fail
                go_roundw
                case rel => exact ⟨k2 + 1, by omega, by go_num, HCN.out, HOn2.out.setCell (p := ⟨gq, k2, none⟩) HIN.out _, T0.out.set _ _ _, T1.out.set _ _ _, T2.out.set _ _ _, T3.out.set _ _ _, D3.out.again, D2.out.again⟩
                case measure => simp [intOf]; omega
              · have hkk : k2 = n1 := by omega
                subst hkk
                go_wp2_with fail
                go_meet
                case rel => exact ⟨HOn2.out, T0.out, T1.out, T2.out, T3.out, D3.out, D2.out, T1.out.mk HCL.out⟩
          case rest =>
            obtain ⟨hon, s0, s1, s2, s3, d3, d2, d1⟩ := hcut
            obtain ⟨wU, rfl⟩ : ∃ x : World, x = wc := ⟨wc, rfl⟩
            clear HOn D3 D2
            have HOn : Hid (Only (fun b => ivs[k].1 ≤ b ∧ b < ivs[k].2 ∧ ∃ cb, Box wR b cb 4) wR wU) := hon
            have HT0 : Hid (Sh 4 wU ivs[k].1 ivs[k].2 (.slice b0 n0 c0)) := s0
            have HT1 : Hid (Sh 4 wU ivs[k].1 ivs[k].2 (.slice b1 n1 c1)) := s1
            have HT2 : Hid (Sh 4 wU ivs[k].1 ivs[k].2 (.slice b2 n2 c2)) := s2
            have HT3 : Hid (Sh 4 wU ivs[k].1 ivs[k].2 (.slice b3 n3 c3)) := s3
            clear HS0 HS1 HS2 HS3 hon s0 s1 s2 s3
            have HS0 := HT0
            have HS1 := HT1
            have HS2 := HT2
            have HS3 := HT3
            clear HT0 HT1 HT2 HT3
            have D3 : Hid (Mk 4 1 wU ivs[k].1 ivs[k].2 (.slice b3 n3 c3) [.bool (decide (M = 0))]) := d3
            have D2 : Hid (Mk 4 1 wU ivs[k].1 ivs[k].2 (.slice b2 n2 c2) [.bool (decide (M = 0))]) := d2
            have D1 : Hid (Mk 4 1 wU ivs[k].1 ivs[k].2 (.slice b1 n1 c1) [.bool (decide (M = 0))]) := d1
            clear d3 d2 d1
            have q1 : wU.cell? ⟨bk, 4, none⟩ = some (.slice (some ⟨g, 0, none⟩) fl.length cF) := cell_only HOn.out (x1 4) (fun h => by obtain ⟨cb, hb⟩ := h.2.2; exact (HKr.out.box.ne hb (by decide)) rfl)
            have q2 : wU.cell? ⟨g, k * 5, none⟩ = some (.slice b0 n0 c0) := cell_only HOn.out e0 (fun h => by obtain ⟨cb, hb⟩ := h.2.2; obtain ⟨cu, hcu⟩ := owns_box HROW.out; exact (hcu.ne hb (by decide)) rfl)
            have q3 := cell_lt q1
            have q4 := cell_lt q2
            go_upto_block 8 with fail
            clear q1 q2 q3 q4
            go_cut [] (fun W => Only (fun b => ivs[k].1 ≤ b ∧ b < ivs[k].2 ∧ ∃ cb, Box wR b cb 4) wR W ∧ Sh 4 W ivs[k].1 ivs[k].2 (.slice b0 n0 c0) ∧ Sh 4 W ivs[k].1 ivs[k].2 (.slice b1 n1 c1) ∧ Sh 4 W ivs[k].1 ivs[k].2 (.slice b2 n2 c2) ∧ Sh 4 W ivs[k].1 ivs[k].2 (.slice b3 n3 c3) ∧ Mk 4 1 W ivs[k].1 ivs[k].2 (.slice b3 n3 c3) [.bool (decide (M = 0))] ∧ Mk 4 1 W ivs[k].1 ivs[k].2 (.slice b2 n2 c2) [.bool (decide (M = 0))] ∧ Mk 4 1 W ivs[k].1 ivs[k].2 (.slice b1 n1 c1) [.bool (decide (M = 0))] ∧ Mk 4 1 W ivs[k].1 ivs[k].2 (.slice b0 n0 c0) [.bool (decide (M = 0))])
            case first =>
              go_wp2_with fail
              go_loopw [10] (fun i W => ∃ k2 : Nat, k2 ≤ n0 ∧ i = .int .i64 k2 ∧ (∀ j, j < k2 → ∃ g', b0 = some ⟨g', 0, none⟩ ∧ W.cell? ⟨g', j, none⟩ = some (.bool (decide (M = 0)))) ∧ Only (fun b => ivs[k].1 ≤ b ∧ b < ivs[k].2 ∧ ∃ cb, Box wR b cb 4) wR W ∧ Sh 4 W ivs[k].1 ivs[k].2 (.slice b0 n0 c0) ∧ Sh 4 W ivs[k].1 ivs[k].2 (.slice b1 n1 c1) ∧ Sh 4 W ivs[k].1 ivs[k].2 (.slice b2 n2 c2) ∧ Sh 4 W ivs[k].1 ivs[k].2 (.slice b3 n3 c3) ∧ Mk 4 1 W ivs[k].1 ivs[k].2 (.slice b3 n3 c3) [.bool (decide (M = 0))] ∧ Mk 4 1 W ivs[k].1 ivs[k].2 (.slice b2 n2 c2) [.bool (decide (M = 0))] ∧ Mk 4 1 W ivs[k].1 ivs[k].2 (.slice b1 n1 c1) [.bool (decide (M = 0))]) (fun i _ => n0 - (intOf i).toNat)
              case atStart => exact ⟨0, Nat.zero_le _, rfl, fun j h => absurd h (Nat.not_lt_zero _), HOn.out, HS0.out, HS1.out, HS2.out, HS3.out, D3.out, D2.out, D1.out⟩
              case round =>
                obtain ⟨k2, hk2, rfl, hcl, hon, s0, s1, s2, s3, d3, d2, d1⟩ := hrel
                have HCL : Hid (∀ j, j < k2 → ∃ g', b0 = some ⟨g', 0, none⟩ ∧ wr.cell? ⟨g', j, none⟩ = some (.bool (decide (M = 0)))) := hcl
                have HOn2 : Hid (Only (fun b => ivs[k].1 ≤ b ∧ b < ivs[k].2 ∧ ∃ cb, Box wR b cb 4) wR wr) := hon
                have T0 : Hid (Sh _ _ _ _ _) := s0
                have T1 : Hid (Sh _ _ _ _ _) := s1
                have T2 : Hid (Sh _ _ _ _ _) := s2
                have T3 : Hid (Sh _ _ _ _ _) := s3
                have D3 : Hid (Mk 4 1 wr ivs[k].1 ivs[k].2 (.slice b3 n3 c3) [.bool (decide (M = 0))]) := d3
                have D2 : Hid (Mk 4 1 wr ivs[k].1 ivs[k].2 (.slice b2 n2 c2) [.bool (decide (M = 0))]) := d2
                have D1 : Hid (Mk 4 1 wr ivs[k].1 ivs[k].2 (.slice b1 n1 c1) [.bool (decide (M = 0))]) := d1
                clear hcl hon s0 s1 s2 s3 d3 d2 d1
                by_cases hlt2 : k2 < n0
                · rcases O0.out with h0 | ⟨gx, nx, cx, cux, hvx, gx1, gx2, hbx, -, -, -⟩
                  · simp only [Value.slice.injEq] at h0; omega
                  rcases T0.out with h0 | ⟨gq, nq, cq, cuq, hvq, gq1, gq2, hbq, hnc, hcm, hsz⟩
                  · simp only [Value.slice.injEq] at h0; omega
                  simp only [Value.slice.injEq] at hvx hvq
                  obtain ⟨rfl, rfl, rfl⟩ := hvq
                  obtain ⟨hgx, -, -⟩ := hvx
                  simp only [Option.some.injEq, Addr.mk.injEq, and_true] at hgx
                  subst hgx
                  have HIN : Hid (ivs[k].1 ≤ gq ∧ gq < ivs[k].2 ∧ ∃ cb, Box wR gq cb 4) := ⟨gq1, gq2, cux, hbx⟩
                  obtain ⟨y0, hy0⟩ : ∃ y, wr.cell? ⟨gq, k2, none⟩ = some y := ⟨cuq[k2]'(by omega), by rw [hbq.rules.1]; simp⟩
                  have hff := hbq.rules.2
                  have hgl := hbq.lt
                  have hj1 : (k2 : Int) < (n0 : Int) := by omega
                  have hn63 : n0 ≤ 9223372036854775807 := by omega
                  have HCN : Hid (∀ j, j < k2 + 1 → ∃ g', (some ⟨gq, 0, none⟩ : Option Addr) = some ⟨g', 0, none⟩ ∧ (wr.setCell ⟨gq, k2, none⟩ (.bool (decide (M = 0)))).cell? ⟨g', j, none⟩ = some (.bool (decide (M = 0)))) := fun j hj => by
                    refine ⟨gq, rfl, ?_⟩
                    rw [(hbq.set k2 (.bool (decide (M = 0)))).rules.1, Array.getElem?_setIfInBounds]
                    by_cases e : k2 = j
                    · subst e; rw [if_pos rfl, if_pos (by omega)]
                    · rw [if_neg e]
                      obtain ⟨g', e', hc⟩ := HCL.out j (by omega)
                      simp only [Option.some.injEq, Addr.mk.injEq, and_true] at e'
                      subst e'
                      rw [hbq.rules.1] at hc; exact hc
                  clear hbq hsz hnc hbx
                  go_wp2_with fail
                  go_roundw
                  case rel => exact ⟨k2 + 1, by omega, by go_num, HCN.out, HOn2.out.setCell (p := ⟨gq, k2, none⟩) HIN.out _, T0.out.set _ _ _, T1.out.set _ _ _, T2.out.set _ _ _, T3.out.set _ _ _, D3.out.again, D2.out.again, D1.out.again⟩
                  case measure => simp [intOf]; omega
                · have hkk : k2 = n0 := by omega
                  subst hkk
                  go_wp2_with fail
                  go_meet
                  case rel => exact ⟨HOn2.out, T0.out, T1.out, T2.out, T3.out, D3.out, D2.out, D1.out, T0.out.mk HCL.out⟩
            case rest =>
              obtain ⟨hon, s0, s1, s2, s3, d3, d2, d1, d0⟩ := hcut
              obtain ⟨wV, rfl⟩ : ∃ x : World, x = wc := ⟨wc, rfl⟩
              clear HOn D3 D2 D1
              have HOn : Hid (Only (fun b => ivs[k].1 ≤ b ∧ b < ivs[k].2 ∧ ∃ cb, Box wR b cb 4) wR wV) := hon
              have HT0 : Hid (Sh 4 wV ivs[k].1 ivs[k].2 (.slice b0 n0 c0)) := s0
              have HT1 : Hid (Sh 4 wV ivs[k].1 ivs[k].2 (.slice b1 n1 c1)) := s1
              have HT2 : Hid (Sh 4 wV ivs[k].1 ivs[k].2 (.slice b2 n2 c2)) := s2
              have HT3 : Hid (Sh 4 wV ivs[k].1 ivs[k].2 (.slice b3 n3 c3)) := s3
              clear HS0 HS1 HS2 HS3 hon s0 s1 s2 s3
              have HS0 := HT0
              have HS1 := HT1
              have HS2 := HT2
              have HS3 := HT3
              clear HT0 HT1 HT2 HT3
              have D3 : Hid (Mk 4 1 wV ivs[k].1 ivs[k].2 (.slice b3 n3 c3) [.bool (decide (M = 0))]) := d3
              have D2 : Hid (Mk 4 1 wV ivs[k].1 ivs[k].2 (.slice b2 n2 c2) [.bool (decide (M = 0))]) := d2
              have D1 : Hid (Mk 4 1 wV ivs[k].1 ivs[k].2 (.slice b1 n1 c1) [.bool (decide (M = 0))]) := d1
              have D0 : Hid (Mk 4 1 wV ivs[k].1 ivs[k].2 (.slice b0 n0 c0) [.bool (decide (M = 0))]) := d0
              clear d3 d2 d1 d0
              have q1 : wV.cell? ⟨bk, 4, none⟩ = some (.slice (some ⟨g, 0, none⟩) fl.length cF) := cell_only HOn.out (x1 4) (fun h => by obtain ⟨cb, hb⟩ := h.2.2; exact (HKr.out.box.ne hb (by decide)) rfl)
              have q2 : wV.cell? ⟨g, k * 5 + 4, none⟩ = some (.int .i64 (fl'[k] : Nat)) := cell_only HOn.out e4 (fun h => by obtain ⟨cb, hb⟩ := h.2.2; obtain ⟨cu, hcu⟩ := owns_box HROW.out; exact (hcu.ne hb (by decide)) rfl)
              have q3 := cell_lt q1
              have q4 := cell_lt q2
              obtain ⟨cuF, hcuF⟩ := owns_box (owns_typed HROW.out HOn.out HSB.out (by decide))
              have q5 := hcuF.rules.2
              have HNF : Hid (EntF B (wV.setCell ⟨g, k * 5 + 4, none⟩ (.int .i64 M)) (.slice (some ⟨g, 0, none⟩) fl.length cF) (fl'.set k M)) := by
                have h1 := HROW.out
                rw [← HFL.out] at h1
                have := EntF.turn h1 HL.out HIV.out hk' hki HOn.out r0 r1 r2 r3 D0.out D1.out D2.out D3.out
                rw [HFL.out] at this
                exact this
              have hset : Only (fun x => x = g) wV (wV.setCell ⟨g, k * 5 + 4, none⟩ (.int .i64 M)) := (Only.refl (fun x => x = g) wV).setCell (p := ⟨g, k * 5 + 4, none⟩) rfl _
              have HNB : Hid (Book av B (wV.setCell ⟨g, k * 5 + 4, none⟩ (.int .i64 M)) bk vN vW vC vP (.slice (some ⟨g, 0, none⟩) fl.length cF) nN nW nC nP (fl'.set k M)) := by
                refine ⟨HKr.out.bkge, (HKr.out.box.typed HOn.out HSB.out (by decide)).only hset ((HKr.out.box.typed HOn.out HSB.out (by decide)).ne hcuF (by decide)), (HKr.out.nums.typed HOn.out HSB.out (by decide) (by decide)).other hcuF (by decide) (by decide) hset, (HKr.out.words.typed HOn.out HSB.out (by decide) (by decide)).other hcuF (by decide) (by decide) hset, (HKr.out.cols.typed HOn.out HSB.out (by decide) (by decide)).other hcuF (by decide) (by decide) hset, (HKr.out.places.typed HOn.out HSB.out (by decide) (by decide)).other hcuF (by decide) (by decide) hset, HNF.out, fun m hm => ?_⟩
                rcases List.mem_or_eq_of_mem_set hm with h | h
                · exact HKr.out.two m h
                · omega
              have HBN : Hid (Below B w (wV.setCell ⟨g, k * 5 + 4, none⟩ (.int .i64 M))) := (HB.out.trans (HOn.out.toBelow (Nat.le_trans hBs HB.out.size) (fun b hb => Nat.le_trans (HIV.out _ (List.getElem_mem hki)).1 hb.1))).setCell hgB _
              clear hset hcuF
              go_wp2_with fail
              go_roundw
              case rel => exact ⟨k + 1, fl'.set k M, by omega, by go_num, by rw [List.length_set]; exact HFL.out, HNB.out, HBN.out⟩
              case measure => simp [intOf]; omega
    · go_wp2_with fail
      go_end0
      exact ⟨rfl, ⟨fl', HFL.out, HKr.out⟩, HB.out⟩

end Go.Proofs.YtekkicgbloidkaaGreatDoor
/- The book is looked at. -/
namespace Go.Proofs.YtekkicgbloidkaaGreatDoor
open Go Go.RowKit
attribute [local go_sem ↓] Go.wp_at_zero Go.wp_at_succ

theorem EntC.at {av : Nat → Prop} {B : Nat} {w : World} {a : Option Addr} {c n : Nat} (h : EntC av B w (.slice a n c) n) {k : Nat} (hk : k < n) :
    ∃ g lo hi v0 v1 v2 v3, a = some ⟨g, 0, none⟩ ∧ g < w.heap.size ∧ w.cell? ⟨g, k * 5, none⟩ = some v0 ∧ w.cell? ⟨g, k * 5 + 1, none⟩ = some v1 ∧ w.cell? ⟨g, k * 5 + 2, none⟩ = some v2 ∧ w.cell? ⟨g, k * 5 + 3, none⟩ = some v3 ∧ w.cell? ⟨g, k * 5 + 4, none⟩ = some (.int .i64 k) ∧ Mk 67 5 w lo hi v0 (xCol k) ∧ Mk 67 5 w lo hi v1 (xCol k) ∧ Mk 67 5 w lo hi v2 (xCol k) ∧ Mk 67 5 w lo hi v3 (xCol k) := by
  obtain ⟨xs, ho, he⟩ := h
  obtain ⟨v0, v1, v2, v3, r0, r1, r2, r3, r4, hm⟩ := he k hk
  obtain ⟨g, c', hv, -, hg⟩ := World.ownsRow.form ho (by omega)
  simp only [Value.slice.injEq, true_and] at hv
  obtain ⟨rfl, rfl⟩ := hv
  exact ⟨g, _, _, v0, v1, v2, v3, rfl, hg, owns_cell ho _ _ r0, owns_cell ho _ _ r1, owns_cell ho _ _ r2, owns_cell ho _ _ r3, owns_cell ho _ _ r4, (hm v0 (.inl rfl)).1, (hm v1 (.inr (.inl rfl))).1, (hm v2 (.inr (.inr (.inl rfl)))).1, (hm v3 (.inr (.inr (.inr rfl)))).1⟩

set_option maxRecDepth 20000 in
set_option maxHeartbeats 16000000 in
theorem looks_any {av : Nat → Prop} {B : Nat} {w : World} {bk : Nat} {vN vW vC vP vF : Value} {nN nW nC nP : Nat} {fl : List Nat} (h : Book av B w bk vN vW vC vP vF nN nW nC nP fl) (hB : B ≤ w.heap.size) (hT : TabB B w) (hnN : nN ≤ 1000000000) (hnW : nW ≤ 1000000000) (hnC : nC ≤ 1000000000) (hnP : nP ≤ 1000000000) (hnF : fl.length ≤ 1000000000) :
    Calls Tryz.prog 8 #[.pointer (some ⟨bk, 0, none⟩)] w fun e w' => e = .returned (.bool true) ∧ (∃ fl', fl'.length = fl.length ∧ Book av B w' bk vN vW vC vP vF nN nW nC nP fl') ∧ Below B w w' := by
  obtain ⟨aN, cN, hvN⟩ := h.nums.shape
  obtain ⟨aW, cW, hvW⟩ := h.words.shape
  obtain ⟨aC, cC, hvC⟩ := h.cols.shape
  obtain ⟨aP, cP, hvP⟩ := h.places.shape
  rw [List.length_range] at hvN hvW hvP
  subst hvN hvW hvC hvP
  have HK : Hid (Book av B w bk (.slice aN nN cN) (.slice aW nW cW) (.slice aC nC cC) (.slice aP nP cP) vF nN nW nC nP fl) := h
  have HT : Hid (TabB B w) := hT
  clear h hT
  go_enter Tryz.func8, Tryz.ntmps8
  go_wp2_with fail
  refine (flagsStill_any HK.out hnF).mono ?_
  rintro e w1 ⟨rfl, hb1⟩
  have HK1 : Hid (Book av B w1 bk (.slice aN nN cN) (.slice aW nW cW) (.slice aC nC cC) (.slice aP nP cP) vF nN nW nC nP fl) := HK.out.call hb1
  have HB1 : Hid (Below B w w1) := hb1.mono hB
  clear hb1
  go_upto_block 0 with fail
  go_cut [3] (fun ok W => ok = .bool true ∧ (∃ fl', fl'.length = fl.length ∧ Book av B W bk (.slice aN nN cN) (.slice aW nW cW) (.slice aC nC cC) (.slice aP nP cP) vF nN nW nC nP fl') ∧ Below B w W)
  case first =>
    go_wp2_with fail
    go_loopw [3, 4] (fun ok i W => ∃ k : Nat, k ≤ 10 ∧ ok = .bool true ∧ i = .int .i64 k ∧ (∃ fl', fl'.length = fl.length ∧ Book av B W bk (.slice aN nN cN) (.slice aW nW cW) (.slice aC nC cC) (.slice aP nP cP) vF nN nW nC nP fl') ∧ Below B w W) (fun _ i _ => 10 - (intOf i).toNat)
    case atStart => exact ⟨0, by omega, rfl, rfl, ⟨fl, rfl, HK1.out⟩, HB1.out⟩
    case round =>
      obtain ⟨k, hk, rfl, rfl, ⟨fl', hfl, hbk⟩, hbw⟩ := hrel
      have HKr : Hid (Book av B wr bk (.slice aN nN cN) (.slice aW nW cW) (.slice aC nC cC) (.slice aP nP cP) vF nN nW nC nP fl') := hbk
      have HFL : Hid (fl'.length = fl.length) := hfl
      have HBW : Hid (Below B w wr) := hbw
      clear hbk hfl hbw
      by_cases hlt : k < 10
      · have hi1 : (k : Int) < 10 := by omega
        go_wp2_with fail
        refine (turn_any HKr.out (Nat.le_trans hB HBW.out.size) (by rw [HFL.out]; exact hnF) k hlt).mono ?_
        rintro e w2 ⟨rfl, ⟨fl2, hfl2, hbk2⟩, hb2⟩
        have HK2 : Hid (Book av B w2 bk (.slice aN nN cN) (.slice aW nW cW) (.slice aC nC cC) (.slice aP nP cP) vF nN nW nC nP fl2) := hbk2
        have HFL2 : Hid (fl2.length = fl.length) := by unfold Hid; rw [hfl2, HFL.out]
        have HB2 : Hid (Below B w w2) := HBW.out.trans hb2
        clear hbk2 hfl2 hb2
        go_wp2_with fail
        refine (flagsStill_any HK2.out (by rw [HFL2.out]; exact hnF)).mono ?_
        rintro e w3 ⟨rfl, hb3⟩
        have HK3 : Hid (Book av B w3 bk (.slice aN nN cN) (.slice aW nW cW) (.slice aC nC cC) (.slice aP nP cP) vF nN nW nC nP fl2) := HK2.out.call hb3
        have HB3 : Hid (Below B w w3) := HB2.out.trans (hb3.mono (Nat.le_trans hB HB2.out.size))
        clear hb3
        go_wp2_with fail
        go_roundw
        case rel => exact ⟨k + 1, by omega, by first | rfl | simp, by go_num, ⟨fl2, HFL2.out, HK3.out⟩, HB3.out⟩
        case measure => simp [intOf]; omega
      · have hk10 : k = 10 := by omega
        subst hk10
        go_wp2_with fail
        go_meet
        case rel => exact ⟨rfl, ⟨fl', HFL.out, HKr.out⟩, HBW.out⟩
  case rest =>
    obtain ⟨rfl, ⟨fl', hfl, hbk⟩, hbw⟩ := hcut
    obtain ⟨wS, rfl⟩ : ∃ x : World, x = wc := ⟨wc, rfl⟩
    have HKc : Hid (Book av B wS bk (.slice aN nN cN) (.slice aW nW cW) (.slice aC nC cC) (.slice aP nP cP) vF nN nW nC nP fl') := hbk
    have HFL : Hid (fl'.length = fl.length) := hfl
    have HBc : Hid (Below B w wS) := hbw
    clear hbk hfl hbw HK HK1 HB1
    go_upto_block 2 with fail
    go_cut [3] (fun ok W => ok = .bool true ∧ Book av B W bk (.slice aN nN cN) (.slice aW nW cW) (.slice aC nC cC) (.slice aP nP cP) vF nN nW nC nP fl' ∧ Below B w W)
    case first =>
      go_wp2_with fail
      go_loopw [3, 6] (fun ok i W => ∃ k : Nat, k ≤ nN ∧ ok = .bool true ∧ i = .int .i64 k ∧ Book av B W bk (.slice aN nN cN) (.slice aW nW cW) (.slice aC nC cC) (.slice aP nP cP) vF nN nW nC nP fl' ∧ Below B w W) (fun _ i _ => nN - (intOf i).toNat)
      case atStart => exact ⟨0, Nat.zero_le _, rfl, rfl, HKc.out, HBc.out⟩
      case round =>
        obtain ⟨k, hk, rfl, rfl, hbk, hbw⟩ := hrel
        have HKr : Hid (Book av B wr bk (.slice aN nN cN) (.slice aW nW cW) (.slice aC nC cC) (.slice aP nP cP) vF nN nW nC nP fl') := hbk
        have HBW : Hid (Below B w wr) := hbw
        obtain ⟨x1, x2, x3⟩ := hbk.box.all
        clear hbk hbw
        by_cases hlt : k < nN
        · obtain ⟨g, lo, hi, v0, v1, v2, v3, hag, hg, e0, e1, e2, e3, e4, m0, m1, m2, m3⟩ := (show Ent _ _ _ _ _ _ _ (.slice aN (List.range nN).length cN) _ from by rw [List.length_range]; exact HKr.out.nums).at (k := k) (by simpa using hlt)
          subst hag
          rw [List.getElem_range] at e4 m0 m1 m2 m3
          obtain ⟨b0, n0, c0, rfl⟩ := m0.shape
          obtain ⟨b1, n1, c1, rfl⟩ := m1.shape
          obtain ⟨b2, n2, c2, rfl⟩ := m2.shape
          obtain ⟨b3, n3, c3, rfl⟩ := m3.shape
          have HM0 : Hid (Mk _ _ _ _ _ _ _) := m0
          have HM1 : Hid (Mk _ _ _ _ _ _ _) := m1
          have HM2 : Hid (Mk _ _ _ _ _ _ _) := m2
          have HM3 : Hid (Mk _ _ _ _ _ _ _) := m3
          have hi1 : (k : Int) < (nN : Int) := by omega
          clear m0 m1 m2 m3
          go_wp2_with fail
          refine (stillNums_any k (by omega) _ _ _ _ wr lo hi HM0.out HM1.out HM2.out HM3.out).mono ?_
          rintro e w2 ⟨rfl, hb2⟩
          have HK2 : Hid (Book _ _ _ _ _ _ _ _ _ _ _ _ _ _) := HKr.out.call hb2
          have HB2 : Hid (Below B w w2) := HBW.out.trans (hb2.mono (Nat.le_trans hB HBW.out.size))
          clear hb2
          go_wp2_with fail
          go_roundw
          case rel => exact ⟨k + 1, by omega, by first | rfl | simp, by go_num, HK2.out, HB2.out⟩
          case measure => simp [intOf]; omega
        · have hkk : k = nN := by omega
          subst hkk
          go_wp2_with fail
          go_meet
          case rel => exact ⟨rfl, HKr.out, HBW.out⟩
    case rest =>
      obtain ⟨rfl, hbk, hbw⟩ := hcut
      obtain ⟨wS0, rfl⟩ : ∃ x : World, x = wc := ⟨wc, rfl⟩
      clear HKc HBc
      have HKc : Hid (Book av B wS0 bk (.slice aN nN cN) (.slice aW nW cW) (.slice aC nC cC) (.slice aP nP cP) vF nN nW nC nP fl') := hbk
      have HBc : Hid (Below B w wS0) := hbw
      clear hbk hbw
      go_upto_block 4 with fail
      go_cut [3] (fun ok W => ok = .bool true ∧ Book av B W bk (.slice aN nN cN) (.slice aW nW cW) (.slice aC nC cC) (.slice aP nP cP) vF nN nW nC nP fl' ∧ Below B w W)
      case first =>
        go_wp2_with fail
        go_loopw [3, 8] (fun ok i W => ∃ k : Nat, k ≤ nW ∧ ok = .bool true ∧ i = .int .i64 k ∧ Book av B W bk (.slice aN nN cN) (.slice aW nW cW) (.slice aC nC cC) (.slice aP nP cP) vF nN nW nC nP fl' ∧ Below B w W) (fun _ i _ => nW - (intOf i).toNat)
        case atStart => exact ⟨0, Nat.zero_le _, rfl, rfl, HKc.out, HBc.out⟩
        case round =>
          obtain ⟨k, hk, rfl, rfl, hbk, hbw⟩ := hrel
          have HKr : Hid (Book av B wr bk (.slice aN nN cN) (.slice aW nW cW) (.slice aC nC cC) (.slice aP nP cP) vF nN nW nC nP fl') := hbk
          have HBW : Hid (Below B w wr) := hbw
          obtain ⟨x1, x2, x3⟩ := hbk.box.all
          clear hbk hbw
          by_cases hlt : k < nW
          · obtain ⟨g, lo, hi, v0, v1, v2, v3, hag, hg, e0, e1, e2, e3, e4, m0, m1, m2, m3⟩ := (show Ent _ _ _ _ _ _ _ (.slice aW (List.range nW).length cW) _ from by rw [List.length_range]; exact HKr.out.words).at (k := k) (by simpa using hlt)
            subst hag
            rw [List.getElem_range] at e4 m0 m1 m2 m3
            obtain ⟨b0, n0, c0, rfl⟩ := m0.shape
            obtain ⟨b1, n1, c1, rfl⟩ := m1.shape
            obtain ⟨b2, n2, c2, rfl⟩ := m2.shape
            obtain ⟨b3, n3, c3, rfl⟩ := m3.shape
            have HM0 : Hid (Mk _ _ _ _ _ _ _) := m0
            have HM1 : Hid (Mk _ _ _ _ _ _ _) := m1
            have HM2 : Hid (Mk _ _ _ _ _ _ _) := m2
            have HM3 : Hid (Mk _ _ _ _ _ _ _) := m3
            have hi1 : (k : Int) < (nW : Int) := by omega
            clear m0 m1 m2 m3
            go_wp2_with fail
            refine (stillWords_any k (by omega) _ _ _ _ wr lo hi B (Nat.le_trans hB HBW.out.size) (HT.out.on HBW.out) HM0.out HM1.out HM2.out HM3.out).mono ?_
            rintro e w2 ⟨rfl, hb2⟩
            have HK2 : Hid (Book _ _ _ _ _ _ _ _ _ _ _ _ _ _) := HKr.out.call hb2
            have HB2 : Hid (Below B w w2) := HBW.out.trans (hb2.mono (Nat.le_trans hB HBW.out.size))
            clear hb2
            go_wp2_with fail
            go_roundw
            case rel => exact ⟨k + 1, by omega, by first | rfl | simp, by go_num, HK2.out, HB2.out⟩
            case measure => simp [intOf]; omega
          · have hkk : k = nW := by omega
            subst hkk
            go_wp2_with fail
            go_meet
            case rel => exact ⟨rfl, HKr.out, HBW.out⟩
      case rest =>
        obtain ⟨rfl, hbk, hbw⟩ := hcut
        obtain ⟨wS1, rfl⟩ : ∃ x : World, x = wc := ⟨wc, rfl⟩
        clear HKc HBc
        have HKc : Hid (Book av B wS1 bk (.slice aN nN cN) (.slice aW nW cW) (.slice aC nC cC) (.slice aP nP cP) vF nN nW nC nP fl') := hbk
        have HBc : Hid (Below B w wS1) := hbw
        clear hbk hbw
        go_upto_block 6 with fail
        go_cut [3] (fun ok W => ok = .bool true ∧ Book av B W bk (.slice aN nN cN) (.slice aW nW cW) (.slice aC nC cC) (.slice aP nP cP) vF nN nW nC nP fl' ∧ Below B w W)
        case first =>
          go_wp2_with fail
          go_loopw [3, 10] (fun ok i W => ∃ k : Nat, k ≤ nC ∧ ok = .bool true ∧ i = .int .i64 k ∧ Book av B W bk (.slice aN nN cN) (.slice aW nW cW) (.slice aC nC cC) (.slice aP nP cP) vF nN nW nC nP fl' ∧ Below B w W) (fun _ i _ => nC - (intOf i).toNat)
          case atStart => exact ⟨0, Nat.zero_le _, rfl, rfl, HKc.out, HBc.out⟩
          case round =>
            obtain ⟨k, hk, rfl, rfl, hbk, hbw⟩ := hrel
            have HKr : Hid (Book av B wr bk (.slice aN nN cN) (.slice aW nW cW) (.slice aC nC cC) (.slice aP nP cP) vF nN nW nC nP fl') := hbk
            have HBW : Hid (Below B w wr) := hbw
            obtain ⟨x1, x2, x3⟩ := hbk.box.all
            clear hbk hbw
            by_cases hlt : k < nC
            · obtain ⟨g, lo, hi, v0, v1, v2, v3, hag, hg, e0, e1, e2, e3, e4, m0, m1, m2, m3⟩ := HKr.out.cols.at hlt
              subst hag
              obtain ⟨b0, n0, c0, rfl⟩ := m0.shape
              obtain ⟨b1, n1, c1, rfl⟩ := m1.shape
              obtain ⟨b2, n2, c2, rfl⟩ := m2.shape
              obtain ⟨b3, n3, c3, rfl⟩ := m3.shape
              have HM0 : Hid (Mk _ _ _ _ _ _ _) := m0
              have HM1 : Hid (Mk _ _ _ _ _ _ _) := m1
              have HM2 : Hid (Mk _ _ _ _ _ _ _) := m2
              have HM3 : Hid (Mk _ _ _ _ _ _ _) := m3
              have hi1 : (k : Int) < (nC : Int) := by omega
              clear m0 m1 m2 m3
              go_wp2_with fail
              refine (stillCols_any k (by omega) _ _ _ _ wr lo hi HM0.out HM1.out HM2.out HM3.out).mono ?_
              rintro e w2 ⟨rfl, hb2⟩
              have HK2 : Hid (Book _ _ _ _ _ _ _ _ _ _ _ _ _ _) := HKr.out.call hb2
              have HB2 : Hid (Below B w w2) := HBW.out.trans (hb2.mono (Nat.le_trans hB HBW.out.size))
              clear hb2
              go_wp2_with fail
              go_roundw
              case rel => exact ⟨k + 1, by omega, by first | rfl | simp, by go_num, HK2.out, HB2.out⟩
              case measure => simp [intOf]; omega
            · have hkk : k = nC := by omega
              subst hkk
              go_wp2_with fail
              go_meet
              case rel => exact ⟨rfl, HKr.out, HBW.out⟩
        case rest =>
          obtain ⟨rfl, hbk, hbw⟩ := hcut
          obtain ⟨wS2, rfl⟩ : ∃ x : World, x = wc := ⟨wc, rfl⟩
          clear HKc HBc
          have HKc : Hid (Book av B wS2 bk (.slice aN nN cN) (.slice aW nW cW) (.slice aC nC cC) (.slice aP nP cP) vF nN nW nC nP fl') := hbk
          have HBc : Hid (Below B w wS2) := hbw
          clear hbk hbw
          go_upto_block 8 with fail
          go_cut [3] (fun ok W => ok = .bool true ∧ Book av B W bk (.slice aN nN cN) (.slice aW nW cW) (.slice aC nC cC) (.slice aP nP cP) vF nN nW nC nP fl' ∧ Below B w W)
          case first =>
            go_wp2_with fail
            go_loopw [3, 12] (fun ok i W => ∃ k : Nat, k ≤ nP ∧ ok = .bool true ∧ i = .int .i64 k ∧ Book av B W bk (.slice aN nN cN) (.slice aW nW cW) (.slice aC nC cC) (.slice aP nP cP) vF nN nW nC nP fl' ∧ Below B w W) (fun _ i _ => nP - (intOf i).toNat)
            case atStart => exact ⟨0, Nat.zero_le _, rfl, rfl, HKc.out, HBc.out⟩
            case round =>
              obtain ⟨k, hk, rfl, rfl, hbk, hbw⟩ := hrel
              have HKr : Hid (Book av B wr bk (.slice aN nN cN) (.slice aW nW cW) (.slice aC nC cC) (.slice aP nP cP) vF nN nW nC nP fl') := hbk
              have HBW : Hid (Below B w wr) := hbw
              obtain ⟨x1, x2, x3⟩ := hbk.box.all
              clear hbk hbw
              by_cases hlt : k < nP
              · obtain ⟨g, lo, hi, v0, v1, v2, v3, hag, hg, e0, e1, e2, e3, e4, m0, m1, m2, m3⟩ := (show Ent _ _ _ _ _ _ _ (.slice aP (List.range nP).length cP) _ from by rw [List.length_range]; exact HKr.out.places).at (k := k) (by simpa using hlt)
                subst hag
                rw [List.getElem_range] at e4 m0 m1 m2 m3
                obtain ⟨b0, n0, c0, rfl⟩ := m0.shape
                obtain ⟨b1, n1, c1, rfl⟩ := m1.shape
                obtain ⟨b2, n2, c2, rfl⟩ := m2.shape
                obtain ⟨b3, n3, c3, rfl⟩ := m3.shape
                have HM0 : Hid (Mk _ _ _ _ _ _ _) := m0
                have HM1 : Hid (Mk _ _ _ _ _ _ _) := m1
                have HM2 : Hid (Mk _ _ _ _ _ _ _) := m2
                have HM3 : Hid (Mk _ _ _ _ _ _ _) := m3
                have hi1 : (k : Int) < (nP : Int) := by omega
                clear m0 m1 m2 m3
                go_wp2_with fail
                refine (stillPlaces_any k (by omega) _ _ _ _ wr lo hi HM0.out HM1.out HM2.out HM3.out).mono ?_
                rintro e w2 ⟨rfl, hb2⟩
                have HK2 : Hid (Book _ _ _ _ _ _ _ _ _ _ _ _ _ _) := HKr.out.call hb2
                have HB2 : Hid (Below B w w2) := HBW.out.trans (hb2.mono (Nat.le_trans hB HBW.out.size))
                clear hb2
                go_wp2_with fail
                go_roundw
                case rel => exact ⟨k + 1, by omega, by first | rfl | simp, by go_num, HK2.out, HB2.out⟩
                case measure => simp [intOf]; omega
              · have hkk : k = nP := by omega
                subst hkk
                go_wp2_with fail
                go_meet
                case rel => exact ⟨rfl, HKr.out, HBW.out⟩
          case rest =>
            obtain ⟨rfl, hbk, hbw⟩ := hcut
            obtain ⟨wS3, rfl⟩ : ∃ x : World, x = wc := ⟨wc, rfl⟩
            clear HKc HBc
            have HKc : Hid (Book av B wS3 bk (.slice aN nN cN) (.slice aW nW cW) (.slice aC nC cC) (.slice aP nP cP) vF nN nW nC nP fl') := hbk
            have HBc : Hid (Below B w wS3) := hbw
            clear hbk hbw
            go_wp2_with fail
            go_ret
            exact ⟨rfl, ⟨fl', HFL.out, HKc.out⟩, HBc.out⟩

end Go.Proofs.YtekkicgbloidkaaGreatDoor
/- A place is written into the book. -/
namespace Go.Proofs.YtekkicgbloidkaaGreatDoor
open Go Go.RowKit
attribute [local go_sem ↓] Go.wp_at_zero Go.wp_at_succ

set_option maxRecDepth 20000 in
set_option maxHeartbeats 4000000 in
theorem place_any {av : Nat → Prop} {B : Nat} {w : World} {bk : Nat} {vN vW vC vP vF : Value} {nN nW nC nP : Nat} {fl : List Nat} (h : Book av B w bk vN vW vC vP vF nN nW nC nP fl) (hB : B ≤ w.heap.size) (hn : nP ≤ 1000000000) :
    Calls Tryz.prog 15 #[.pointer (some ⟨bk, 0, none⟩), .slice none 0 0] w fun e w' => e = .returned (.tuple #[]) ∧ (∃ vP', Book av B w' bk vN vW vC vP' vF nN nW nC (nP + 1) fl) ∧ Below B w w' ∧ (∀ g cs, Box w g cs 46 → Box w' g cs 46) := by
  obtain ⟨aP, cP, hvP⟩ := h.places.shape
  rw [List.length_range] at hvP
  subst hvP
  have HK : Hid (Book av B w bk vN vW vC (.slice aP nP cP) vF nN nW nC nP fl) := h
  obtain ⟨x1, x2, x3⟩ := h.box.all
  clear h
  go_enter Tryz.func15, Tryz.ntmps15
  go_wp2_with fail
  refine (ownPlaces_nil nP (by omega) w).mono ?_
  rintro e w1 ⟨v1, v2, v3, rfl, m1, m2, m3, hb1⟩
  obtain ⟨a1, n1, c1, rfl⟩ := m1.shape
  obtain ⟨a2, n2, c2, rfl⟩ := m2.shape
  obtain ⟨a3, n3, c3, rfl⟩ := m3.shape
  have HK1 : Hid (Book av B w1 bk vN vW vC (.slice aP nP cP) vF nN nW nC nP fl) := HK.out.call hb1
  have HM1 : Hid (Mk _ _ _ _ _ _ _) := m1
  have HM2 : Hid (Mk _ _ _ _ _ _ _) := m2
  have HM3 : Hid (Mk _ _ _ _ _ _ _) := m3
  have HB1 : Hid (Below w.heap.size w w1) := hb1
  clear m1 m2 m3 hb1 x1 x2 x3
  obtain ⟨x1, x2, x3⟩ := HK1.out.box.all
  go_upto_region 1 with fail
  have hbA : Below w1.heap.size w1 (w1.alloc (.cells #[.slice none 0 0, .slice a1 n1 c1, .slice a2 n2 c2, .slice a3 n3 c3, .int .i64 nP] 80)) := (Below.refl _ _).alloc (Nat.le_refl _) _
  have HKA : Hid (Book av B (w1.alloc (.cells #[.slice none 0 0, .slice a1 n1 c1, .slice a2 n2 c2, .slice a3 n3 c3, .int .i64 nP] 80)) bk vN vW vC (.slice aP nP cP) vF nN nW nC nP fl) := HK1.out.call hbA
  have HN1 : Hid (Mk _ _ _ _ _ _ _) := Mk.call HM1.out hbA
  have HN2 : Hid (Mk _ _ _ _ _ _ _) := Mk.call HM2.out hbA
  have HN3 : Hid (Mk _ _ _ _ _ _ _) := Mk.call HM3.out hbA
  have HBA : Hid (Below w.heap.size w (w1.alloc (.cells #[.slice none 0 0, .slice a1 n1 c1, .slice a2 n2 c2, .slice a3 n3 c3, .int .i64 nP] 80))) := Below.step hbA HB1.out HB1.out.size
  have HXA : Hid (Box (w1.alloc (.cells #[.slice none 0 0, .slice a1 n1 c1, .slice a2 n2 c2, .slice a3 n3 c3, .int .i64 nP] 80)) w1.heap.size #[.slice none 0 0, .slice a1 n1 c1, .slice a2 n2 c2, .slice a3 n3 c3, .int .i64 nP] 80) := Box.new _ _ _
  have HZA : Hid (w1.heap.size ≤ (w1.alloc (.cells #[.slice none 0 0, .slice a1 n1 c1, .slice a2 n2 c2, .slice a3 n3 c3, .int .i64 nP] 80)).heap.size) := by unfold Hid; simp
  clear hbA x1 x2 x3
  generalize w1.alloc (.cells #[.slice none 0 0, .slice a1 n1 c1, .slice a2 n2 c2, .slice a3 n3 c3, .int .i64 nP] 80) = wA at *
  obtain ⟨x1, x2, x3⟩ := HKA.out.box.all
  obtain ⟨y1, y2, y3⟩ := HXA.out.all
  obtain ⟨xs, ivs, hx, -⟩ := HKA.out.places
  rw [List.length_range] at hx
  have HX : Hid (wA.ownsRow B 80 5 (.slice aP nP cP) nP xs) := hx
  have HOG : Hid ((wA.alloc (.cells #[.slice none 0 0, .slice a1 n1 c1, .slice a2 n2 c2, .slice a3 n3 c3, .int .i64 nP] 80)).drew.ownsRow B 80 5 (.slice aP nP cP) nP xs) := hx.alloc _
  have HNW : Hid (∀ j u, ([.slice none 0 0, .slice a1 n1 c1, .slice a2 n2 c2, .slice a3 n3 c3, .int .i64 nP] : List Value)[j]? = some u → (wA.alloc (.cells #[.slice none 0 0, .slice a1 n1 c1, .slice a2 n2 c2, .slice a3 n3 c3, .int .i64 nP] 80)).drew.cell? ⟨wA.heap.size, j, none⟩ = some u) := fun j u hu => by
    rw [(Box.new wA #[.slice none 0 0, .slice a1 n1 c1, .slice a2 n2 c2, .slice a3 n3 c3, .int .i64 nP] 80).drew.rules.1 j, ← Array.getElem?_toList]; exact hu
  have HS0 : Hid ((wA.alloc (.cells #[.slice none 0 0, .slice a1 n1 c1, .slice a2 n2 c2, .slice a3 n3 c3, .int .i64 nP] 80)).drew.heap.size = wA.heap.size + 1) := by unfold Hid; simp
  have HS1 : Hid (B ≤ (wA.alloc (.cells #[.slice none 0 0, .slice a1 n1 c1, .slice a2 n2 c2, .slice a3 n3 c3, .int .i64 nP] 80)).drew.heap.size) := by have := HBA.out.size; unfold Hid; simp; omega
  have HON : Hid (∀ u ∈ ([.slice none 0 0, .slice a1 n1 c1, .slice a2 n2 c2, .slice a3 n3 c3, .int .i64 nP] : List Value), u.oneCell' = true) := by intro u hu; simp at hu; rcases hu with rfl | rfl | rfl | rfl | rfl <;> rfl
  clear hx
  have HBF : Hid (Below w.heap.size w (wA.alloc (.cells #[.slice none 0 0, .slice a1 n1 c1, .slice a2 n2 c2, .slice a3 n3 c3, .int .i64 nP] 80)).drew) := (HBA.out.alloc HBA.out.size _).drew
  have hbD : Below wA.heap.size wA (wA.alloc (.cells #[.slice none 0 0, .slice a1 n1 c1, .slice a2 n2 c2, .slice a3 n3 c3, .int .i64 nP] 80)).drew := ((Below.refl _ _).alloc (Nat.le_refl _) _).drew
  have HO1 : Hid (Mk _ _ _ _ _ _ _) := Mk.call HN1.out hbD
  have HO2 : Hid (Mk _ _ _ _ _ _ _) := Mk.call HN2.out hbD
  have HO3 : Hid (Mk _ _ _ _ _ _ _) := Mk.call HN3.out hbD
  have HZD : Hid (w1.heap.size ≤ (wA.alloc (.cells #[.slice none 0 0, .slice a1 n1 c1, .slice a2 n2 c2, .slice a3 n3 c3, .int .i64 nP] 80)).drew.heap.size) := Nat.le_trans HZA.out hbD.size
  have HKD : Hid (Book av B (wA.alloc (.cells #[.slice none 0 0, .slice a1 n1 c1, .slice a2 n2 c2, .slice a3 n3 c3, .int .i64 nP] 80)).drew bk vN vW vC (.slice aP nP cP) vF nN nW nC nP fl) := HKA.out.call hbD
  clear hbD
  go_region_law (refine step_app elem_places _ (by rfl) _ _ (by rfl) B _ _ _ (by rfl) HOG.out wA.heap.size 1 1 _ (by rfl) rfl HNW.out HON.out (by omega) (by omega) (by omega) HS1.out (wA.heap.size + 1) HS0.out ?_; intro g3 cap3 w3 hown3 hg3 hat3 hlt3; obtain ⟨z1, z2, z3⟩ := (HKD.out.push_box HOG.out hg3).all)
  all_goals
    have HF : Hid (Book _ _ _ _ _ _ _ _ _ _ _ _ _ _) := HK.out.pushP hB HBF.out (.inl rfl) HO1.out HO2.out HO3.out HZD.out HOG.out hown3 hg3
    have HBE : Hid (Below B w (w3.setCell ⟨bk, 3, none⟩ (.slice (some ⟨g3, 0, none⟩) (nP + 1) cap3))) := ((HBF.out.mono hB).grown hg3 HS1.out (fun g hg => (HOG.out.lt g hg).1)).setCell HK.out.bkge _
    have HSE : Hid (∀ g cs, Box w g cs 46 → Box (w3.setCell ⟨bk, 3, none⟩ (.slice (some ⟨g3, 0, none⟩) (nP + 1) cap3)) g cs 46) := fun g' cs' h => by
      have h1 := h.call HBF.out
      exact (h1.grown hg3 (fun g hg => by obtain ⟨cur, hcur⟩ := owns_own HOG.out hg; exact h1.ne hcur (by decide))).set_ne (h1.ne HKD.out.box (by decide)) _
    clear hown3 hg3 hat3 hlt3 z1 z2 z3
    go_wp2_with fail
    go_end0
    exact ⟨rfl, ⟨_, HF.out⟩, HBE.out, HSE.out⟩

end Go.Proofs.YtekkicgbloidkaaGreatDoor
