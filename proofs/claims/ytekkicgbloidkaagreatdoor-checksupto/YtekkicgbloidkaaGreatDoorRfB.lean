/- The reference's types of a Group. -/
import Derived.Test.YtekkicgbloidkaaGreatDoorRfA
import Derived.Test.YtekkicgbloidkaaGreatDoorTyE
import Derived.Test.YtekkicgbloidkaaGreatDoorSvJ
namespace Go.Proofs.YtekkicgbloidkaaGreatDoor
open Go Go.RowKit

set_option maxRecDepth 20000 in
set_option maxHeartbeats 8000000 in
theorem rgroup_any (n : DNode) (ve vk vo va vc : Value) (cols : List (Int × Int)) (w : World) (hn : NodeIs w ve vk vo va n) (h4 : n.keys.length ≤ 4) (h6 : n.aggs.length ≤ 6) (hv : RTys w vc cols) :
    Calls Tryz.prog 76 #[nodeV n ve vk vo va, vc] w fun e w' => RTysRet w' e (groupRun n cols) ∧ Below w.heap.size w w' := by
  have hkeys := hn.keys
  have haggs := hn.aggs
  obtain ⟨ae, ce, ak, ck, ao, co, aa, ca, rfl, rfl, rfl, rfl⟩ := hn.shape
  obtain ⟨ax, cx, rfl, hcl, helx⟩ := hv
  clear hn
  have bn := Box.new w #[.int .i64 n.op, .int .i64 n.a, .int .i64 n.b, .slice ae n.exprs.length ce, .slice ak n.keys.length ck, .slice ao n.others.length co, .slice aa n.aggs.length ca] 71
  go_enter Tryz.func76, Tryz.ntmps76
  go_wp2
  go_loopw [6, 7] (fun v i W => ∃ (k : Nat) (st : List (Int × Int)), k ≤ n.keys.length ∧ i = .int .i64 k ∧ mapOk (colAt cols) (n.keys.take k) = some st ∧ st.length = k ∧ W.ownsRow (w.heap.size + 1) 108 2 v st.length (flatTy st) ∧ Below (w.heap.size + 1) (w.alloc (.cells #[.int .i64 n.op, .int .i64 n.a, .int .i64 n.b, .slice ae n.exprs.length ce, .slice ak n.keys.length ck, .slice ao n.others.length co, .slice aa n.aggs.length ca] 71)) W)
    (fun _ i _ => n.keys.length - (intOf i).toNat)
  case atStart => exact ⟨0, [], Nat.zero_le _, rfl, rfl, rfl, World.ownsRow_nil _ _ _ _, Below.refl _ _⟩
  case round =>
    obtain ⟨k, st, hk, rfl, hrun, hstk, hown, hBn⟩ := hrel
    have HR : Hid _ := hrun
    have HBN : Hid (Below (w.heap.size + 1) (w.alloc (.cells #[.int .i64 n.op, .int .i64 n.a, .int .i64 n.b, .slice ae n.exprs.length ce, .slice ak n.keys.length ck, .slice ao n.others.length co, .slice aa n.aggs.length ca] 71)) wr) := hBn
    have hwz : w.heap.size + 1 ≤ wr.heap.size := by have := hBn.size; simpa using this
    have HB : Hid (Below w.heap.size w wr) := ((Below.refl _ _).alloc (Nat.le_refl _) _).trans (hBn.mono (by omega))
    have HSK : Hid _ := hstk
    have HO : Hid (wr.ownsRow (w.heap.size + 1) 108 2 u6 st.length (flatTy st)) := hown
    obtain ⟨hcn, hfn, hln⟩ := (bn.below HBN.out (by omega)).all
    clear hrun hstk hown hBn
    by_cases hlt : k < n.keys.length
    · obtain ⟨b1, o1, c1, hv1, -, d1⟩ := ints_at hkeys hlt
      simp only [Value.slice.injEq, true_and] at hv1
      obtain ⟨rfl, rfl⟩ := hv1
      have kp := Keeps.of_below HB.out
      have e1 := kp _ _ _ d1
      have hbl1 := cell_lt e1
      have HX : Hid (n.keys[k] = n.keys[k]) := rfl
      clear d1 bn
      generalize hX : n.keys[k] = X at *
      have HXX : Hid _ := hX
      clear hX HX
      by_cases hrx : 0 ≤ X ∧ X < cols.length
      · obtain ⟨hx0, hx1⟩ := hrx
        obtain ⟨p, rfl⟩ := Int.eq_ofNat_of_zero_le hx0
        have hp : p < cols.length := by omega
        obtain ⟨xb, xo, rfl, p0, p1⟩ := helx p hp
        simp only [Nat.add_zero] at p0
        have f0 := kp _ _ _ p0
        have f1 := kp _ _ _ p1
        have hxl := cell_lt f0
        have HC : Hid (colAt cols (p : Int) = (cols[p], true)) := by unfold Hid colAt; rw [if_pos (by omega)]; simp [hp]
        have HG : Hid (mapOk (colAt cols) (n.keys.take (k + 1)) = some (st ++ [cols[p]])) := by
          have := mapOk_go hlt HR.out (by rw [HXX.out, HC.out])
          rw [HXX.out, HC.out] at this; exact this
        have nx : ¬ ((p : Int) < 0) := by omega
        have nx' : ¬ ((cols.length : Int) ≤ (p : Int)) := by omega
        clear kp p0 p1 helx
        generalize hR : cols[p] = R at *
        clear hR
        have bN := Box.new wr #[.int .i64 R.1, .int .i64 R.2] 108
        have HNW : Hid _ := new_two bN
        have HOG : Hid _ := HO.out.alloc (.cells #[.int .i64 R.1, .int .i64 R.2] 108)
        have HS0 : Hid ((wr.alloc (.cells #[.int .i64 R.1, .int .i64 R.2] 108)).heap.size = wr.heap.size + 1) := by unfold Hid; simp
        have HS1 : Hid (w.heap.size + 1 ≤ (wr.alloc (.cells #[.int .i64 R.1, .int .i64 R.2] 108)).heap.size) := by unfold Hid; simp; omega
        have HL : Hid (st.length ≤ 8) := by have := HSK.out; unfold Hid; omega
        have HGW : Hid (∀ g, u6.ownBlock = some g → w.heap.size + 1 ≤ g) := fun g hg => (HO.out.lt g hg).1
        clear bN
        go_wp2_with (at_builtin; refine app_one elem_rty _ (by rfl) _ _ (by rfl) (w.heap.size + 1) u6 st.length (flatTy st) (by rfl) HOG.out wr.heap.size 1 1 _ (by rfl) rfl HNW.out (one_two _ _) (by omega) (by have := HL.out; omega) (by have := HL.out; omega) HS1.out (wr.heap.size + 1) HS0.out ?_; intro g3 cap3 w3 hown3 hg3 hat3 hlt3)
        have hBW := HBN.out.alloc (by omega) (.cells #[.int .i64 R.1, .int .i64 R.2] 108)
        have HBF : Hid (Below (w.heap.size + 1) (w.alloc (.cells #[.int .i64 n.op, .int .i64 n.a, .int .i64 n.b, .slice ae n.exprs.length ce, .slice (some ⟨b1, o1, none⟩) n.keys.length ck, .slice ao n.others.length co, .slice aa n.aggs.length ca] 71)) w3) := hBW.grown hg3 (by simp; omega) (fun k' hk' => by have := HGW.out k' hk'; omega)
        have hlen : (st ++ [R]).length = st.length + 1 := by simp
        have HOF : Hid (w3.ownsRow (w.heap.size + 1) 108 2 (.slice (some ⟨g3, 0, none⟩) (st.length + 1) cap3) (st ++ [R]).length (flatTy (st ++ [R]))) := by
          unfold Hid; rw [hlen, ← flatTy_snoc]; exact hown3
        clear hBW hg3 hown3 hat3 hlt3
        go_roundw
        case rel => exact ⟨k + 1, st ++ [R], by omega, by go_num, HG.out, by rw [hlen, HSK.out], HOF.out, HBF.out⟩
        case measure => simp [intOf]; omega
      · have HN : Hid (groupRun n cols = none) := by
          unfold Hid groupRun
          rw [mapOk_stop hlt HR.out (by rw [HXX.out]; unfold colAt; rw [if_neg (by omega)])]
        clear kp helx
        by_cases hx0 : X < 0
        · clear hrx
          go_wp2_with fail
          go_ret2
          exact ⟨by rw [HN.out]; exact ⟨_, rfl⟩, HB.out⟩
        · have hx1 : (cols.length : Int) ≤ X := by omega
          clear hrx
          go_wp2_with fail
          go_ret2
          exact ⟨by rw [HN.out]; exact ⟨_, rfl⟩, HB.out⟩
    · have hke : n.keys.take k = n.keys := List.take_of_length_le (by omega)
      have HE : Hid (mapOk (colAt cols) n.keys = some st) := by have := HR.out; rw [hke] at this; exact this
      clear hke
      have HSL : Hid (st.length ≤ 4) := by have := HSK.out; unfold Hid; omega
      clear HSK
      go_wp2_with fail
      go_loopw [6, 8] (fun v i W => ∃ (k2 : Nat) (st2 : List (Int × Int)), k2 ≤ n.aggs.length ∧ i = .int .i64 k2 ∧ mapOk (fun g => aggTy g cols) (n.aggs.take k2) = some st2 ∧ st2.length = k2 ∧ W.ownsRow (w.heap.size + 1) 108 2 v (st ++ st2).length (flatTy (st ++ st2)) ∧ Below (w.heap.size + 1) (w.alloc (.cells #[.int .i64 n.op, .int .i64 n.a, .int .i64 n.b, .slice ae n.exprs.length ce, .slice ak n.keys.length ck, .slice ao n.others.length co, .slice aa n.aggs.length ca] 71)) W)
        (fun _ i _ => n.aggs.length - (intOf i).toNat)
      case atStart => exact ⟨0, [], Nat.zero_le _, rfl, rfl, rfl, by simpa using HO.out, HBN.out⟩
      case round =>
        clear hcn hfn hln HB hwz HBN HO
        obtain ⟨k2, st2, hk2, rfl, hrun2, hstk2, hown2, hB2⟩ := hrel
        have HR2 : Hid _ := hrun2
        have HBN : Hid (Below (w.heap.size + 1) (w.alloc (.cells #[.int .i64 n.op, .int .i64 n.a, .int .i64 n.b, .slice ae n.exprs.length ce, .slice ak n.keys.length ck, .slice ao n.others.length co, .slice aa n.aggs.length ca] 71)) wr) := hB2
        have hwz : w.heap.size + 1 ≤ wr.heap.size := by have := hB2.size; simpa using this
        have HB : Hid (Below w.heap.size w wr) := ((Below.refl _ _).alloc (Nat.le_refl _) _).trans (hB2.mono (by omega))
        have HSK2 : Hid _ := hstk2
        have HO : Hid (wr.ownsRow (w.heap.size + 1) 108 2 u6 (st ++ st2).length (flatTy (st ++ st2))) := hown2
        have HL : Hid ((st ++ st2).length ≤ 10) := by have := HSL.out; unfold Hid; simp; omega
        obtain ⟨hcn, hfn, hln⟩ := (bn.below HBN.out (by omega)).all
        clear hrun2 hstk2 hown2 hB2 hkeys
        by_cases hlt2 : k2 < n.aggs.length
        · obtain ⟨b1, o1, c1, hvv, -, d0, d1⟩ := aggs_at haggs hlt2
          simp only [Value.slice.injEq, true_and] at hvv
          obtain ⟨rfl, rfl⟩ := hvv
          have kp := Keeps.of_below HB.out
          have e0 := kp _ _ _ d0
          have e1 := kp _ _ _ d1
          have hbw := cell_lt e0
          clear d0 d1 bn
          generalize hG : n.aggs[k2] = G at *
          have HGG : Hid _ := hG
          clear hG
          obtain ⟨gk, ga⟩ := G
          simp only at e0 e1
          by_cases hok : 1 ≤ gk ∧ gk ≤ 4 ∧ ga < cols.length ∧ -1 ≤ ga ∧ ¬ (ga = -1 ∧ ¬ gk = 1)
          · obtain ⟨g1, g4, ga1, ga0, gx⟩ := hok
            have nq1 : ¬ gk < 1 := by omega
            have nq2 : ¬ 4 < gk := by omega
            have nq3 : ¬ (cols.length : Int) ≤ ga := by omega
            have nq4 : ¬ ga < -1 := by omega
            by_cases hg1 : gk = 1
            · subst hg1
              have HG : Hid (mapOk (fun g => aggTy g cols) (n.aggs.take (k2 + 1)) = some (st2 ++ [(1, 0)])) := by
                have hag : aggTy (1, ga) cols = ((1, 0), true) := by
                  unfold aggTy colAt
                  by_cases h1 : ga = -1
                  · simp [h1]
                  · simp [h1, show 0 ≤ ga by omega, ga1]
                have := mapOk_go (f := fun g => aggTy g cols) hlt2 HR2.out (by rw [HGG.out, hag])
                rw [HGG.out, hag] at this; exact this
              clear kp helx gx
              by_cases hgm : ga = -1
              · subst hgm
                have bN := Box.new (wr.alloc (.cells #[.int .i64 1, .int .i64 (-1)] 126)) #[.int .i64 1, .int .i64 0] 108
                rw [show (wr.alloc (.cells #[.int .i64 1, .int .i64 (-1)] 126)).heap.size = wr.heap.size + 1 by simp] at bN
                have HNW : Hid _ := new_two bN
                have HOG : Hid _ := (HO.out.alloc (.cells #[.int .i64 1, .int .i64 (-1)] 126)).alloc (.cells #[.int .i64 1, .int .i64 0] 108)
                have HS0 : Hid (((wr.alloc (.cells #[.int .i64 1, .int .i64 (-1)] 126)).alloc (.cells #[.int .i64 1, .int .i64 0] 108)).heap.size = wr.heap.size + 1 + 1) := by unfold Hid; simp
                have HS1 : Hid (w.heap.size + 1 ≤ ((wr.alloc (.cells #[.int .i64 1, .int .i64 (-1)] 126)).alloc (.cells #[.int .i64 1, .int .i64 0] 108)).heap.size) := by unfold Hid; simp; omega
                have HGW : Hid (∀ g, u6.ownBlock = some g → w.heap.size + 1 ≤ g) := fun g hg => (HO.out.lt g hg).1
                clear bN
                generalize hq : (st ++ st2).length = q at *
                have HQ : Hid _ := hq
                clear hq
                go_wp2_with (at_builtin; refine app_one elem_rty _ (by rfl) _ _ (by rfl) (w.heap.size + 1) u6 q (flatTy (st ++ st2)) (by rfl) HOG.out (wr.heap.size + 1) 1 1 _ (by rfl) rfl HNW.out (one_two _ _) (by omega) (by have := HL.out; omega) (by have := HL.out; omega) HS1.out (wr.heap.size + 1 + 1) HS0.out ?_; intro g3 cap3 w3 hown3 hg3 hat3 hlt3)
                have hBW := (HBN.out.alloc (by omega) (.cells #[.int .i64 1, .int .i64 (-1)] 126)).alloc (by simp; omega) (.cells #[.int .i64 1, .int .i64 0] 108)
                have HBF : Hid (Below (w.heap.size + 1) (w.alloc (.cells #[.int .i64 n.op, .int .i64 n.a, .int .i64 n.b, .slice ae n.exprs.length ce, .slice ak n.keys.length ck, .slice ao n.others.length co, .slice (some ⟨b1, o1, none⟩) n.aggs.length ca] 71)) w3) := hBW.grown hg3 (by simp; omega) (fun k' hk' => by have := HGW.out k' hk'; omega)
                have hlen : (st ++ (st2 ++ [(1, 0)])).length = q + 1 := by rw [← HQ.out]; simp; omega
                have HOF : Hid (w3.ownsRow (w.heap.size + 1) 108 2 (.slice (some ⟨g3, 0, none⟩) (q + 1) cap3) (st ++ (st2 ++ [(1, 0)])).length (flatTy (st ++ (st2 ++ [(1, 0)])))) := by
                  unfold Hid; rw [hlen, ← List.append_assoc, ← flatTy_snoc]; exact hown3
                clear hBW hg3 hown3 hat3 hlt3
                go_roundw
                case rel => exact ⟨k2 + 1, st2 ++ [(1, 0)], by omega, by go_num, HG.out, by simp; exact HSK2.out, HOF.out, HBF.out⟩
                case measure => simp [intOf]; omega
              · have hgm' : (ga == -1) = false := by simpa using hgm
                clear hgm
                have bN := Box.new (wr.alloc (.cells #[.int .i64 1, .int .i64 ga] 126)) #[.int .i64 1, .int .i64 0] 108
                rw [show (wr.alloc (.cells #[.int .i64 1, .int .i64 ga] 126)).heap.size = wr.heap.size + 1 by simp] at bN
                have HNW : Hid _ := new_two bN
                have HOG : Hid _ := (HO.out.alloc (.cells #[.int .i64 1, .int .i64 ga] 126)).alloc (.cells #[.int .i64 1, .int .i64 0] 108)
                have HS0 : Hid (((wr.alloc (.cells #[.int .i64 1, .int .i64 ga] 126)).alloc (.cells #[.int .i64 1, .int .i64 0] 108)).heap.size = wr.heap.size + 1 + 1) := by unfold Hid; simp
                have HS1 : Hid (w.heap.size + 1 ≤ ((wr.alloc (.cells #[.int .i64 1, .int .i64 ga] 126)).alloc (.cells #[.int .i64 1, .int .i64 0] 108)).heap.size) := by unfold Hid; simp; omega
                have HGW : Hid (∀ g, u6.ownBlock = some g → w.heap.size + 1 ≤ g) := fun g hg => (HO.out.lt g hg).1
                clear bN
                generalize hq : (st ++ st2).length = q at *
                have HQ : Hid _ := hq
                clear hq
                go_wp2_with (at_builtin; refine app_one elem_rty _ (by rfl) _ _ (by rfl) (w.heap.size + 1) u6 q (flatTy (st ++ st2)) (by rfl) HOG.out (wr.heap.size + 1) 1 1 _ (by rfl) rfl HNW.out (one_two _ _) (by omega) (by have := HL.out; omega) (by have := HL.out; omega) HS1.out (wr.heap.size + 1 + 1) HS0.out ?_; intro g3 cap3 w3 hown3 hg3 hat3 hlt3)
                have hBW := (HBN.out.alloc (by omega) (.cells #[.int .i64 1, .int .i64 ga] 126)).alloc (by simp; omega) (.cells #[.int .i64 1, .int .i64 0] 108)
                have HBF : Hid (Below (w.heap.size + 1) (w.alloc (.cells #[.int .i64 n.op, .int .i64 n.a, .int .i64 n.b, .slice ae n.exprs.length ce, .slice ak n.keys.length ck, .slice ao n.others.length co, .slice (some ⟨b1, o1, none⟩) n.aggs.length ca] 71)) w3) := hBW.grown hg3 (by simp; omega) (fun k' hk' => by have := HGW.out k' hk'; omega)
                have hlen : (st ++ (st2 ++ [(1, 0)])).length = q + 1 := by rw [← HQ.out]; simp; omega
                have HOF : Hid (w3.ownsRow (w.heap.size + 1) 108 2 (.slice (some ⟨g3, 0, none⟩) (q + 1) cap3) (st ++ (st2 ++ [(1, 0)])).length (flatTy (st ++ (st2 ++ [(1, 0)])))) := by
                  unfold Hid; rw [hlen, ← List.append_assoc, ← flatTy_snoc]; exact hown3
                clear hBW hg3 hown3 hat3 hlt3
                go_roundw
                case rel => exact ⟨k2 + 1, st2 ++ [(1, 0)], by omega, by go_num, HG.out, by simp; exact HSK2.out, HOF.out, HBF.out⟩
                case measure => simp [intOf]; omega
            · have hg1' : (gk == 1) = false := by simpa using hg1
              have hg1n : (gk != 1) = true := by simpa using hg1
              have hgm' : (ga == -1) = false := by simp; omega
              have hga0 : 0 ≤ ga := by omega
              obtain ⟨p, rfl⟩ := Int.eq_ofNat_of_zero_le hga0
              have hp : p < cols.length := by omega
              obtain ⟨xb, xo, rfl, p0, p1⟩ := helx p hp
              simp only [Nat.add_zero] at p0
              have f0 := kp _ _ _ p0
              have f1 := kp _ _ _ p1
              have hxl := cell_lt f0
              have HC : Hid (colAt cols (p : Int) = (cols[p], true)) := by unfold Hid colAt; rw [if_pos (by omega)]; simp [hp]
              have HAG : Hid (aggTy (gk, (p : Int)) cols = (cols[p], !(gk == 2 && !(tNum cols[p])))) := by
                unfold Hid aggTy; simp only []; rw [HC.out, if_neg (by omega), if_neg hg1]
                by_cases h2 : gk = 2
                · simp [h2]
                · rw [if_neg h2, if_pos (by omega)]; simp [h2]
              clear kp p0 p1 helx gx hg1
              generalize hR : cols[p] = R at *
              clear hR
              have HFK : Hid (Keeps wr (wr.alloc (.cells #[.int .i64 gk, .int .i64 (p : Int)] 126))) := (Keeps.refl wr).alloc _
              go_wp2_with fail
              refine (isNum_any R _).mono ?_
              rintro e w1 ⟨rfl, hb1⟩
              obtain ⟨hcA, hfA, hlA⟩ := ((Box.new wr #[.int .i64 gk, .int .i64 (p : Int)] 126).call hb1).all
              have HO1 : Hid (w1.ownsRow (w.heap.size + 1) 108 2 u6 (st ++ st2).length (flatTy (st ++ st2))) := owns_call (HO.out.alloc _) hb1
              have hwz1 : w.heap.size + 1 ≤ w1.heap.size := by have := hb1.size; simp at this; omega
              have HBN1 : Hid (Below (w.heap.size + 1) (w.alloc (.cells #[.int .i64 n.op, .int .i64 n.a, .int .i64 n.b, .slice ae n.exprs.length ce, .slice ak n.keys.length ck, .slice ao n.others.length co, .slice (some ⟨b1, o1, none⟩) n.aggs.length ca] 71)) w1) := Below.step hb1 (HBN.out.alloc (by omega) _) (by simp; omega)
              have HB1 : Hid (Below w.heap.size w w1) := Below.step hb1 (HB.out.alloc (by omega) _) (by simp; omega)
              have F0 := (Keeps.of_below hb1) _ _ _ (HFK.out _ _ _ f0)
              have F1 := (Keeps.of_below hb1) _ _ _ (HFK.out _ _ _ f1)
              have hxl1 := cell_lt F0
              clear hb1 f0 f1 e0 e1 hcn hfn hln hxl HFK
              by_cases h2 : gk = 2
              · subst h2
                by_cases hT : tNum R = true
                · have HG : Hid (mapOk (fun g => aggTy g cols) (n.aggs.take (k2 + 1)) = some (st2 ++ [R])) := by
                    have := mapOk_go (f := fun g => aggTy g cols) hlt2 HR2.out (by rw [HGG.out, HAG.out, hT]; rfl)
                    rw [HGG.out, HAG.out] at this; exact this
                  have bN := Box.new (w1) #[.int .i64 R.1, .int .i64 R.2] 108
                  have HNW : Hid _ := new_two bN
                  have HOG : Hid _ := HO1.out.alloc (.cells #[.int .i64 R.1, .int .i64 R.2] 108)
                  have HS0 : Hid (((w1).alloc (.cells #[.int .i64 R.1, .int .i64 R.2] 108)).heap.size = w1.heap.size + 1) := by unfold Hid; simp
                  have HS1 : Hid (w.heap.size + 1 ≤ ((w1).alloc (.cells #[.int .i64 R.1, .int .i64 R.2] 108)).heap.size) := by unfold Hid; simp; omega
                  have HGW : Hid (∀ g, u6.ownBlock = some g → w.heap.size + 1 ≤ g) := fun g hg => (HO.out.lt g hg).1
                  clear bN
                  generalize hq : (st ++ st2).length = q at *
                  have HQ : Hid _ := hq
                  clear hq
                  go_wp2_with (at_builtin; refine app_one elem_rty _ (by rfl) _ _ (by rfl) (w.heap.size + 1) u6 q (flatTy (st ++ st2)) (by rfl) HOG.out (w1.heap.size) 1 1 _ (by rfl) rfl HNW.out (one_two _ _) (by omega) (by have := HL.out; omega) (by have := HL.out; omega) HS1.out (w1.heap.size + 1) HS0.out ?_; intro g3 cap3 w3 hown3 hg3 hat3 hlt3)
                  have hBW := HBN1.out.alloc (by omega) (.cells #[.int .i64 R.1, .int .i64 R.2] 108)
                  have HBF : Hid (Below (w.heap.size + 1) (w.alloc (.cells #[.int .i64 n.op, .int .i64 n.a, .int .i64 n.b, .slice ae n.exprs.length ce, .slice ak n.keys.length ck, .slice ao n.others.length co, .slice (some ⟨b1, o1, none⟩) n.aggs.length ca] 71)) w3) := hBW.grown hg3 (by simp; omega) (fun k' hk' => by have := HGW.out k' hk'; omega)
                  have hlen : (st ++ (st2 ++ [R])).length = q + 1 := by rw [← HQ.out]; simp; omega
                  have HOF : Hid (w3.ownsRow (w.heap.size + 1) 108 2 (.slice (some ⟨g3, 0, none⟩) (q + 1) cap3) (st ++ (st2 ++ [R])).length (flatTy (st ++ (st2 ++ [R])))) := by
                    unfold Hid; rw [hlen, ← List.append_assoc, ← flatTy_snoc]; exact hown3
                  clear hBW hg3 hown3 hat3 hlt3
                  go_roundw
                  case rel => exact ⟨k2 + 1, st2 ++ [R], by omega, by go_num, HG.out, by simp; exact HSK2.out, HOF.out, HBF.out⟩
                  case measure => simp [intOf]; omega
                · have hT' : tNum R = false := by simpa using hT
                  have HN : Hid (groupRun n cols = none) := by unfold Hid groupRun; rw [HE.out, mapOk_stop (f := fun g => aggTy g cols) hlt2 HR2.out (by rw [HGG.out, HAG.out, hT']; rfl)]
                  clear hT
                  go_wp2_with fail
                  go_ret2
                  exact ⟨by rw [HN.out]; exact ⟨_, rfl⟩, HB1.out⟩
              · have h2' : (gk == 2) = false := by simpa using h2
                have HG : Hid (mapOk (fun g => aggTy g cols) (n.aggs.take (k2 + 1)) = some (st2 ++ [R])) := by
                  have := mapOk_go (f := fun g => aggTy g cols) hlt2 HR2.out (by rw [HGG.out, HAG.out, h2']; rfl)
                  rw [HGG.out, HAG.out] at this; exact this
                clear h2
                have bN := Box.new (w1) #[.int .i64 R.1, .int .i64 R.2] 108
                have HNW : Hid _ := new_two bN
                have HOG : Hid _ := HO1.out.alloc (.cells #[.int .i64 R.1, .int .i64 R.2] 108)
                have HS0 : Hid (((w1).alloc (.cells #[.int .i64 R.1, .int .i64 R.2] 108)).heap.size = w1.heap.size + 1) := by unfold Hid; simp
                have HS1 : Hid (w.heap.size + 1 ≤ ((w1).alloc (.cells #[.int .i64 R.1, .int .i64 R.2] 108)).heap.size) := by unfold Hid; simp; omega
                have HGW : Hid (∀ g, u6.ownBlock = some g → w.heap.size + 1 ≤ g) := fun g hg => (HO.out.lt g hg).1
                clear bN
                generalize hq : (st ++ st2).length = q at *
                have HQ : Hid _ := hq
                clear hq
                go_wp2_with (at_builtin; refine app_one elem_rty _ (by rfl) _ _ (by rfl) (w.heap.size + 1) u6 q (flatTy (st ++ st2)) (by rfl) HOG.out (w1.heap.size) 1 1 _ (by rfl) rfl HNW.out (one_two _ _) (by omega) (by have := HL.out; omega) (by have := HL.out; omega) HS1.out (w1.heap.size + 1) HS0.out ?_; intro g3 cap3 w3 hown3 hg3 hat3 hlt3)
                have hBW := HBN1.out.alloc (by omega) (.cells #[.int .i64 R.1, .int .i64 R.2] 108)
                have HBF : Hid (Below (w.heap.size + 1) (w.alloc (.cells #[.int .i64 n.op, .int .i64 n.a, .int .i64 n.b, .slice ae n.exprs.length ce, .slice ak n.keys.length ck, .slice ao n.others.length co, .slice (some ⟨b1, o1, none⟩) n.aggs.length ca] 71)) w3) := hBW.grown hg3 (by simp; omega) (fun k' hk' => by have := HGW.out k' hk'; omega)
                have hlen : (st ++ (st2 ++ [R])).length = q + 1 := by rw [← HQ.out]; simp; omega
                have HOF : Hid (w3.ownsRow (w.heap.size + 1) 108 2 (.slice (some ⟨g3, 0, none⟩) (q + 1) cap3) (st ++ (st2 ++ [R])).length (flatTy (st ++ (st2 ++ [R])))) := by
                  unfold Hid; rw [hlen, ← List.append_assoc, ← flatTy_snoc]; exact hown3
                clear hBW hg3 hown3 hat3 hlt3
                go_roundw
                case rel => exact ⟨k2 + 1, st2 ++ [R], by omega, by go_num, HG.out, by simp; exact HSK2.out, HOF.out, HBF.out⟩
                case measure => simp [intOf]; omega
          · have HN : Hid (groupRun n cols = none) := by
              have ha : (aggTy (gk, ga) cols).2 = false := by
                unfold aggTy colAt
                simp only []
                repeat' split
                all_goals first | rfl | (exfalso; omega) | (simp; omega) | skip
              unfold Hid groupRun; rw [HE.out, mapOk_stop (f := fun g => aggTy g cols) hlt2 HR2.out (by rw [HGG.out]; exact ha)]
            have HBA : Hid (Below w.heap.size w (wr.alloc (.cells #[.int .i64 gk, .int .i64 ga] 126))) := HB.out.alloc (by omega) _
            clear kp helx
            by_cases q1 : gk < 1
            · clear hok
              go_wp2_with fail
              go_ret2
              exact ⟨by rw [HN.out]; exact ⟨_, rfl⟩, HBA.out⟩
            by_cases q2 : 4 < gk
            · clear hok
              go_wp2_with fail
              go_ret2
              exact ⟨by rw [HN.out]; exact ⟨_, rfl⟩, HBA.out⟩
            by_cases q3 : (cols.length : Int) ≤ ga
            · clear hok
              go_wp2_with fail
              go_ret2
              exact ⟨by rw [HN.out]; exact ⟨_, rfl⟩, HBA.out⟩
            by_cases q4 : ga < -1
            · clear hok
              go_wp2_with fail
              go_ret2
              exact ⟨by rw [HN.out]; exact ⟨_, rfl⟩, HBA.out⟩
            have q5 : ga = -1 := by omega
            have q6 : (gk != 1) = true := by simp; omega
            subst q5
            clear hok
            go_wp2_with fail
            go_ret2
            exact ⟨by rw [HN.out]; exact ⟨_, rfl⟩, HBA.out⟩
        · have hke2 : n.aggs.take k2 = n.aggs := List.take_of_length_le (by omega)
          have HE2 : Hid (mapOk (fun g => aggTy g cols) n.aggs = some st2) := by have := HR2.out; rw [hke2] at this; exact this
          have HT : Hid (RTys wr u6 (st ++ st2) ∧ BlkOf 108 wr u6) := ⟨RTys.owns HO.out (by have := HL.out; omega), BlkOf.owns HO.out⟩
          obtain ⟨az, cz, rfl⟩ := owns_shape HO.out
          have HEX : Hid (groupRun n cols = if 1 ≤ (st ++ st2).length ∧ (st ++ st2).length ≤ 8 then some (st ++ st2) else none) := by unfold Hid groupRun; rw [HE.out]; simp only []; rw [HE2.out]
          clear hke2 helx bn
          generalize hq : (st ++ st2).length = q at *
          have HQ : Hid _ := hq
          clear hq
          by_cases hq1 : 1 ≤ q
          · go_wp2_with fail
            go_ret2
            refine ⟨?_, HB.out⟩
            rw [HEX.out]
            by_cases hq : 1 ≤ q ∧ q ≤ 8
            · rw [if_pos hq]
              refine ⟨_, ?_, HT.out⟩
              simp; omega
            · rw [if_neg hq]
              refine ⟨.slice az q cz, ?_⟩
              simp; omega
          · have hq0 : q = 0 := by omega
            subst hq0
            go_wp2_with fail
            go_ret2
            refine ⟨?_, HB.out⟩
            rw [HEX.out, if_neg (by omega)]
            exact ⟨.slice az 0 cz, rfl⟩

end Go.Proofs.YtekkicgbloidkaaGreatDoor
/- The reference's look at how a node hangs together. -/
namespace Go.Proofs.YtekkicgbloidkaaGreatDoor
open Go Go.RowKit

set_option maxHeartbeats 1000000 in
theorem child_any (bs : Nat) (vk : Value) (tk : List Bool) (p : Int) (w : World) (h1c : w.cell? ⟨bs, 1, none⟩ = some vk) (hk : RBools w vk tk) :
    Calls Tryz.prog 73 #[.pointer (some ⟨bs, 0, none⟩), .int .i64 p, .int .i64 (tk.length : Int)] w fun e w' => e = .returned (.bool (freeB tk p)) ∧ w' = w := by
  obtain ⟨ao, cap, rfl, hl, hel⟩ := hk
  by_cases h : 0 ≤ p ∧ p < tk.length
  · obtain ⟨h1, h2⟩ := h
    obtain ⟨q, rfl⟩ := Int.eq_ofNat_of_zero_le h1
    have hq : q < tk.length := by omega
    obtain ⟨b, off, rfl, hr⟩ := hel q hq
    simp only [RBool, Nat.mul_one, Nat.add_zero] at hr
    have HP : Hid (freeB tk q = !tk[q]) := by unfold Hid freeB; simp [hq]
    go_enter Tryz.func73, Tryz.ntmps73
    go_wp2
    go_ret
    exact ⟨by rw [HP.out]; simp, rfl⟩
  · have HP : Hid (freeB tk p = false) := by unfold Hid freeB; simp; omega
    by_cases h1 : p < 0
    · have hd : decide (0 ≤ p) = false := by simp; omega
      go_enter Tryz.func73, Tryz.ntmps73
      go_wp2
      go_ret
      exact ⟨by rw [HP.out]; rfl, rfl⟩
    · have h1' : 0 ≤ p := by omega
      have h2 : (tk.length : Int) ≤ p := by omega
      obtain ⟨q, rfl⟩ := Int.eq_ofNat_of_zero_le h1'
      have h3 : tk.length ≤ q := by omega
      clear h h1
      go_enter Tryz.func73, Tryz.ntmps73
      go_wp2
      go_ret
      exact ⟨by rw [HP.out]; rfl, rfl⟩

def shapeN (op a b : Int) (le lk lo la nt : Nat) (tk : List Bool) : Bool := sourceN op a b nt tk && countsN op le lk lo la

set_option maxHeartbeats 4000000 in
theorem shapeN_any (bs : Nat) (op a b : Int) (vk : Value) (tk : List Bool) (ae ak ao aa : Option Addr) (le lk lo la ce ck co ca nt : Nat) (w : World) (h1c : w.cell? ⟨bs, 1, none⟩ = some vk) (hk : RBools w vk tk) :
    Calls Tryz.prog 57 #[.pointer (some ⟨bs, 0, none⟩), .agg #[.int .i64 op, .int .i64 a, .int .i64 b, .slice ae le ce, .slice ak lk ck, .slice ao lo co, .slice aa la ca], .int .i64 (tk.length : Int), .int .i64 nt] w fun e w' => e = .returned (.bool (shapeN op a b le lk lo la nt tk)) ∧ Below w.heap.size w w' := by
  have kp := (Keeps.refl w).alloc (.cells #[.int .i64 op, .int .i64 a, .int .i64 b, .slice ae le ce, .slice ak lk ck, .slice ao lo co, .slice aa la ca] 71)
  have h1' := kp _ _ _ h1c
  have hk' := hk.mono mono_RBool kp
  clear kp h1c hk
  by_cases hop : op = 1 ∨ op = 2 ∨ op = 3 ∨ op = 4 ∨ op = 5
  · rcases hop with rfl | rfl | rfl | rfl | rfl
    · go_enter Tryz.func57, Tryz.ntmps57
      go_wp2
      all_goals (go_ret; refine ⟨?_, (Below.refl _ _).alloc (Nat.le_refl _) _⟩; go_light; clear hk' h1'; simp_all [shapeN, sourceN, countsN] <;> omega)
    all_goals
      by_cases hfa : freeB tk a = true
      · by_cases hfb : freeB tk b = true
        · go_enter Tryz.func57, Tryz.ntmps57
          go_wp2_with (go_at_call 73; refine (child_any bs vk tk _ _ h1' hk').mono ?_; rintro e w1 ⟨rfl, rfl⟩)
          all_goals (go_ret; refine ⟨?_, (Below.refl _ _).alloc (Nat.le_refl _) _⟩; go_light; clear hk' h1'; simp_all [shapeN, sourceN, countsN] <;> omega)
        · have hfb' : freeB tk b = false := by simpa using hfb
          clear hfb
          go_enter Tryz.func57, Tryz.ntmps57
          go_wp2_with (go_at_call 73; refine (child_any bs vk tk _ _ h1' hk').mono ?_; rintro e w1 ⟨rfl, rfl⟩)
          all_goals (go_ret; refine ⟨?_, (Below.refl _ _).alloc (Nat.le_refl _) _⟩; go_light; clear hk' h1'; simp_all [shapeN, sourceN, countsN] <;> omega)
      · have hfa' : freeB tk a = false := by simpa using hfa
        clear hfa
        go_enter Tryz.func57, Tryz.ntmps57
        go_wp2_with (go_at_call 73; refine (child_any bs vk tk _ _ h1' hk').mono ?_; rintro e w1 ⟨rfl, rfl⟩)
        all_goals (go_ret; refine ⟨?_, (Below.refl _ _).alloc (Nat.le_refl _) _⟩; go_light; clear hk' h1'; simp_all [shapeN, sourceN, countsN] <;> omega)
  · have HE : Hid (shapeN op a b le lk lo la nt tk = false) := by
      unfold Hid shapeN sourceN; rw [if_neg (by omega), if_neg (by omega), if_neg (by omega)]; rfl
    have g1 : (op == 1) = false := by simp; omega
    have g2 : (op == 2) = false := by simp; omega
    have g3 : (op == 3) = false := by simp; omega
    have g4 : (op == 4) = false := by simp; omega
    have g5 : (op == 5) = false := by simp; omega
    go_enter Tryz.func57, Tryz.ntmps57
    go_wp2
    go_ret
    exact ⟨by rw [HE.out]; rfl, (Below.refl _ _).alloc (Nat.le_refl _) _⟩

theorem shape_any (bs : Nat) (n : DNode) (ve vk' vo va vk : Value) (tk : List Bool) (nt : Nat) (w : World) (hn : NodeIs w ve vk' vo va n) (h1c : w.cell? ⟨bs, 1, none⟩ = some vk) (hk : RBools w vk tk) :
    Calls Tryz.prog 57 #[.pointer (some ⟨bs, 0, none⟩), nodeV n ve vk' vo va, .int .i64 (tk.length : Int), .int .i64 nt] w fun e w' => e = .returned (.bool (sourceN n.op n.a n.b nt tk && countsFit n)) ∧ Below w.heap.size w w' := by
  obtain ⟨ae, ce, ak, ck, ao, co, aa, ca, rfl, rfl, rfl, rfl⟩ := hn.shape
  exact shapeN_any bs _ _ _ vk tk _ _ _ _ _ _ _ _ _ _ _ _ nt w h1c hk

end Go.Proofs.YtekkicgbloidkaaGreatDoor
/- The look over tables and a plan, as a function of what they hold. -/
namespace Go.Proofs.YtekkicgbloidkaaGreatDoor
open Go

abbrev LSt := List (List (Int × Int)) × List Bool

def lookStep (ts : List (List DCol)) (i : Nat) (n : DNode) (st : LSt) : Except Int LSt :=
  if hangs n i ts.length st.2 = true then
    match colsRun n ts st.1 with
    | none => .error 4
    | some l => .ok (st.1 ++ [l], setAll st.2 (childrenOf n.op n.a n.b) ++ [false])
  else .error 3

/-- The first k nodes have been looked at, and were right. -/
def lookUpTo (ts : List (List DCol)) (ns : List DNode) : Nat → Except (Int × Nat) LSt
  | 0 => .ok ([], [])
  | k + 1 =>
    match lookUpTo ts ns k with
    | .error e => .error e
    | .ok st =>
      match ns[k]? with
      | none => .ok st
      | some n =>
        match lookStep ts k n st with
        | .error c => .error (c, k)
        | .ok st' => .ok st'

theorem lookUpTo_err {ts : List (List DCol)} {ns : List DNode} {k m : Nat} {e : Int × Nat} (h : lookUpTo ts ns k = .error e) (hm : k ≤ m) : lookUpTo ts ns m = .error e := by
  induction m with
  | zero => have : k = 0 := by omega
            subst this; exact h
  | succ m ih =>
    by_cases hk : k = m + 1
    · subst hk; exact h
    · simp only [lookUpTo]; rw [ih (by omega)]
theorem lookUpTo_go {ts : List (List DCol)} {ns : List DNode} {k : Nat} {st st' : LSt} (hk : k < ns.length) (h : lookUpTo ts ns k = .ok st) (hs : lookStep ts k ns[k] st = .ok st') : lookUpTo ts ns (k + 1) = .ok st' := by
  simp only [lookUpTo]; rw [h]; simp only []; rw [List.getElem?_eq_getElem hk]; simp only []; rw [hs]
theorem lookUpTo_stop {ts : List (List DCol)} {ns : List DNode} {k : Nat} {st : LSt} {c : Int} (hk : k < ns.length) (h : lookUpTo ts ns k = .ok st) (hs : lookStep ts k ns[k] st = .error c) : lookUpTo ts ns ns.length = .error (c, k) := by
  refine lookUpTo_err (k := k + 1) ?_ hk
  simp only [lookUpTo]; rw [h]; simp only []; rw [List.getElem?_eq_getElem hk]; simp only []; rw [hs]

def looseAt (tk : List Bool) : Option Nat := if tk.length = 0 then some 0 else firstBad (fun j => tk.getD j false) (tk.length - 1)

def lookSpec (ts : List (List DCol)) (ns : List DNode) : Except (Int × Nat) (List (List (Int × Int))) :=
  match firstBad (tabOk ts) ts.length with
  | some p => .error (2, p)
  | none =>
    match lookUpTo ts ns ns.length with
    | .error e => .error e
    | .ok st => match looseAt st.2 with
      | some p => .error (3, p)
      | none => .ok st.1

/-- Each node has one to eight columns. -/
def Wide (tys : List (List (Int × Int))) : Prop := ∀ j (hj : j < tys.length), 1 ≤ tys[j].length ∧ tys[j].length ≤ 8

theorem projRun_length {cols : List (Int × Int)} {es : List (List DTerm)} {l : List (Int × Int)} (h : projRun cols es = some l) : l.length = es.length := by
  induction es generalizing l with
  | nil => simp only [projRun, Option.some.injEq] at h; subst h; rfl
  | cons a r ih =>
    simp only [projRun] at h
    split at h
    · cases hp : projRun cols r with
      | none => rw [hp] at h; simp at h
      | some s => rw [hp] at h; simp only [Option.map_some, Option.some.injEq] at h; subst h; simp [ih hp]
    · simp at h

theorem colsRun_wide {ts : List (List DCol)} {tys : List (List (Int × Int))} {tk : List Bool} {n : DNode} {i : Nat} {l : List (Int × Int)} (hw : Wide tys) (hlen : tk.length = tys.length) (ht : ∀ j (hj : j < ts.length), rightTab ts[j] = true) (hg : hangs n i ts.length tk = true) (hc : colsRun n ts tys = some l) : 1 ≤ l.length ∧ l.length ≤ 8 := by
  unfold hangs at hg
  simp only [Bool.and_eq_true] at hg
  obtain ⟨-, hs, hcf⟩ := hg
  obtain ⟨op, a, b, es, ks, os, ags⟩ := n
  simp only [sourceN] at hs
  simp only [countsFit, countsN] at hcf
  simp only [colsRun] at hc
  by_cases h1 : op = 1
  · subst h1
    simp only [if_true, Bool.and_eq_true, decide_eq_true_eq] at hs
    obtain ⟨p, rfl⟩ := Int.eq_ofNat_of_zero_le hs.1
    have hp : p < ts.length := by omega
    simp [hp] at hc
    subst hc
    have := ht p hp
    unfold rightTab at this
    simp at this
    simp [tabTys]; omega
  rw [if_neg h1] at hs hc
  by_cases h2 : op = 2
  · subst h2
    simp only [true_or, if_true] at hs
    obtain ⟨ha, hp⟩ := freeB_lt hs
    rw [if_pos rfl] at hc
    split at hc
    · simp only [Option.some.injEq] at hc
      subst hc
      have := hw a.toNat (by omega)
      simpa [show a.toNat < tys.length by omega] using this
    · simp at hc
  rw [if_neg h2] at hc
  by_cases h3 : op = 3
  · subst h3
    rw [if_pos rfl] at hc
    simp only [Int.reduceEq, if_false, if_true] at hcf
    have := projRun_length hc
    simp at hcf; omega
  rw [if_neg h3] at hc
  by_cases h4 : op = 4
  · subst h4
    rw [if_pos rfl] at hc
    simp only [Int.reduceEq, false_or, if_false, if_true, Bool.and_eq_true] at hs
    obtain ⟨ha, hp⟩ := freeB_lt hs.1.1
    have hwa := hw a.toNat (by omega)
    unfold joinRun at hc
    split at hc
    · rename_i hj
      simp only [Option.some.injEq] at hc
      subst hc
      refine ⟨?_, hj.2⟩
      simp [show a.toNat < tys.length by omega]; omega
    · simp at hc
  rw [if_neg h4] at hc
  unfold groupRun at hc
  split at hc
  · simp at hc
  · split at hc
    · simp at hc
    · split at hc
      · rename_i hj
        simp only [Option.some.injEq] at hc
        subst hc; exact hj
      · simp at hc

end Go.Proofs.YtekkicgbloidkaaGreatDoor
/- The first node that is nobody's child; the look itself. -/
namespace Go.Proofs.YtekkicgbloidkaaGreatDoor
open Go Go.RowKit

set_option maxHeartbeats 1000000 in
theorem loose_any {w : World} {bs : Nat} {vt vn vy vk : Value} {ts : List (List DCol)} {ns : List DNode} {tys : List (List (Int × Int))} {tk : List Bool} (sv : Surv w bs vt vn vy vk ts ns tys tk) (hl : tk.length = ns.length) :
    Calls Tryz.prog 55 #[.pointer (some ⟨bs, 0, none⟩)] w fun e w' => e = .returned (.tuple #[.int .i64 (told (looseAt tk)).1, .bool (told (looseAt tk)).2]) ∧ w' = w := by
  obtain ⟨an, cn, rfl, hns⟩ := sv.nodes.shape
  obtain ⟨ak, ck, rfl, hks, hel⟩ := sv.taken
  have e1 := sv.c1
  have e3 := sv.c3
  clear sv
  by_cases h0 : ns.length = 0
  · have HE : Hid (looseAt tk = some 0) := by unfold Hid looseAt; rw [if_pos (by omega)]
    rw [h0] at e1
    go_enter Tryz.func55, Tryz.ntmps55
    go_wp2
    go_ret2
    exact ⟨by rw [HE.out]; rfl, rfl⟩
  have HE : Hid (looseAt tk = firstBad (fun j => tk.getD j false) (tk.length - 1)) := by unfold Hid looseAt; rw [if_neg (by omega)]
  obtain ⟨m, hm⟩ : ∃ m, ns.length = m + 1 := ⟨ns.length - 1, by omega⟩
  rw [hm] at e1 hl hns
  have hkm : tk.length = m + 1 := hl
  have HKM : Hid _ := hkm
  rw [hkm] at e3
  clear h0 hm hl hkm
  have hlm : m + 1 ≤ 9223372036854775807 := hns
  go_enter Tryz.func55, Tryz.ntmps55
  go_wp2
  go_loop [17] (fun i => ∃ k : Nat, k ≤ m ∧ i = .int .i64 k ∧ (∀ j, j < k → tk.getD j false = true)) (fun i => m - (intOf i).toNat)
  case atStart => exact ⟨0, Nat.zero_le _, rfl, fun j h => absurd h (Nat.not_lt_zero _)⟩
  case round =>
    obtain ⟨k, hk, rfl, hall⟩ := hrel
    have HA : Hid _ := hall
    clear hall
    by_cases hlt : k < m
    · have hkt : k < tk.length := by have := HKM.out; omega
      obtain ⟨b, off, rfl, hc⟩ := hel k hkt
      simp only [RBool, Nat.mul_one, Nat.add_zero] at hc
      have hi1 : (k : Int) < ((m + 1 : Nat) : Int) := by omega
      by_cases ht : tk[k] = true
      · rw [ht] at hc
        clear hel
        go_wp2
        go_round
        case rel =>
          refine ⟨k + 1, by omega, by go_num, fun j hj => ?_⟩
          rcases Nat.lt_succ_iff_lt_or_eq.1 hj with h | rfl
          · exact HA.out j h
          · simp [hkt, ht]
        case measure => simp [intOf]; omega
      · have ht' : tk[k] = false := by simpa using ht
        rw [ht'] at hc
        have HB : Hid (looseAt tk = some k) := by
          unfold Hid
          rw [HE.out]
          exact firstBad_some (by have := HKM.out; omega) HA.out (by simp [hkt, ht'])
        clear hel ht
        go_wp2
        go_ret2
        exact ⟨by rw [HB.out]; rfl, rfl⟩
    · have HB : Hid (looseAt tk = none) := by
        unfold Hid
        rw [HE.out]
        exact firstBad_none (fun j hj => HA.out j (by have := HKM.out; omega))
      go_wp2
      go_ret2
      exact ⟨by rw [HB.out]; rfl, rfl⟩

/-- What the look answers. -/
def LookRet (w' : World) (e : Ending) (o : Except (Int × Nat) (List (List (Int × Int)))) : Prop :=
  match o with
  | .error (c, p) => e = .returned (.tuple #[.slice none 0 0, .int .i64 c, .int .i64 p])
  | .ok tys => ∃ v, e = .returned (.tuple #[v, .int .i64 0, .int .i64 0]) ∧ RTyss w' v tys

set_option maxHeartbeats 2000000 in
theorem look_any (ts : List (List DCol)) (ns : List DNode) (vt vn : Value) (w : World) (ht : RTabs w vt ts) (hn : RNodes w vn ns) :
    Calls Tryz.prog 35 #[vt, vn] w fun e w' => LookRet w' e (lookSpec ts ns) ∧ Below w.heap.size w w' := by
  obtain ⟨at', ct, rfl, -⟩ := ht.shape
  obtain ⟨an, cn, rfl, hnl⟩ := hn.shape
  go_enter Tryz.func35, Tryz.ntmps35
  go_wp2_with fail
  refine (wrongTable_any ts _ w ht).mono ?_
  rintro e w1 ⟨rfl, hb1⟩
  have HB1 : Hid (Below w.heap.size w w1) := hb1
  have hz1 := hb1.size
  clear hb1
  cases hF : firstBad (tabOk ts) ts.length with
  | some p =>
    have HS : Hid (lookSpec ts ns = .error (2, p)) := by unfold Hid lookSpec; rw [hF]
    rw [told_some]
    clear hF
    go_wp2_with fail
    go_ret3
    exact ⟨by rw [HS.out]; rfl, HB1.out⟩
  | none =>
    have HF : Hid _ := hF
    have hall : ∀ j (hj : j < ts.length), rightTab ts[j] = true := by
      intro j hj
      unfold firstBad at hF
      rw [List.find?_eq_none] at hF
      have := hF j (List.mem_range.2 hj)
      simp [tabOk, hj] at this
      exact this.2
    have HALL : Hid _ := hall
    rw [told_none]
    clear hF hall
    go_wp2_with fail
    go_loopw [27] (fun x W => ∃ (k : Nat) (tys : List (List (Int × Int))) (tk : List Bool) (vy vk : Value) (vals : List Value), k ≤ ns.length ∧ x = .int .i64 k ∧ lookUpTo ts ns k = .ok (tys, tk) ∧ tk.length = k ∧ tys.length = k ∧ k ≤ 10 ∧ Wide tys ∧ Own w W w1.heap.size (.slice at' ts.length ct) (.slice an ns.length cn) vy vk ts ns tys tk vals)
      (fun x _ => ns.length - (intOf x).toNat)
    case atStart =>
      refine ⟨0, [], [], .slice none 0 0, .slice none 0 0, [], Nat.zero_le _, rfl, rfl, rfl, rfl, by omega, fun j hj => by simp at hj, ?_⟩
      exact ⟨HB1.out.alloc hz1 _, ht, hn, hz1, Box.new _ _ _, World.ownsRow_nil _ _ _ _, World.ownsRow_nil _ _ _ _, by simp, by simp, fun j hj => by simp at hj⟩
    case round =>
      obtain ⟨k, tys, tk, vy, vk, vals, hk, rfl, hup, htk, hty, h10, hwd, hown⟩ := hrel
      have HUP : Hid _ := hup
      have HTK : Hid _ := htk
      have HTY : Hid _ := hty
      have HW : Hid (Wide tys) := hwd
      have HO : Hid (Own w wr w1.heap.size (.slice at' ts.length ct) (.slice an ns.length cn) vy vk ts ns tys tk vals) := hown
      clear hup htk hty hwd hown
      by_cases hlt : k < ns.length
      · go_wp2_with fail
        refine (add_any HO.out (by rw [HTK.out, HTY.out]) hlt (by have := HTY.out; omega) HW.out (fun j hj => by have := HALL.out j hj; unfold rightTab at this; simp at this; omega)).mono ?_
        rintro e w2 (⟨hg, rfl, hb⟩ | ⟨hg, hc, rfl, hb⟩ | ⟨hg, l, hc, rfl, vy2, vk2, vals2, hown2⟩)
        · have HS : Hid (lookSpec ts ns = .error (3, k)) := by
            unfold Hid lookSpec
            rw [HF.out]; simp only []
            rw [lookUpTo_stop hlt HUP.out (c := 3) (by unfold lookStep; rw [if_neg (by simp [hg])])]
          clear hg
          go_wp2_with fail
          go_ret3
          exact ⟨by rw [HS.out]; rfl, hb⟩
        · have HS : Hid (lookSpec ts ns = .error (4, k)) := by
            unfold Hid lookSpec
            rw [HF.out]; simp only []
            rw [lookUpTo_stop hlt HUP.out (c := 4) (by unfold lookStep; rw [if_pos hg]; simp only []; rw [hc])]
          clear hg hc
          go_wp2_with fail
          go_ret3
          exact ⟨by rw [HS.out]; rfl, hb⟩
        · have HG : Hid (lookUpTo ts ns (k + 1) = .ok (tys ++ [l], setAll tk (childrenOf ns[k].op ns[k].a ns[k].b) ++ [false])) := lookUpTo_go hlt HUP.out (by unfold lookStep; rw [if_pos hg]; simp only []; rw [hc])
          have hwl := colsRun_wide HW.out (by rw [HTK.out, HTY.out]) HALL.out hg hc
          have hk10 : k < 10 := by unfold hangs at hg; simp at hg; omega
          have HWD : Hid (Wide (tys ++ [l])) := by
            intro j hj
            rw [List.length_append, List.length_singleton] at hj
            by_cases hjl : j < tys.length
            · rw [List.getElem_append_left hjl]; exact HW.out j hjl
            · rw [List.getElem_append_right (by omega)]; simpa using hwl
          have HO2 : Hid (Own w w2 w1.heap.size (.slice at' ts.length ct) (.slice an ns.length cn) vy2 vk2 ts ns (tys ++ [l]) (setAll tk (childrenOf ns[k].op ns[k].a ns[k].b) ++ [false]) vals2) := hown2
          clear hg hc hwl hown2
          go_wp2_with fail
          go_roundw
          case rel => exact ⟨k + 1, tys ++ [l], _, vy2, vk2, vals2, by omega, by go_num, HG.out, by rw [List.length_append, setAll_length, HTK.out]; rfl, by simp [HTY.out], by omega, HWD.out, HO2.out⟩
          case measure => simp [intOf]; omega
      · have hkn : k = ns.length := by omega
        subst hkn
        have sv := HO.out.surv
        have HSV : Hid _ := sv
        go_wp2_with fail
        refine (loose_any HSV.out HTK.out).mono ?_
        rintro e w2 ⟨rfl, rfl⟩
        cases hL : looseAt tk with
        | some p =>
          have HS : Hid (lookSpec ts ns = .error (3, p)) := by
            unfold Hid lookSpec
            rw [HF.out]; simp only []
            rw [HUP.out]; simp only []; rw [hL]
          rw [told_some]
          clear hL sv
          go_wp2_with fail
          go_ret3
          exact ⟨by rw [HS.out]; rfl, HO.out.below⟩
        | none =>
          have HS : Hid (lookSpec ts ns = .ok tys) := by
            unfold Hid lookSpec
            rw [HF.out]; simp only []
            rw [HUP.out]; simp only []; rw [hL]
          have e2 := sv.c2
          rw [told_none]
          clear hL sv
          go_wp2_with fail
          go_ret3
          exact ⟨by rw [HS.out]; exact ⟨_, rfl, HSV.out.types⟩, HO.out.below⟩

end Go.Proofs.YtekkicgbloidkaaGreatDoor
/- The calls Check and Types of the program. -/
namespace Go.Proofs.YtekkicgbloidkaaGreatDoor
open Go Go.RowKit

theorem lookUpTo_inv {ts : List (List DCol)} {ns : List DNode} (ht : ∀ j (hj : j < ts.length), rightTab ts[j] = true) : ∀ (k : Nat) (st : LSt), lookUpTo ts ns k = .ok st → st.2.length = st.1.length ∧ Wide st.1 := by
  intro k
  induction k with
  | zero => intro st h; simp only [lookUpTo, Except.ok.injEq] at h; subst h; exact ⟨rfl, fun j hj => by simp at hj⟩
  | succ k ih =>
    intro st h
    simp only [lookUpTo] at h
    cases hp : lookUpTo ts ns k with
    | error e => rw [hp] at h; simp at h
    | ok s =>
      rw [hp] at h
      obtain ⟨hl, hw⟩ := ih s hp
      simp only [] at h
      cases hn : ns[k]? with
      | none => rw [hn] at h; simp only [Except.ok.injEq] at h; subst h; exact ⟨hl, hw⟩
      | some n =>
        rw [hn] at h
        simp only [] at h
        unfold lookStep at h
        by_cases hg : hangs n k ts.length s.2 = true
        · rw [if_pos hg] at h
          cases hc : colsRun n ts s.1 with
          | none => rw [hc] at h; simp at h
          | some l =>
            rw [hc] at h
            simp only [Except.ok.injEq] at h
            subst h
            have hwl := colsRun_wide hw hl ht hg hc
            refine ⟨by simp [setAll_length, hl], fun j hj => ?_⟩
            simp only [List.length_append, List.length_singleton] at hj
            simp only []
            by_cases hjl : j < s.1.length
            · rw [List.getElem_append_left hjl]; exact hw j hjl
            · rw [List.getElem_append_right (by omega)]; simpa using hwl
        · rw [if_neg hg] at h; simp at h

theorem lookSpec_ok {ts : List (List DCol)} {ns : List DNode} {tys : List (List (Int × Int))} (h : lookSpec ts ns = .ok tys) : 0 < tys.length ∧ Wide tys := by
  unfold lookSpec at h
  cases hF : firstBad (tabOk ts) ts.length with
  | some p => rw [hF] at h; simp at h
  | none =>
    rw [hF] at h
    simp only [] at h
    have hall : ∀ j (hj : j < ts.length), rightTab ts[j] = true := by
      intro j hj
      unfold firstBad at hF
      rw [List.find?_eq_none] at hF
      have := hF j (List.mem_range.2 hj)
      simp [tabOk, hj] at this
      exact this.2
    cases hU : lookUpTo ts ns ns.length with
    | error e => rw [hU] at h; simp at h
    | ok st =>
      rw [hU] at h
      simp only [] at h
      obtain ⟨hl, hw⟩ := lookUpTo_inv hall _ _ hU
      cases hL : looseAt st.2 with
      | some p => rw [hL] at h; simp at h
      | none =>
        rw [hL] at h
        simp only [Except.ok.injEq] at h
        subst h
        refine ⟨?_, hw⟩
        unfold looseAt at hL
        split at hL
        · simp at hL
        · omega

def checkOf (o : Except (Int × Nat) (List (List (Int × Int)))) : Int × Int :=
  match o with
  | .error (c, p) => (c, (p : Int))
  | .ok _ => (0, 0)
abbrev faultV (p : Int) : Value := .agg #[.int .i64 p, .slice none 0 0]

theorem LookRet.shape {w : World} {e : Ending} {o : Except (Int × Nat) (List (List (Int × Int)))} (h : LookRet w e o) : ∃ v, e = .returned (.tuple #[v, .int .i64 (checkOf o).1, .int .i64 (checkOf o).2]) ∧ (∀ tys, o = .ok tys → RTyss w v tys) := by
  cases o with
  | error e => obtain ⟨c, p⟩ := e; exact ⟨_, h, fun tys ht => by simp at ht⟩
  | ok tys => obtain ⟨v, h1, h2⟩ := h; exact ⟨v, h1, fun t ht => by simp only [Except.ok.injEq] at ht; subst ht; exact h2⟩

set_option maxHeartbeats 1000000 in
theorem check_any (ts : List (List DCol)) (ns : List DNode) (vt vn : Value) (w : World) (ht : RTabs w vt ts) (hn : RNodes w vn ns) :
    Calls Tryz.prog 11 #[vt, vn] w fun e w' => e = .returned (.tuple #[.int .i64 (checkOf (lookSpec ts ns)).1, faultV (checkOf (lookSpec ts ns)).2]) ∧ Below w.heap.size w w' := by
  have kp := (Keeps.refl w).alloc (.cells #[.int .i64 0, .slice none 0 0] 46)
  have ht' := RSl.mono mono_RTab kp ht
  have hn' := RSl.mono mono_RNode kp hn
  have br := Box.new w #[.int .i64 0, .slice none 0 0] 46
  clear kp
  generalize hO : lookSpec ts ns = o at *
  have HO : Hid _ := hO
  clear hO
  go_enter Tryz.func11, Tryz.ntmps11
  go_wp2_with fail
  refine (look_any ts ns vt vn _ ht' hn').mono ?_
  rintro e w1 ⟨hret, hb1⟩
  obtain ⟨v, rfl, -⟩ := hret.shape
  rw [HO.out]
  have hB1 : Below w.heap.size w w1 := Below.step hb1 ((Below.refl _ _).alloc (by simp) _) (by simp)
  obtain ⟨hcr, hfr, hlr⟩ := (br.call hb1).all
  clear hret hb1 ht' hn'
  go_wp2_with fail
  exact bodyPost_ret (v := .tuple #[.int .i64 (checkOf o).1, faultV (checkOf o).2]) (by simp [results, Tryz.results11, go_sem, hcr]) rfl ⟨rfl, (hB1.setCell (by simp) _).setCell (by simp) _⟩

/-- The cells of a row are columns without entries, up to k. -/
def ColsUpTo (cs : Array Value) (l : List (Int × Int)) (k : Nat) : Prop := ∀ j (h : j < l.length), j < k → cs[j * 5]? = some (.int .i64 l[j].1) ∧ cs[j * 5 + 1]? = some (.int .i64 l[j].2) ∧ cs[j * 5 + 2]? = some (.slice none 0 0) ∧ cs[j * 5 + 3]? = some (.slice none 0 0) ∧ cs[j * 5 + 4]? = some (.slice none 0 0)

theorem ColsUpTo.step {cs : Array Value} {l : List (Int × Int)} {k : Nat} (h : ColsUpTo cs l k) (hk : k < l.length) (hs : cs.size = l.length * 5) :
    ColsUpTo (((((cs.setIfInBounds (k * 5) (.int .i64 l[k].1)).setIfInBounds (k * 5 + 1) (.int .i64 l[k].2)).setIfInBounds (k * 5 + 2) (.slice none 0 0)).setIfInBounds (k * 5 + 3) (.slice none 0 0)).setIfInBounds (k * 5 + 4) (.slice none 0 0)) l (k + 1) := by
  intro j hj hjk
  by_cases e : j = k
  · subst e
    simp [Array.getElem?_setIfInBounds, hs]; omega
  · have := h j hj (by omega)
    simp only [Array.getElem?_setIfInBounds]
    refine ⟨?_, ?_, ?_, ?_, ?_⟩
    all_goals
      repeat rw [if_neg (by omega)]
    · exact this.1
    · exact this.2.1
    · exact this.2.2.1
    · exact this.2.2.2.1
    · exact this.2.2.2.2

/-- What Types answers: new memory. -/
def TypesRet (B : Nat) (w' : World) (e : Ending) (o : Except (Int × Nat) (List (List (Int × Int)))) : Prop :=
  match o with
  | .error (c, _) => e = .returned (.tuple #[.slice none 0 0, .int .i64 c])
  | .ok tys => ∃ g cs, e = .returned (.tuple #[.slice (some ⟨g, 0, none⟩) (tys.getLastD []).length (tys.getLastD []).length, .int .i64 0]) ∧ B ≤ g ∧ Box w' g cs 67 ∧ cs.size = (tys.getLastD []).length * 5 ∧ ColsUpTo cs (tys.getLastD []) (tys.getLastD []).length

end Go.Proofs.YtekkicgbloidkaaGreatDoor
/- The reference's look at a table. -/
namespace Go.Proofs.YtekkicgbloidkaaGreatDoor
open Go Go.RowKit
attribute [local go_sem ↓] Go.wp_at_zero Go.wp_at_succ

set_option maxHeartbeats 2000000 in
theorem tableRight_any (t : List DCol) (v : Value) (w : World) (hv : RCols w v t) :
    Calls Tryz.prog 56 #[.agg #[v]] w fun e w' => e = .returned (.bool (rightTab t)) ∧ Below w.heap.size w w' := by
  obtain ⟨ao, cap, rfl, hl, hel⟩ := hv
  by_cases h1 : t.length < 1
  · have e : Hid (rightTab t = false) := by unfold Hid; simp [rightTab]; omega
    go_enter Tryz.func56, Tryz.ntmps56
    go_wp2
    go_ret
    exact ⟨by rw [e.out]; rfl, (Below.refl _ _).alloc (Nat.le_refl _) _⟩
  by_cases h8 : 8 < t.length
  · have e : Hid (rightTab t = false) := by unfold Hid; simp [rightTab]; omega
    go_enter Tryz.func56, Tryz.ntmps56
    go_wp2
    go_ret
    exact ⟨by rw [e.out]; rfl, (Below.refl _ _).alloc (Nat.le_refl _) _⟩
  have h0 : 0 < t.length := by omega
  obtain ⟨b, off, rfl, vi, vs, vn, c0, c1, c2, c3, c4, hc⟩ := hel 0 h0
  simp only [Nat.zero_mul, Nat.add_zero] at c0 c1 c2 c3 c4
  have hN := nullsOf_eq h0
  obtain ⟨an, cn, rfl, hln, -⟩ := hc.nulls
  rw [← hN] at c4 hln
  clear hc c0 c1 c2 c3
  generalize hNN : nullsOf t = N at *
  have HN : Hid (nullsOf t = N) := hNN
  clear hNN hN
  have hbl := cell_lt c4
  by_cases h40 : 40 < N
  · have e : Hid (rightTab t = false) := by have := HN.out; unfold Hid; simp [rightTab]; omega
    go_enter Tryz.func56, Tryz.ntmps56
    go_wp2
    go_ret
    exact ⟨by rw [e.out]; rfl, (Below.refl _ _).alloc (Nat.le_refl _) _⟩
  have bx := Box.new w #[.slice (some ⟨b, off, none⟩) t.length cap] 57
  go_enter Tryz.func56, Tryz.ntmps56
  go_wp2
  go_loopw [3] (fun i W => ∃ k : Nat, k ≤ t.length ∧ i = .int .i64 k ∧ ((t.take k).all (fun c => rightCol c N)) = true ∧ Below (w.heap.size + 1) (w.alloc (.cells #[.slice (some ⟨b, off, none⟩) t.length cap] 57)) W) (fun i _ => t.length - (intOf i).toNat)
  case atStart => exact ⟨0, Nat.zero_le _, rfl, rfl, Below.refl _ _⟩
  case round =>
    obtain ⟨k, hk, rfl, ha, hBn⟩ := hrel
    have HA : Hid _ := ha
    have HBN : Hid (Below (w.heap.size + 1) (w.alloc (.cells #[.slice (some ⟨b, off, none⟩) t.length cap] 57)) wr) := hBn
    have hwz : w.heap.size + 1 ≤ wr.heap.size := by have := hBn.size; simpa using this
    have HB : Hid (Below w.heap.size w wr) := ((Below.refl _ _).alloc (Nat.le_refl _) _).trans (hBn.mono (by omega))
    obtain ⟨hcb, hfb, hlb⟩ := (bx.below HBN.out (by omega)).all
    clear ha hBn bx
    by_cases hlt : k < t.length
    · obtain ⟨b', off', hba, vi', vs', vn', d0, d1, d2, d3, d4, hcol⟩ := hel k hlt
      simp only [Option.some.injEq, Addr.mk.injEq, and_true] at hba
      obtain ⟨rfl, rfl⟩ := hba
      simp only [Nat.add_zero] at d0
      have kp := Keeps.of_below HB.out
      have e0 := kp _ _ _ d0
      have e1 := kp _ _ _ d1
      have e2 := kp _ _ _ d2
      have e3 := kp _ _ _ d3
      have e4 := kp _ _ _ d4
      have ec4 := kp _ _ _ c4
      have hbw := cell_lt e0
      have hcw := (hcol.mono kp).strs.mono mono_RStr ((Keeps.refl wr).drew)
      obtain ⟨ai, ci, az, cz, an', cn', rfl, rfl, rfl⟩ := hcol.shape
      have HCW : Hid _ := hcw
      have hi0 : (0 : Int) ≤ (k : Int) := by omega
      have hi1 : (k : Int) < (t.length : Int) := by omega
      have hi2 : (0 : Int) < (t.length : Int) := by omega
      have hcell0 : wr.cell? ⟨w.heap.size, 0, none⟩ = some (.slice (some ⟨b, off, none⟩) t.length cap) := by rw [hcb]; rfl
      clear kp d0 d1 d2 d3 d4 c4 hcol hcw hel hcb hfb
      go_wp2_with fail
      go_region_held3 (fun W => W.cell? ⟨w.heap.size, 0, none⟩ = some (.slice (some ⟨b, off, none⟩) t.length cap) ∧ W.cell? ⟨b, off + k * 5, none⟩ = some (.int .i64 t[k].kind) ∧ W.cell? ⟨b, off + k * 5 + 1, none⟩ = some (.int .i64 t[k].scale) ∧ W.cell? ⟨b, off + k * 5 + 2, none⟩ = some (.slice ai t[k].ints.length ci) ∧ W.cell? ⟨b, off + k * 5 + 3, none⟩ = some (.slice az t[k].strs.length cz) ∧ W.cell? ⟨b, off + k * 5 + 4, none⟩ = some (.slice an' t[k].nulls.length cn') ∧ W.cell? ⟨b, off + 4, none⟩ = some (.slice an N cn))
        ((go_split_ands; refine ⟨?_, ?_, ?_, ?_, ?_, ?_, ?_⟩ <;> first | (exact (Keeps.of_below hb1) _ _ _ (by assumption)) | (go_keep; done)))
        (first | (go_at_call 72; refine (rright_any _ _ _ _ _ _ _ _ _ _ _ _ _ _ HCW.out).mono ?_; rintro e w1 ⟨rfl, hb1⟩))
      have HB1 : Hid (Below w.heap.size w w1) := Below.step hb1 HB.out.drew (by have := HB.out.size; simp; omega)
      have HBN1 : Hid (Below (w.heap.size + 1) (w.alloc (.cells #[.slice (some ⟨b, off, none⟩) t.length cap] 57)) w1) := Below.step hb1 HBN.out.drew (by simpa using hwz)
      have hrc : rightColN t[k].kind t[k].scale t[k].ints.length t[k].strs.length t[k].nulls.length (textsFit t[k].strs) N = rightCol t[k] N := rfl
      rw [hrc]
      clear hb1 hrc
      by_cases hr : rightCol t[k] N = true
      · go_wp2
        go_roundw
        case rel => exact ⟨k + 1, by omega, by go_num, allRight_take hlt HA.out hr, HBN1.out⟩
        case measure => simp [intOf]; omega
      · have hr' : rightCol t[k] N = false := by simpa using hr
        have e : Hid (rightTab t = false) := by unfold Hid rightTab; rw [HN.out, allRight_no hlt hr']; simp
        clear hr
        go_wp2
        go_ret
        exact ⟨by rw [e.out]; rfl, HB1.out⟩
    · have e : Hid (rightTab t = true) := by
        have := HA.out
        rw [List.take_of_length_le (by omega)] at this
        unfold Hid rightTab; rw [HN.out, this]; simp; omega
      go_wp2
      go_ret
      exact ⟨by rw [e.out]; rfl, HB.out⟩

end Go.Proofs.YtekkicgbloidkaaGreatDoor
