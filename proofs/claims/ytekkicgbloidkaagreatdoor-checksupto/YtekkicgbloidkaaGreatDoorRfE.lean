/- The reference's types of terms of two values. -/
import Derived.Test.YtekkicgbloidkaaGreatDoorRfB
import Derived.Test.YtekkicgbloidkaaGreatDoorTyF
import Derived.Test.YtekkicgbloidkaaGreatDoorTyG
namespace Go.Proofs.YtekkicgbloidkaaGreatDoor
open Go Go.RowKit
attribute [local go_sem ↓] Go.wp_at_zero Go.wp_at_succ
attribute [local go_sem ↓] eq_rty ne_rty

/-- A type as it may be. -/
def TyOk (t : Int × Int) : Prop := (t.1 = 2 ∧ 0 ≤ t.2 ∧ t.2 ≤ 6) ∨ ((t.1 = 1 ∨ t.1 = 3 ∨ t.1 = 4) ∧ t.2 = 0)

/-- What the reference's small functions answer: whether it fits; and if it does, the type. -/
def TyRet (e : Ending) (r : (Int × Int) × Bool) : Prop := ∃ t, e = .returned (.tuple #[tyV t, .bool r.2]) ∧ (r.2 = true → t = r.1)

theorem rbin_boxes (w : World) (lk ls rk rs : Int) :
    Box (((w.alloc (.cells #[.int .i64 lk, .int .i64 ls] 108)).alloc (.cells #[.int .i64 rk, .int .i64 rs] 108)).alloc (.cells #[.int .i64 0, .int .i64 0] 108)) w.heap.size #[.int .i64 lk, .int .i64 ls] 108 ∧
    Box (((w.alloc (.cells #[.int .i64 lk, .int .i64 ls] 108)).alloc (.cells #[.int .i64 rk, .int .i64 rs] 108)).alloc (.cells #[.int .i64 0, .int .i64 0] 108)) (w.heap.size + 1) #[.int .i64 rk, .int .i64 rs] 108 ∧
    Box (((w.alloc (.cells #[.int .i64 lk, .int .i64 ls] 108)).alloc (.cells #[.int .i64 rk, .int .i64 rs] 108)).alloc (.cells #[.int .i64 0, .int .i64 0] 108)) (w.heap.size + 1 + 1) #[.int .i64 0, .int .i64 0] 108 ∧
    Below w.heap.size w (((w.alloc (.cells #[.int .i64 lk, .int .i64 ls] 108)).alloc (.cells #[.int .i64 rk, .int .i64 rs] 108)).alloc (.cells #[.int .i64 0, .int .i64 0] 108)) := by
  refine ⟨((Box.new w _ _).alloc _).alloc _, ?_, ?_, (((Below.refl _ _).alloc (by simp) _).alloc (by simp) _).alloc (by simp <;> omega) _⟩
  · have := (Box.new (w.alloc (.cells #[.int .i64 lk, .int .i64 ls] 108)) #[.int .i64 rk, .int .i64 rs] 108).alloc (.cells #[.int .i64 0, .int .i64 0] 108)
    rwa [show (w.alloc (.cells #[.int .i64 lk, .int .i64 ls] 108)).heap.size = w.heap.size + 1 by simp] at this
  · have := Box.new ((w.alloc (.cells #[.int .i64 lk, .int .i64 ls] 108)).alloc (.cells #[.int .i64 rk, .int .i64 rs] 108)) #[.int .i64 0, .int .i64 0] 108
    rwa [show ((w.alloc (.cells #[.int .i64 lk, .int .i64 ls] 108)).alloc (.cells #[.int .i64 rk, .int .i64 rs] 108)).heap.size = w.heap.size + 1 + 1 by simp] at this

set_option maxHeartbeats 4000000 in
theorem two5_any (op : Int) (hop : op = 5 ∨ op = 6) (l r : Int × Int) (w : World) :
    Calls Tryz.prog 90 #[.int .i64 op, tyV l, tyV r] w fun e w' => TyRet e (l, l == r && tNum l) ∧ Below w.heap.size w w' := by
  obtain ⟨lk, ls⟩ := l
  obtain ⟨rk, rs⟩ := r
  obtain ⟨bl0, bk0, br0, hB0⟩ := rbin_boxes w lk ls rk rs
  rcases hop with rfl | rfl
  all_goals
    go_enter Tryz.func90, Tryz.ntmps90
    go_wp2_with fail
    refine (isNum_any (lk, ls) _).mono ?_
    rintro e w1 ⟨rfl, hb1⟩
    have hB1 : Below w.heap.size w w1 := Below.step hb1 hB0 (by simp <;> omega)
    have bl1 := bl0.call hb1
    have bk1 := bk0.call hb1
    have br1 := br0.call hb1
    obtain ⟨hcl1, hfl1, hll1⟩ := bl1.all
    obtain ⟨hck1, hfk1, hlk1⟩ := bk1.all
    clear hb1
    go_wp2_with fail
    refine (isNum_any (rk, rs) _).mono ?_
    rintro e w2 ⟨rfl, hb2⟩
    have hB2 : Below w.heap.size w w2 := Below.step hb2 hB1 (by omega)
    obtain ⟨hcl, hfl, hll⟩ := (bl1.call hb2).all
    obtain ⟨hck, hfk, hlk⟩ := (bk1.call hb2).all
    obtain ⟨hcr, hfr, hlr⟩ := (br1.call hb2).all
    clear hb2 hcl1 hfl1 hll1 hck1 hfk1 hlk1 bl0 bk0 br0 bl1 bk1 br1
    by_cases hn : tNum (lk, ls) = true
    · go_wp2_with fail
      go_region
      go_wp2_with fail
      exact bodyPost_ret (v := .tuple #[tyV (lk, ls), .bool ((lk, ls) == (rk, rs))]) (by simp [results, Tryz.results90, go_sem, hcr]) rfl ⟨⟨(lk, ls), by simp [hn], fun _ => rfl⟩, ((hB2.setCell (by simp <;> omega) _).setCell (by simp <;> omega) _).drew⟩
    · have hn' : tNum (lk, ls) = false := by simpa using hn
      clear hn
      go_wp2_with fail
      go_region
      go_wp2_with fail
      exact bodyPost_ret (v := .tuple #[tyV (lk, ls), .bool false]) (by simp [results, Tryz.results90, go_sem, hcr]) rfl ⟨⟨(lk, ls), by simp [hn'], fun _ => rfl⟩, ((hB2.setCell (by simp <;> omega) _).setCell (by simp <;> omega) _).drew⟩

set_option maxHeartbeats 8000000 in
theorem two9_any (op : Int) (hop : op = 9 ∨ op = 10 ∨ op = 11) (l r : Int × Int) (w : World) :
    Calls Tryz.prog 90 #[.int .i64 op, tyV l, tyV r] w fun e w' => TyRet e ((4, 0), l == r && l.1 != 4) ∧ Below w.heap.size w w' := by
  obtain ⟨lk, ls⟩ := l
  obtain ⟨rk, rs⟩ := r
  obtain ⟨bl0, bk0, br0, hB0⟩ := rbin_boxes w lk ls rk rs
  rcases hop with rfl | rfl | rfl
  all_goals
    go_enter Tryz.func90, Tryz.ntmps90
    go_wp2_with fail
    refine (isNum_any (lk, ls) _).mono ?_
    rintro e w1 ⟨rfl, hb1⟩
    have hB1 : Below w.heap.size w w1 := Below.step hb1 hB0 (by simp <;> omega)
    have bl1 := bl0.call hb1
    have bk1 := bk0.call hb1
    have br1 := br0.call hb1
    obtain ⟨hcl1, hfl1, hll1⟩ := bl1.all
    obtain ⟨hck1, hfk1, hlk1⟩ := bk1.all
    clear hb1
    go_wp2_with fail
    refine (isNum_any (rk, rs) _).mono ?_
    rintro e w2 ⟨rfl, hb2⟩
    have hB2 : Below w.heap.size w w2 := Below.step hb2 hB1 (by omega)
    obtain ⟨hcl, hfl, hll⟩ := (bl1.call hb2).all
    obtain ⟨hck, hfk, hlk⟩ := (bk1.call hb2).all
    obtain ⟨hcr, hfr, hlr⟩ := (br1.call hb2).all
    clear hb2 hcl1 hfl1 hll1 hck1 hfk1 hlk1 bl0 bk0 br0 bl1 bk1 br1
    by_cases hn : ((lk, ls) == (rk, rs)) = true
    · go_wp2_with fail
      go_region
      go_wp2_with fail
      exact bodyPost_ret (v := .tuple #[tyV (4, 0), .bool (lk != 4)]) (by simp [results, Tryz.results90, go_sem, hcr]) rfl ⟨⟨(4, 0), by rw [hn]; rfl, fun _ => rfl⟩, ((hB2.setCell (by simp <;> omega) _).setCell (by simp <;> omega) _).drew⟩
    · have hn' : ((lk, ls) == (rk, rs)) = false := by simpa using hn
      clear hn
      go_wp2_with fail
      go_region
      go_wp2_with fail
      exact bodyPost_ret (v := .tuple #[tyV (4, 0), .bool false]) (by simp [results, Tryz.results90, go_sem, hcr]) rfl ⟨⟨(4, 0), by rw [hn']; rfl, fun _ => rfl⟩, ((hB2.setCell (by simp <;> omega) _).setCell (by simp <;> omega) _).drew⟩

set_option maxHeartbeats 8000000 in
theorem two12_any (op : Int) (hop : op = 12 ∨ op = 13) (l r : Int × Int) (w : World) :
    Calls Tryz.prog 90 #[.int .i64 op, tyV l, tyV r] w fun e w' => TyRet e ((4, 0), l.1 == 4 && r.1 == 4) ∧ Below w.heap.size w w' := by
  obtain ⟨lk, ls⟩ := l
  obtain ⟨rk, rs⟩ := r
  obtain ⟨bl0, bk0, br0, hB0⟩ := rbin_boxes w lk ls rk rs
  rcases hop with rfl | rfl
  all_goals
    go_enter Tryz.func90, Tryz.ntmps90
    go_wp2_with fail
    refine (isNum_any (lk, ls) _).mono ?_
    rintro e w1 ⟨rfl, hb1⟩
    have hB1 : Below w.heap.size w w1 := Below.step hb1 hB0 (by simp <;> omega)
    have bl1 := bl0.call hb1
    have bk1 := bk0.call hb1
    have br1 := br0.call hb1
    obtain ⟨hcl1, hfl1, hll1⟩ := bl1.all
    obtain ⟨hck1, hfk1, hlk1⟩ := bk1.all
    clear hb1
    go_wp2_with fail
    refine (isNum_any (rk, rs) _).mono ?_
    rintro e w2 ⟨rfl, hb2⟩
    have hB2 : Below w.heap.size w w2 := Below.step hb2 hB1 (by omega)
    obtain ⟨hcl, hfl, hll⟩ := (bl1.call hb2).all
    obtain ⟨hck, hfk, hlk⟩ := (bk1.call hb2).all
    obtain ⟨hcr, hfr, hlr⟩ := (br1.call hb2).all
    clear hb2 hcl1 hfl1 hll1 hck1 hfk1 hlk1 bl0 bk0 br0 bl1 bk1 br1
    by_cases hn : (lk == 4) = true
    · go_wp2_with fail
      go_region
      go_wp2_with fail
      exact bodyPost_ret (v := .tuple #[tyV (4, 0), .bool (rk == 4)]) (by simp [results, Tryz.results90, go_sem, hcr]) rfl ⟨⟨(4, 0), by simp only []; rw [hn]; rfl, fun _ => rfl⟩, ((hB2.setCell (by simp <;> omega) _).setCell (by simp <;> omega) _).drew⟩
    · have hn' : (lk == 4) = false := by simpa using hn
      clear hn
      go_wp2_with fail
      go_region
      go_wp2_with fail
      exact bodyPost_ret (v := .tuple #[tyV (4, 0), .bool false]) (by simp [results, Tryz.results90, go_sem, hcr]) rfl ⟨⟨(4, 0), by simp only []; rw [hn']; rfl, fun _ => rfl⟩, ((hB2.setCell (by simp <;> omega) _).setCell (by simp <;> omega) _).drew⟩

set_option maxHeartbeats 8000000 in
theorem two7_any (l r : Int × Int) (w : World) :
    Calls Tryz.prog 90 #[.int .i64 7, tyV l, tyV r] w fun e w' => TyRet e (if l.1 = 2 ∧ r.1 = 2 then ((2, wrap64 (l.2 + r.2)), decide (wrap64 (l.2 + r.2) ≤ 6)) else if l.1 = 2 then (l, tNum r) else (r, tNum l && tNum r)) ∧ Below w.heap.size w w' := by
  obtain ⟨lk, ls⟩ := l
  obtain ⟨rk, rs⟩ := r
  generalize hO : (if ((lk, ls) : Int × Int).1 = 2 ∧ ((rk, rs) : Int × Int).1 = 2 then (((2, wrap64 (((lk, ls) : Int × Int).2 + ((rk, rs) : Int × Int).2)) : Int × Int), decide (wrap64 (((lk, ls) : Int × Int).2 + ((rk, rs) : Int × Int).2) ≤ 6)) else if ((lk, ls) : Int × Int).1 = 2 then ((lk, ls), tNum (rk, rs)) else ((rk, rs), tNum (lk, ls) && tNum (rk, rs))) = o
  have HO : Hid _ := hO
  clear hO
  obtain ⟨bl0, bk0, br0, hB0⟩ := rbin_boxes w lk ls rk rs
  all_goals
    go_enter Tryz.func90, Tryz.ntmps90
    go_wp2_with fail
    refine (isNum_any (lk, ls) _).mono ?_
    rintro e w1 ⟨rfl, hb1⟩
    have hB1 : Below w.heap.size w w1 := Below.step hb1 hB0 (by simp <;> omega)
    have bl1 := bl0.call hb1
    have bk1 := bk0.call hb1
    have br1 := br0.call hb1
    obtain ⟨hcl1, hfl1, hll1⟩ := bl1.all
    obtain ⟨hck1, hfk1, hlk1⟩ := bk1.all
    clear hb1
    go_wp2_with fail
    refine (isNum_any (rk, rs) _).mono ?_
    rintro e w2 ⟨rfl, hb2⟩
    have hB2 : Below w.heap.size w w2 := Below.step hb2 hB1 (by omega)
    obtain ⟨hcl, hfl, hll⟩ := (bl1.call hb2).all
    obtain ⟨hck, hfk, hlk⟩ := (bk1.call hb2).all
    obtain ⟨hcr, hfr, hlr⟩ := (br1.call hb2).all
    clear hb2 hcl1 hfl1 hll1 hck1 hfk1 hlk1 bl0 bk0 br0 bl1 bk1 br1
    by_cases hl2 : (lk == 2) = true
    · have hl : lk = 2 := by simpa using hl2
      by_cases hr2 : (rk == 2) = true
      · have hr : rk = 2 := by simpa using hr2
        have HO2 : Hid (o = ((2, wrap64 (ls + rs)), decide (wrap64 (ls + rs) ≤ 6))) := by unfold Hid; rw [← HO.out, if_pos ⟨hl, hr⟩]
        clear hl hr
        go_wp2_with fail
        go_region
        go_wp2_with fail
        exact bodyPost_ret (v := .tuple #[tyV (2, wrap64 (ls + rs)), .bool (decide (wrap64 (ls + rs) ≤ 6))]) (by simp [results, Tryz.results90, go_sem, hcr]) rfl ⟨⟨(2, wrap64 (ls + rs)), by rw [HO2.out], fun _ => by rw [HO2.out]⟩, ((hB2.setCell (by simp <;> omega) _).setCell (by simp <;> omega) _).drew⟩
      · have hr2' : (rk == 2) = false := by simpa using hr2
        have hr : ¬ rk = 2 := by simpa using hr2'
        have HO2 : Hid (o = ((lk, ls), tNum (rk, rs))) := by unfold Hid; rw [← HO.out, if_neg (fun h => hr h.2), if_pos hl]
        clear hl hr hr2
        go_wp2_with fail
        exact bodyPost_ret (v := .tuple #[tyV (lk, ls), .bool (tNum (rk, rs))]) (by simp [results, Tryz.results90, go_sem, hcr]) rfl ⟨⟨(lk, ls), by rw [HO2.out], fun _ => by rw [HO2.out]⟩, (hB2.setCell (by simp <;> omega) _).setCell (by simp <;> omega) _⟩
    · have hl2' : (lk == 2) = false := by simpa using hl2
      have hl : ¬ lk = 2 := by simpa using hl2'
      have HO2 : Hid (o = ((rk, rs), tNum (lk, ls) && tNum (rk, rs))) := by unfold Hid; rw [← HO.out, if_neg (fun h => hl h.1), if_neg hl]
      clear hl hl2
      by_cases hn : tNum (lk, ls) = true
      · go_wp2_with fail
        exact bodyPost_ret (v := .tuple #[tyV (rk, rs), .bool (tNum (rk, rs))]) (by simp [results, Tryz.results90, go_sem, hcr]) rfl ⟨⟨(rk, rs), by rw [HO2.out, hn]; rfl, fun _ => by rw [HO2.out]⟩, (hB2.setCell (by simp <;> omega) _).setCell (by simp <;> omega) _⟩
      · have hn' : tNum (lk, ls) = false := by simpa using hn
        clear hn
        go_wp2_with fail
        exact bodyPost_ret (v := .tuple #[tyV (rk, rs), .bool false]) (by simp [results, Tryz.results90, go_sem, hcr]) rfl ⟨⟨(rk, rs), by rw [HO2.out, hn']; rfl, fun _ => by rw [HO2.out]⟩, (hB2.setCell (by simp <;> omega) _).setCell (by simp <;> omega) _⟩

end Go.Proofs.YtekkicgbloidkaaGreatDoor
/- The reference's types of terms of one value and of none. -/
namespace Go.Proofs.YtekkicgbloidkaaGreatDoor
open Go Go.RowKit
attribute [local go_sem ↓] Go.wp_at_zero Go.wp_at_succ
attribute [local go_sem ↓] eq_rty ne_rty

theorem rone_boxes (w : World) (t : DTerm) (lk ls : Int) :
    Box (((w.alloc (.cells #[.int .i64 t.op, .int .i64 t.a, .int .i64 t.v, .string t.s] 87)).alloc (.cells #[.int .i64 lk, .int .i64 ls] 108)).alloc (.cells #[.int .i64 0, .int .i64 0] 108)) w.heap.size #[.int .i64 t.op, .int .i64 t.a, .int .i64 t.v, .string t.s] 87 ∧
    Box (((w.alloc (.cells #[.int .i64 t.op, .int .i64 t.a, .int .i64 t.v, .string t.s] 87)).alloc (.cells #[.int .i64 lk, .int .i64 ls] 108)).alloc (.cells #[.int .i64 0, .int .i64 0] 108)) (w.heap.size + 1) #[.int .i64 lk, .int .i64 ls] 108 ∧
    Box (((w.alloc (.cells #[.int .i64 t.op, .int .i64 t.a, .int .i64 t.v, .string t.s] 87)).alloc (.cells #[.int .i64 lk, .int .i64 ls] 108)).alloc (.cells #[.int .i64 0, .int .i64 0] 108)) (w.heap.size + 1 + 1) #[.int .i64 0, .int .i64 0] 108 ∧
    Below w.heap.size w (((w.alloc (.cells #[.int .i64 t.op, .int .i64 t.a, .int .i64 t.v, .string t.s] 87)).alloc (.cells #[.int .i64 lk, .int .i64 ls] 108)).alloc (.cells #[.int .i64 0, .int .i64 0] 108)) := by
  refine ⟨((Box.new w _ _).alloc _).alloc _, ?_, ?_, (((Below.refl _ _).alloc (by simp) _).alloc (by simp) _).alloc (by simp <;> omega) _⟩
  · have := (Box.new (w.alloc (.cells #[.int .i64 t.op, .int .i64 t.a, .int .i64 t.v, .string t.s] 87)) #[.int .i64 lk, .int .i64 ls] 108).alloc (.cells #[.int .i64 0, .int .i64 0] 108)
    rwa [show (w.alloc (.cells #[.int .i64 t.op, .int .i64 t.a, .int .i64 t.v, .string t.s] 87)).heap.size = w.heap.size + 1 by simp] at this
  · have := Box.new ((w.alloc (.cells #[.int .i64 t.op, .int .i64 t.a, .int .i64 t.v, .string t.s] 87)).alloc (.cells #[.int .i64 lk, .int .i64 ls] 108)) #[.int .i64 0, .int .i64 0] 108
    rwa [show ((w.alloc (.cells #[.int .i64 t.op, .int .i64 t.a, .int .i64 t.v, .string t.s] 87)).alloc (.cells #[.int .i64 lk, .int .i64 ls] 108)).heap.size = w.heap.size + 1 + 1 by simp] at this

set_option maxHeartbeats 8000000 in
theorem one8_any (a v : Int) (s : ByteArray) (o : Int × Int) (w : World) :
    Calls Tryz.prog 89 #[.agg #[.int .i64 8, .int .i64 a, .int .i64 v, .string s], tyV o] w fun e w' => TyRet e ((2, a), scFits a && tNum o) ∧ Below w.heap.size w w' := by
  obtain ⟨ok, os⟩ := o
  obtain ⟨bt0, bo0, br0, hB0⟩ := rone_boxes w ⟨8, a, v, s⟩ ok os
  simp only at bt0 bo0 br0 hB0
  go_enter Tryz.func89, Tryz.ntmps89
  go_wp2_with fail
  refine (isNum_any (ok, os) _).mono ?_
  rintro e w1 ⟨rfl, hb1⟩
  have hB1 : Below w.heap.size w w1 := Below.step hb1 hB0 (by simp <;> omega)
  obtain ⟨hct, hft, hlt⟩ := (bt0.call hb1).all
  obtain ⟨hcr, hfr, hlr⟩ := (br0.call hb1).all
  clear hb1 bt0 bo0 br0 hB0
  by_cases hn : tNum (ok, os) = true
  · by_cases ha : (0 : Int) ≤ a
    · go_wp2_with fail
      go_region
      go_wp2_with fail
      exact bodyPost_ret (v := .tuple #[tyV (2, a), .bool (decide (a ≤ 6))]) (by simp [results, Tryz.results89, go_sem, hcr]) rfl ⟨⟨(2, a), by simp [hn, scFits, ha], fun _ => rfl⟩, ((hB1.setCell (by simp <;> omega) _).setCell (by simp <;> omega) _).drew⟩
    · have hd : decide ((0 : Int) ≤ a) = false := by simpa using ha
      have HE : Hid (scFits a = false) := by unfold Hid scFits; simp [ha]
      clear ha
      go_wp2_with fail
      go_region
      go_wp2_with fail
      exact bodyPost_ret (v := .tuple #[tyV (2, a), .bool false]) (by simp [results, Tryz.results89, go_sem, hcr]) rfl ⟨⟨(2, a), by simp [HE.out], fun _ => rfl⟩, ((hB1.setCell (by simp <;> omega) _).setCell (by simp <;> omega) _).drew⟩
  · have hn' : tNum (ok, os) = false := by simpa using hn
    clear hn
    go_wp2_with fail
    go_region
    go_wp2_with fail
    exact bodyPost_ret (v := .tuple #[tyV (2, a), .bool false]) (by simp [results, Tryz.results89, go_sem, hcr]) rfl ⟨⟨(2, a), by simp [hn'], fun _ => rfl⟩, ((hB1.setCell (by simp <;> omega) _).setCell (by simp <;> omega) _).drew⟩

set_option maxHeartbeats 8000000 in
theorem one14_any (a v : Int) (s : ByteArray) (o : Int × Int) (ho : TyOk o) (w : World) :
    Calls Tryz.prog 89 #[.agg #[.int .i64 14, .int .i64 a, .int .i64 v, .string s], tyV o] w fun e w' => TyRet e ((4, 0), o == (4, 0)) ∧ Below w.heap.size w w' := by
  obtain ⟨ok, os⟩ := o
  have HE : Hid (((ok, os) == ((4, 0) : Int × Int)) = (ok == 4)) := by
    unfold Hid
    by_cases h : ok = 4
    · subst h
      rcases ho with ⟨h, _⟩ | ⟨_, h⟩
      · simp at h
      · simp only at h; subst h; rfl
    · have e1 : (ok == 4) = false := by simpa using h
      have e2 : ((ok, os) == ((4, 0) : Int × Int)) = false := by simp [h]
      rw [e1, e2]
  have HE2 : Hid ((ok == 4) = true → (ok, os) = ((4, 0) : Int × Int)) := by
    intro h
    rw [← HE.out] at h
    simpa using h
  clear ho
  go_enter Tryz.func89, Tryz.ntmps89
  go_wp2_with fail
  go_region
  go_wp2_with fail
  exact bodyPost_ret (v := .tuple #[tyV (ok, os), .bool (ok == 4)]) (by simp [results, Tryz.results89, go_sem]) rfl ⟨⟨(ok, os), by simp only []; rw [HE.out], fun h => by simp only [] at h ⊢; rw [HE.out] at h; exact HE2.out h⟩, ((((Below.refl _ _).alloc (by simp) _).alloc (by simp) _).alloc (by simp <;> omega) _).drew⟩

set_option maxHeartbeats 8000000 in
theorem one15_any (a v : Int) (s : ByteArray) (o : Int × Int) (w : World) :
    Calls Tryz.prog 89 #[.agg #[.int .i64 15, .int .i64 a, .int .i64 v, .string s], tyV o] w fun e w' => TyRet e ((4, 0), true) ∧ Below w.heap.size w w' := by
  obtain ⟨ok, os⟩ := o
  go_enter Tryz.func89, Tryz.ntmps89
  go_wp2_with fail
  exact bodyPost_ret (v := .tuple #[tyV (4, 0), .bool true]) (by simp [results, Tryz.results89, go_sem]) rfl ⟨⟨(4, 0), rfl, fun _ => rfl⟩, (((Below.refl _ _).alloc (by simp) _).alloc (by simp) _).alloc (by simp <;> omega) _⟩

end Go.Proofs.YtekkicgbloidkaaGreatDoor
/- A product's type is told alike by both. A plain fact. -/
namespace Go.Proofs.YtekkicgbloidkaaGreatDoor
open Go Go.RowKit
theorem wrap_small {n : Int} (h0 : 0 ≤ n) (h : n ≤ 12) : wrap64 n = n := by
  unfold wrap64; omega
theorem mul_eq (l r : Int × Int) (hl : TyOk l) (hr : TyOk r) :
    (if l.1 = 2 ∧ r.1 = 2 then (((2, wrap64 (l.2 + r.2)) : Int × Int), decide (wrap64 (l.2 + r.2) ≤ 6)) else if l.1 = 2 then (l, tNum r) else (r, tNum l && tNum r)).2 = (prodTy l r).2 ∧
    ((prodTy l r).2 = true → (if l.1 = 2 ∧ r.1 = 2 then (((2, wrap64 (l.2 + r.2)) : Int × Int), decide (wrap64 (l.2 + r.2) ≤ 6)) else if l.1 = 2 then (l, tNum r) else (r, tNum l && tNum r)).1 = (prodTy l r).1) := by
  obtain ⟨lk, ls⟩ := l
  obtain ⟨rk, rs⟩ := r
  unfold TyOk at hl hr
  simp only at hl hr
  have hls : 0 ≤ ls ∧ ls ≤ 6 := by omega
  have hrs : 0 ≤ rs ∧ rs ≤ 6 := by omega
  have hw : wrap64 (ls + rs) = ls + rs := wrap_small (by omega) (by omega)
  unfold prodTy tNum scFits
  simp only [hw]
  rcases hl with ⟨rfl, _, _⟩ | ⟨rfl | rfl | rfl, rfl⟩ <;> rcases hr with ⟨rfl, _, _⟩ | ⟨rfl | rfl | rfl, rfl⟩ <;> simp <;> omega
end Go.Proofs.YtekkicgbloidkaaGreatDoor
/- The reference's types of leaves. -/
namespace Go.Proofs.YtekkicgbloidkaaGreatDoor
open Go Go.RowKit
attribute [local go_sem ↓] Go.wp_at_zero Go.wp_at_succ

set_option maxHeartbeats 4000000 in
theorem rleaf1_any (a v : Int) (s : ByteArray) (cols : List (Int × Int)) (vc : Value) (w : World) (hv : RTys w vc cols) :
    Calls Tryz.prog 88 #[.agg #[.int .i64 1, .int .i64 a, .int .i64 v, .string s], vc] w fun e w' => TyRet e (colAt cols a) ∧ Below w.heap.size w w' := by
  obtain ⟨ao, cap, rfl, hl, hel⟩ := hv
  by_cases h : 0 ≤ a ∧ a < cols.length
  · have HP : Hid (colAt cols a = (cols.getD a.toNat (0, 0), true)) := by unfold Hid colAt; rw [if_pos h]
    obtain ⟨h1, h2⟩ := h
    obtain ⟨q, rfl⟩ := Int.eq_ofNat_of_zero_le h1
    have h3 : q < cols.length := by omega
    obtain ⟨b, off, rfl, hr0, hr1⟩ := hel q h3
    simp only [Nat.add_zero] at hr0
    have hb := cell_lt hr0
    clear hel
    go_enter Tryz.func88, Tryz.ntmps88
    go_wp2
    exact bodyPost_ret (v := .tuple #[tyV (cols[q]), .bool true]) (by simp [results, Tryz.results88, go_sem]) rfl ⟨⟨cols[q], by rw [HP.out], fun _ => by rw [HP.out]; simp [h3]⟩, ((Below.refl _ _).alloc (Nat.le_refl _) _).alloc (by simp) _⟩
  · have HP : Hid (colAt cols a = ((0, 0), false)) := by unfold Hid colAt; rw [if_neg h]
    by_cases h1 : a < 0
    · go_enter Tryz.func88, Tryz.ntmps88
      go_wp2
      exact bodyPost_ret (v := .tuple #[tyV (0, 0), .bool false]) (by simp [results, Tryz.results88, go_sem]) rfl ⟨⟨(0, 0), by rw [HP.out], fun _ => by rw [HP.out]⟩, ((Below.refl _ _).alloc (Nat.le_refl _) _).alloc (by simp) _⟩
    · have h1' : 0 ≤ a := by omega
      have h2 : (cols.length : Int) ≤ a := by omega
      obtain ⟨q, rfl⟩ := Int.eq_ofNat_of_zero_le h1'
      have h3 : cols.length ≤ q := by omega
      clear h h1
      go_enter Tryz.func88, Tryz.ntmps88
      go_wp2
      exact bodyPost_ret (v := .tuple #[tyV (0, 0), .bool false]) (by simp [results, Tryz.results88, go_sem]) rfl ⟨⟨(0, 0), by rw [HP.out], fun _ => by rw [HP.out]⟩, ((Below.refl _ _).alloc (Nat.le_refl _) _).alloc (by simp) _⟩

set_option maxHeartbeats 4000000 in
theorem rleaf2_any (a v : Int) (s : ByteArray) (vc : Value) (w : World) :
    Calls Tryz.prog 88 #[.agg #[.int .i64 2, .int .i64 a, .int .i64 v, .string s], vc] w fun e w' => TyRet e ((1, 0), true) ∧ Below w.heap.size w w' := by
  go_enter Tryz.func88, Tryz.ntmps88
  go_wp2_with fail
  exact bodyPost_ret (v := .tuple #[tyV (1, 0), .bool true]) (by simp [results, Tryz.results88, go_sem]) rfl ⟨⟨(1, 0), rfl, fun _ => rfl⟩, ((Below.refl _ _).alloc (by simp) _).alloc (by simp) _⟩

set_option maxHeartbeats 4000000 in
theorem rleaf3_any (a v : Int) (s : ByteArray) (vc : Value) (w : World) :
    Calls Tryz.prog 88 #[.agg #[.int .i64 3, .int .i64 a, .int .i64 v, .string s], vc] w fun e w' => TyRet e ((2, a), scFits a) ∧ Below w.heap.size w w' := by
  by_cases ha : (0 : Int) ≤ a
  · have HE : Hid (scFits a = decide (a ≤ 6)) := by unfold Hid scFits; simp [ha]
    go_enter Tryz.func88, Tryz.ntmps88
    go_wp2_with fail
    go_region
    go_wp2_with fail
    exact bodyPost_ret (v := .tuple #[tyV (2, a), .bool (decide (a ≤ 6))]) (by simp [results, Tryz.results88, go_sem]) rfl ⟨⟨(2, a), by simp only []; rw [HE.out], fun _ => rfl⟩, (((Below.refl _ _).alloc (by simp) _).alloc (by simp) _).drew⟩
  · have hd : decide ((0 : Int) ≤ a) = false := by simpa using ha
    have HE : Hid (scFits a = false) := by unfold Hid scFits; simp [ha]
    clear ha
    go_enter Tryz.func88, Tryz.ntmps88
    go_wp2_with fail
    go_region
    go_wp2_with fail
    exact bodyPost_ret (v := .tuple #[tyV (2, a), .bool false]) (by simp [results, Tryz.results88, go_sem]) rfl ⟨⟨(2, a), by simp only []; rw [HE.out], fun _ => rfl⟩, (((Below.refl _ _).alloc (by simp) _).alloc (by simp) _).drew⟩

set_option maxHeartbeats 4000000 in
theorem rleaf4_any (a v : Int) (s : ByteArray) (_hs : s.size ≤ 9223372036854775807) (vc : Value) (w : World) :
    Calls Tryz.prog 88 #[.agg #[.int .i64 4, .int .i64 a, .int .i64 v, .string s], vc] w fun e w' => TyRet e ((3, 0), decide ((s.size : Int) ≤ 16)) ∧ Below w.heap.size w w' := by
  go_enter Tryz.func88, Tryz.ntmps88
  go_wp2_with fail
  go_region
  go_wp2_with fail
  exact bodyPost_ret (v := .tuple #[tyV (3, 0), .bool (decide ((s.size : Int) ≤ 16))]) (by simp [results, Tryz.results88, go_sem]) rfl ⟨⟨(3, 0), rfl, fun _ => rfl⟩, (((Below.refl _ _).alloc (by simp) _).alloc (by simp) _).drew⟩

theorem rleaf_any (t : DTerm) (hop : 1 ≤ t.op ∧ t.op ≤ 4) (ht : t.s.size ≤ 9223372036854775807) (cols : List (Int × Int)) (vc : Value) (w : World) (hv : RTys w vc cols) :
    Calls Tryz.prog 88 #[termV t, vc] w fun e w' => TyRet e (leafTy t cols) ∧ Below w.heap.size w w' := by
  obtain ⟨op, a, v, s⟩ := t
  simp only at hop
  by_cases h1 : op = 1
  · subst h1; exact rleaf1_any a v s cols vc w hv
  by_cases h2 : op = 2
  · subst h2; exact rleaf2_any a v s vc w
  by_cases h3 : op = 3
  · subst h3; exact rleaf3_any a v s vc w
  have h4 : op = 4 := by omega
  subst h4; exact rleaf4_any a v s ht vc w

theorem one_any (t : DTerm) (hop : t.op = 8 ∨ t.op = 14 ∨ t.op = 15) (o : Int × Int) (ho : TyOk o) (w : World) :
    Calls Tryz.prog 89 #[termV t, tyV o] w fun e w' => TyRet e (unTy t o) ∧ Below w.heap.size w w' := by
  obtain ⟨op, a, v, s⟩ := t
  simp only at hop
  rcases hop with rfl | rfl | rfl
  · exact one8_any a v s o w
  · exact one14_any a v s o ho w
  · exact one15_any a v s o w

theorem TyRet.congr {e : Ending} {r r' : (Int × Int) × Bool} (h : TyRet e r) (h2 : r.2 = r'.2) (h1 : r'.2 = true → r.1 = r'.1) : TyRet e r' := by
  obtain ⟨t, he, ht⟩ := h
  exact ⟨t, by rw [← h2]; exact he, fun hr => by rw [ht (by rw [h2]; exact hr)]; exact h1 hr⟩

theorem two_any (op : Int) (hop : op = 5 ∨ op = 6 ∨ op = 7 ∨ op = 9 ∨ op = 10 ∨ op = 11 ∨ op = 12 ∨ op = 13) (l r : Int × Int) (hl : TyOk l) (hr : TyOk r) (w : World) :
    Calls Tryz.prog 90 #[.int .i64 op, tyV l, tyV r] w fun e w' => TyRet e (binTy op l r) ∧ Below w.heap.size w w' := by
  by_cases h5 : op = 5 ∨ op = 6
  · have e : binTy op l r = (l, l == r && tNum l) := by unfold binTy; rw [if_pos h5]
    rw [e]; exact two5_any op h5 l r w
  by_cases h7 : op = 7
  · subst h7
    refine (two7_any l r w).mono ?_
    rintro e w' ⟨h, hb⟩
    have e7 : binTy 7 l r = prodTy l r := by simp [binTy]
    rw [e7]
    obtain ⟨m1, m2⟩ := mul_eq l r hl hr
    exact ⟨h.congr m1 m2, hb⟩
  by_cases h9 : op = 9 ∨ op = 10 ∨ op = 11
  · have e : binTy op l r = ((4, 0), l == r && l != (4, 0)) := by unfold binTy; rw [if_neg h5, if_neg h7, if_pos h9]
    rw [e]
    refine (two9_any op h9 l r w).mono ?_
    rintro e w' ⟨h, hb⟩
    refine ⟨h.congr ?_ (fun _ => rfl), hb⟩
    obtain ⟨lk, ls⟩ := l
    unfold TyOk at hl
    simp only at hl ⊢
    congr 1
    by_cases h4 : lk = 4
    · subst h4; rcases hl with ⟨h, _⟩ | ⟨_, h⟩
      · simp at h
      · subst h; rfl
    · have e1 : (lk != 4) = true := by simpa using h4
      have e2 : ((lk, ls) != ((4, 0) : Int × Int)) = true := by simp [h4]
      rw [e1, e2]
  have h12 : op = 12 ∨ op = 13 := by omega
  have e : binTy op l r = ((4, 0), l == (4, 0) && r == (4, 0)) := by unfold binTy; rw [if_neg h5, if_neg h7, if_neg h9, if_pos h12]
  rw [e]
  refine (two12_any op h12 l r w).mono ?_
  rintro e w' ⟨h, hb⟩
  refine ⟨h.congr ?_ (fun _ => rfl), hb⟩
  have key : ∀ t : Int × Int, TyOk t → (t.1 == 4) = (t == (4, 0)) := by
    intro t ht
    obtain ⟨k, s⟩ := t
    unfold TyOk at ht
    simp only at ht ⊢
    by_cases h4 : k = 4
    · subst h4; rcases ht with ⟨h, _⟩ | ⟨_, h⟩
      · simp at h
      · subst h; rfl
    · have e1 : (k == 4) = false := by simpa using h4
      have e2 : ((k, s) == ((4, 0) : Int × Int)) = false := by simp [h4]
      rw [e1, e2]
  simp only []
  rw [key l hl, key r hr]

end Go.Proofs.YtekkicgbloidkaaGreatDoor
