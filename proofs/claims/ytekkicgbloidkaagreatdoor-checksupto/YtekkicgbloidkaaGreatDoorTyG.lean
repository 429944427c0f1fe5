/- The types of And and Or. -/
import Derived.Test.YtekkicgbloidkaaGreatDoorTyE
namespace Go.Proofs.YtekkicgbloidkaaGreatDoor
open Go Go.RowKit
attribute [local go_sem ↓] Go.wp_at_zero Go.wp_at_succ
attribute [local go_sem ↓] eq_ty ne_ty

set_option maxHeartbeats 2000000 in
theorem binary12_any (op : Int) (hop : op = 12 ∨ op = 13) (l r : Int × Int) (w : World) :
    Calls Tryz.prog 125 #[.int .i64 op, tyV l, tyV r] w fun e w' => e = .returned (.tuple #[tyV (4, 0), .bool (l == (4, 0) && r == (4, 0))]) ∧ Below w.heap.size w w' := by
  obtain ⟨lk, ls⟩ := l
  obtain ⟨rk, rs⟩ := r
  obtain ⟨br0, hB0⟩ := bin_box w lk ls rk rs
  obtain ⟨bl0, bk0⟩ := bin_boxes w lk ls rk rs
  by_cases hg : ((lk, ls) == (4, 0)) = true
  · rcases hop with rfl | rfl
    all_goals
      go_enter Tryz.func125, Tryz.ntmps125
      go_wp2_with fail
      go_region_held3 (fun W => W.cell? ⟨w.heap.size, 0, none⟩ = some (.int .i64 lk) ∧ W.cell? ⟨w.heap.size, 1, none⟩ = some (.int .i64 ls) ∧ W.cell? ⟨w.heap.size + 1, 0, none⟩ = some (.int .i64 rk) ∧ W.cell? ⟨w.heap.size + 1, 1, none⟩ = some (.int .i64 rs))
        ((go_split_ands; refine ⟨?_, ?_, ?_, ?_⟩ <;> first | (exact (Keeps.of_below hb3) _ _ _ (by assumption)) | (exact (Keeps.of_below hb2) _ _ _ (by assumption)) | (exact (Keeps.of_below hb1) _ _ _ (by assumption)) | (exact cell_set_ne (cell_set_ne (by assumption) (by omega)) (by omega)) | (go_keep; done)))
        (first | (go_at_call 133; refine (truth_any _).mono ?_; rintro e w1 ⟨rfl, hb1⟩; have br1 := br0.drew.call hb1; obtain ⟨hcr, hfr, hlr⟩ := br1.all) | (go_at_call 133; refine (truth_any _).mono ?_; rintro e w2 ⟨rfl, hb2⟩; have br2 := br1.call hb2; obtain ⟨hcr2, hfr2, hlr2⟩ := br2.all) | (go_at_call 133; refine (truth_any _).mono ?_; rintro e w3 ⟨rfl, hb3⟩; have br3 := br2.call hb3; obtain ⟨hcr3, hfr3, hlr3⟩ := br3.all))
      have hB2 : Below w.heap.size w w3 := Below.step hb3 (Below.step hb2 (Below.step hb1 hB0.drew (by simp <;> omega)) (by omega)) (by omega)
      go_wp2_with fail
      exact bodyPost_ret (v := .tuple #[tyV (4, 0), .bool ((lk, ls) == (4, 0) && (rk, rs) == (4, 0))]) (by simp [results, Tryz.results125, go_sem, hcr3, hg]) rfl ⟨rfl, (hB2.setCell (by simp <;> omega) _).setCell (by simp <;> omega) _⟩
  · have hg' : ((lk, ls) == (4, 0)) = false := by simpa using hg
    clear hg
    rcases hop with rfl | rfl
    all_goals
      go_enter Tryz.func125, Tryz.ntmps125
      go_wp2_with fail
      go_region_with (first | (go_at_call 133; refine (truth_any _).mono ?_; rintro e w1 ⟨rfl, hb1⟩; have br1 := br0.drew.call hb1; have bl1 := bl0.drew.call hb1; obtain ⟨hcr, hfr, hlr⟩ := br1.all; obtain ⟨hcl, hfl, hll⟩ := bl1.all) | (go_at_call 133; refine (truth_any _).mono ?_; rintro e w2 ⟨rfl, hb2⟩; have br2 := br1.call hb2; have bl2 := bl1.call hb2; obtain ⟨hcr2, hfr2, hlr2⟩ := br2.all; obtain ⟨hcl2, hfl2, hll2⟩ := bl2.all))
      all_goals
        have hB1 : Below w.heap.size w w2 := Below.step hb2 (Below.step hb1 hB0.drew (by simp <;> omega)) (by omega)
        go_wp2_with fail
        exact bodyPost_ret (v := .tuple #[tyV (4, 0), .bool ((lk, ls) == (4, 0) && (rk, rs) == (4, 0))]) (by simp [results, Tryz.results125, go_sem, hcr2, hg']) rfl ⟨rfl, (hB1.setCell (by simp <;> omega) _).setCell (by simp <;> omega) _⟩

end Go.Proofs.YtekkicgbloidkaaGreatDoor
