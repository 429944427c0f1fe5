/- The type of what a term puts on the stack, for the types that it took from there. -/
import Derived.Test.YtekkicgbloidkaaGreatDoorTyF
import Derived.Test.YtekkicgbloidkaaGreatDoorTyG
namespace Go.Proofs.YtekkicgbloidkaaGreatDoor
open Go Go.RowKit
attribute [local go_sem ↓] Go.wp_at_zero Go.wp_at_succ

theorem binary_any (op : Int) (l r : Int × Int) (w : World) :
    Calls Tryz.prog 125 #[.int .i64 op, tyV l, tyV r] w fun e w' => e = .returned (.tuple #[tyV (binTy op l r).1, .bool (binTy op l r).2]) ∧ Below w.heap.size w w' := by
  by_cases h5 : op = 5 ∨ op = 6
  · have e : binTy op l r = (l, l == r && tNum l) := by unfold binTy; rw [if_pos h5]
    rw [e]; exact binary5_any op h5 l r w
  by_cases h7 : op = 7
  · subst h7; exact binary7_any l r w
  by_cases h9 : op = 9 ∨ op = 10 ∨ op = 11
  · have e : binTy op l r = ((4, 0), l == r && l != (4, 0)) := by unfold binTy; rw [if_neg h5, if_neg h7, if_pos h9]
    rw [e]; exact binary9_any op h9 l r w
  by_cases h12 : op = 12 ∨ op = 13
  · have e : binTy op l r = ((4, 0), l == (4, 0) && r == (4, 0)) := by unfold binTy; rw [if_neg h5, if_neg h7, if_neg h9, if_pos h12]
    rw [e]; exact binary12_any op h12 l r w
  have e : binTy op l r = ((0, 0), false) := by unfold binTy; rw [if_neg h5, if_neg h7, if_neg h9, if_neg h12]
  rw [e]
  exact binaryN_any op l r w (by simp; omega) (by simp; omega) (by simp; omega) (by simp; omega) (by simp; omega) (by simp; omega) (by simp; omega) (by simp; omega)

def apTy (t : DTerm) (tk cols : List (Int × Int)) : (Int × Int) × Bool :=
  match tk with
  | [] => leafTy t cols
  | [o] => unTy t o
  | l :: r :: _ => binTy t.op l r

theorem app_box (w : World) (t : DTerm) :
    Box ((w.alloc (.cells #[.int .i64 t.op, .int .i64 t.a, .int .i64 t.v, .string t.s] 87)).alloc (.cells #[.int .i64 0, .int .i64 0] 103)) (w.heap.size + 1) #[.int .i64 0, .int .i64 0] 103 ∧
    Below w.heap.size w ((w.alloc (.cells #[.int .i64 t.op, .int .i64 t.a, .int .i64 t.v, .string t.s] 87)).alloc (.cells #[.int .i64 0, .int .i64 0] 103)) := by
  refine ⟨?_, ((Below.refl _ _).alloc (by simp) _).alloc (by simp) _⟩
  have := Box.new (w.alloc (.cells #[.int .i64 t.op, .int .i64 t.a, .int .i64 t.v, .string t.s] 87)) #[.int .i64 0, .int .i64 0] 103
  rwa [show (w.alloc (.cells #[.int .i64 t.op, .int .i64 t.a, .int .i64 t.v, .string t.s] 87)).heap.size = w.heap.size + 1 by simp] at this

set_option maxHeartbeats 1000000 in
theorem apply0_any (t : DTerm) (ht : t.s.size ≤ 9223372036854775807) (cols : List (Int × Int)) (at' : Option Addr) (ct : Nat) (vc : Value) (w : World) (hv : RTys w vc cols) :
    Calls Tryz.prog 114 #[termV t, .slice at' 0 ct, vc] w fun e w' => e = .returned (.tuple #[tyV (leafTy t cols).1, .bool (leafTy t cols).2]) ∧ Below w.heap.size w w' := by
  obtain ⟨br0, hB0⟩ := app_box w t
  have hv0 := hv.mono mono_RTy (Keeps.of_below hB0)
  go_enter Tryz.func114, Tryz.ntmps114
  go_wp2_with fail
  refine (leaf_any t ht cols vc _ hv0).mono ?_
  rintro e w1 ⟨rfl, hb1⟩
  have hB1 : Below w.heap.size w w1 := Below.step hb1 hB0 (by simp <;> omega)
  obtain ⟨hcr, hfr, hlr⟩ := (br0.call hb1).all
  go_wp2_with fail
  exact bodyPost_ret (v := .tuple #[tyV (leafTy t cols).1, .bool (leafTy t cols).2]) (by simp [results, Tryz.results114, go_sem, hcr]) rfl ⟨rfl, (hB1.setCell (by simp) _).setCell (by simp) _⟩

set_option maxHeartbeats 1000000 in
theorem apply1_any (t : DTerm) (o : Int × Int) (b off ct : Nat) (vc : Value) (w : World) (h0 : w.cell? ⟨b, off, none⟩ = some (.int .i64 o.1)) (h1 : w.cell? ⟨b, off + 1, none⟩ = some (.int .i64 o.2)) :
    Calls Tryz.prog 114 #[termV t, .slice (some ⟨b, off, none⟩) 1 ct, vc] w fun e w' => e = .returned (.tuple #[tyV (unTy t o).1, .bool (unTy t o).2]) ∧ Below w.heap.size w w' := by
  obtain ⟨br0, hB0⟩ := app_box w t
  obtain ⟨ok, os⟩ := o
  have hb := cell_lt h0
  go_enter Tryz.func114, Tryz.ntmps114
  go_wp2_with fail
  go_region_held3 (fun W => W.cell? ⟨w.heap.size, 0, none⟩ = some (.int .i64 t.op) ∧ W.cell? ⟨w.heap.size, 1, none⟩ = some (.int .i64 t.a) ∧ W.cell? ⟨w.heap.size, 2, none⟩ = some (.int .i64 t.v) ∧ W.cell? ⟨w.heap.size, 3, none⟩ = some (.string t.s) ∧ W.cell? ⟨b, off, none⟩ = some (.int .i64 ok) ∧ W.cell? ⟨b, off + 1, none⟩ = some (.int .i64 os))
    ((go_split_ands; refine ⟨?_, ?_, ?_, ?_, ?_, ?_⟩ <;> first | (exact (Keeps.of_below hb1) _ _ _ (by assumption)) | (exact cell_set_ne (cell_set_ne (by assumption) (by omega)) (by omega)) | (go_keep; done)))
    (first | (go_at_call 124; refine (unary_any t (ok, os) _).mono ?_; rintro e w1 ⟨rfl, hb1⟩; have br1 := br0.drew.call hb1; obtain ⟨hcr, hfr, hlr⟩ := br1.all))
  have hB1 : Below w.heap.size w w1 := Below.step hb1 hB0.drew (by simp <;> omega)
  go_wp2_with fail
  exact bodyPost_ret (v := .tuple #[tyV (unTy t (ok, os)).1, .bool (unTy t (ok, os)).2]) (by simp [results, Tryz.results114, go_sem, hcr]) rfl ⟨rfl, (hB1.setCell (by simp) _).setCell (by simp) _⟩

set_option maxHeartbeats 1000000 in
theorem apply2_any (t : DTerm) (l r : Int × Int) (b off ct : Nat) (vc : Value) (w : World) (h0 : w.cell? ⟨b, off, none⟩ = some (.int .i64 l.1)) (h1 : w.cell? ⟨b, off + 1, none⟩ = some (.int .i64 l.2)) (h2 : w.cell? ⟨b, off + 2, none⟩ = some (.int .i64 r.1)) (h3 : w.cell? ⟨b, off + 2 + 1, none⟩ = some (.int .i64 r.2)) :
    Calls Tryz.prog 114 #[termV t, .slice (some ⟨b, off, none⟩) 2 ct, vc] w fun e w' => e = .returned (.tuple #[tyV (binTy t.op l r).1, .bool (binTy t.op l r).2]) ∧ Below w.heap.size w w' := by
  obtain ⟨br0, hB0⟩ := app_box w t
  obtain ⟨lk, ls⟩ := l
  obtain ⟨rk, rs⟩ := r
  have hb := cell_lt h0
  go_enter Tryz.func114, Tryz.ntmps114
  go_wp2_with fail
  go_region_held3 (fun W => W.cell? ⟨w.heap.size, 0, none⟩ = some (.int .i64 t.op) ∧ W.cell? ⟨b, off, none⟩ = some (.int .i64 lk) ∧ W.cell? ⟨b, off + 1, none⟩ = some (.int .i64 ls) ∧ W.cell? ⟨b, off + 2, none⟩ = some (.int .i64 rk) ∧ W.cell? ⟨b, off + 2 + 1, none⟩ = some (.int .i64 rs))
    ((go_split_ands; refine ⟨?_, ?_, ?_, ?_, ?_⟩ <;> first | (exact (Keeps.of_below hb1) _ _ _ (by assumption)) | (exact cell_set_ne (cell_set_ne (by assumption) (by omega)) (by omega)) | (go_keep; done)))
    (first | (go_at_call 125; refine (binary_any t.op (lk, ls) (rk, rs) _).mono ?_; rintro e w1 ⟨rfl, hb1⟩; have br1 := br0.drew.call hb1; obtain ⟨hcr, hfr, hlr⟩ := br1.all))
  have hB1 : Below w.heap.size w w1 := Below.step hb1 hB0.drew (by simp <;> omega)
  go_wp2_with fail
  exact bodyPost_ret (v := .tuple #[tyV (binTy t.op (lk, ls) (rk, rs)).1, .bool (binTy t.op (lk, ls) (rk, rs)).2]) (by simp [results, Tryz.results114, go_sem, hcr]) rfl ⟨rfl, (hB1.setCell (by simp) _).setCell (by simp) _⟩

end Go.Proofs.YtekkicgbloidkaaGreatDoor
