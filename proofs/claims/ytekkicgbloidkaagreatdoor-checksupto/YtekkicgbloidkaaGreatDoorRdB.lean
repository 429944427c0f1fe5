/- A script that was handed in is read: its steps, tables and plans. -/
import Derived.Test.YtekkicgbloidkaaGreatDoorRdA
namespace Go.Proofs.YtekkicgbloidkaaGreatDoor
open Go Go.RowKit Go.ChangeShapes Go.WideShapes Go.ChangeAt Go.Deep

theorem int_of {w : World} {e : TypeId} (he : Tryz.prog.underlying e = some (.int .i64)) {H : Type} {enc : TypeId × Value → H} {spare : Nat → Bool} {held : Bool} {fuel : Nat} {u : Value} {x : DataW H × List MemPlace} (h : DataW.trod enc Tryz.prog w 0 spare held fuel e [u] = some x) : ∃ n, u = .int .i64 n := by
  obtain ⟨n, hn, -, -⟩ := DataW.trod_int he h
  exact ⟨n, by simpa using hn⟩

theorem opens_agg (w : World) : Opens w 126 RTy (fun _ => True) := fun H enc spare held fuel cs x h hb => by
  have hs := opens_struct Tryz.underlying126 (by kernel_rfl) (by kernel_rfl) h hb
  obtain ⟨u0, y0, n0, c0, t0, -⟩ := hs 0 _ rfl
  obtain ⟨u1, y1, n1, c1, t1, -⟩ := hs 1 _ rfl
  obtain ⟨z0, rfl⟩ := int_of Tryz.underlying3 t0
  obtain ⟨z1, rfl⟩ := int_of Tryz.underlying3 t1
  exact ⟨(z0, z1), fun rd hrd => ⟨hrd _ _ c0, hrd _ _ c1⟩, trivial⟩

theorem opens_term (w : World) : Opens w 87 RTerm (fun _ => True) := fun H enc spare held fuel cs x h hb => by
  have hs := opens_struct Tryz.underlying87 (by kernel_rfl) (by kernel_rfl) h hb
  obtain ⟨u0, y0, n0, c0, t0, -⟩ := hs 0 _ rfl
  obtain ⟨u1, y1, n1, c1, t1, -⟩ := hs 1 _ rfl
  obtain ⟨u2, y2, n2, c2, t2, -⟩ := hs 2 _ rfl
  obtain ⟨u3, y3, n3, c3, t3, -⟩ := hs 3 _ rfl
  obtain ⟨z0, rfl⟩ := int_of Tryz.underlying3 t0
  obtain ⟨z1, rfl⟩ := int_of Tryz.underlying3 t1
  obtain ⟨z2, rfl⟩ := int_of Tryz.underlying2 t2
  obtain ⟨s, hs3, -, hsl⟩ := DataW.trod_string Tryz.underlying9 t3
  obtain rfl : u3 = .string s := by simpa using hs3
  exact ⟨⟨z0, z1, z2, s⟩, fun rd hrd => ⟨hrd _ _ c0, hrd _ _ c1, hrd _ _ c2, hrd _ _ c3, by unfold maxLen at hsl; omega⟩, trivial⟩

theorem opens_expr (w : World) : Opens w 84 RExpr (fun e => e.length ≤ 2000000) := fun H enc spare held fuel cs x h hb => by
  obtain ⟨v, xs, rfl, hr, hl, -⟩ := opens_slice (opens_term w) Tryz.underlying84 (sz := 4) (by kernel_rfl) (by omega) h hb
  exact ⟨xs, fun rd hrd => ⟨v, hrd 0 _ rfl, hr⟩, by omega⟩

theorem opens_col (w : World) : Opens w 67 RCol ColSm := fun H enc spare held fuel cs x h hb => by
  have hs := opens_struct Tryz.underlying67 (by kernel_rfl) (by kernel_rfl) h hb
  obtain ⟨u0, y0, n0, c0, t0, -⟩ := hs 0 _ rfl
  obtain ⟨u1, y1, n1, c1, t1, -⟩ := hs 1 _ rfl
  obtain ⟨u2, y2, n2, c2, t2, b2⟩ := hs 2 _ rfl
  obtain ⟨u3, y3, n3, c3, t3, b3⟩ := hs 3 _ rfl
  obtain ⟨u4, y4, n4, c4, t4, b4⟩ := hs 4 _ rfl
  obtain ⟨z0, rfl⟩ := int_of Tryz.underlying3 t0
  obtain ⟨z1, rfl⟩ := int_of Tryz.underlying3 t1
  obtain ⟨v2, l2, e2, r2, m2, -⟩ := opens_slice (opens_int Tryz.underlying2) Tryz.underlying63 (sz := 1) (by kernel_rfl) (by omega) t2 b2
  obtain ⟨v3, l3, e3, r3, m3, -⟩ := opens_slice (opens_string Tryz.underlying9) Tryz.underlying65 (sz := 1) (by kernel_rfl) (by omega) t3 b3
  obtain ⟨v4, l4, e4, r4, m4, -⟩ := opens_slice (opens_bool Tryz.underlying4) Tryz.underlying64 (sz := 1) (by kernel_rfl) (by omega) t4 b4
  obtain rfl : u2 = v2 := by simpa using e2
  obtain rfl : u3 = v3 := by simpa using e3
  obtain rfl : u4 = v4 := by simpa using e4
  exact ⟨⟨z0, z1, l2, l3, l4⟩, fun rd hrd => ⟨_, _, _, hrd _ _ c0, hrd _ _ c1, hrd _ _ c2, hrd _ _ c3, hrd _ _ c4, ⟨r2, r3, r4⟩⟩, ⟨by simp only; omega, by simp only; omega, by simp only; omega⟩⟩

theorem opens_tab (w : World) : Opens w 57 RTab TabSm := fun H enc spare held fuel cs x h hb => by
  have hs := opens_struct Tryz.underlying57 (by kernel_rfl) (by kernel_rfl) h hb
  obtain ⟨u0, y0, n0, c0, t0, b0⟩ := hs 0 _ rfl
  obtain ⟨v0, l0, e0, r0, m0, g0⟩ := opens_slice (opens_col w) Tryz.underlying52 (sz := 5) (by kernel_rfl) (by omega) t0 b0
  obtain rfl : u0 = v0 := by simpa using e0
  exact ⟨l0, fun rd hrd => ⟨_, hrd _ _ c0, r0⟩, ⟨by omega, g0⟩⟩

theorem opens_node (w : World) : Opens w 71 RNode NodeSm := fun H enc spare held fuel cs x h hb => by
  have hs := opens_struct Tryz.underlying71 (by kernel_rfl) (by kernel_rfl) h hb
  obtain ⟨u0, y0, n0, c0, t0, -⟩ := hs 0 _ rfl
  obtain ⟨u1, y1, n1, c1, t1, -⟩ := hs 1 _ rfl
  obtain ⟨u2, y2, n2, c2, t2, -⟩ := hs 2 _ rfl
  obtain ⟨u3, y3, n3, c3, t3, b3⟩ := hs 3 _ rfl
  obtain ⟨u4, y4, n4, c4, t4, b4⟩ := hs 4 _ rfl
  obtain ⟨u5, y5, n5, c5, t5, b5⟩ := hs 5 _ rfl
  obtain ⟨u6, y6, n6, c6, t6, b6⟩ := hs 6 _ rfl
  obtain ⟨z0, rfl⟩ := int_of Tryz.underlying3 t0
  obtain ⟨z1, rfl⟩ := int_of Tryz.underlying3 t1
  obtain ⟨z2, rfl⟩ := int_of Tryz.underlying3 t2
  obtain ⟨v3, l3, e3, r3, m3, g3⟩ := opens_slice (opens_expr w) Tryz.underlying68 (sz := 1) (by kernel_rfl) (by omega) t3 b3
  obtain ⟨v4, l4, e4, r4, m4, -⟩ := opens_slice (opens_int Tryz.underlying3) Tryz.underlying24 (sz := 1) (by kernel_rfl) (by omega) t4 b4
  obtain ⟨v5, l5, e5, r5, m5, -⟩ := opens_slice (opens_int Tryz.underlying3) Tryz.underlying24 (sz := 1) (by kernel_rfl) (by omega) t5 b5
  obtain ⟨v6, l6, e6, r6, m6, -⟩ := opens_slice (opens_agg w) Tryz.underlying69 (sz := 2) (by kernel_rfl) (by omega) t6 b6
  obtain rfl : u3 = v3 := by simpa using e3
  obtain rfl : u4 = v4 := by simpa using e4
  obtain rfl : u5 = v5 := by simpa using e5
  obtain rfl : u6 = v6 := by simpa using e6
  exact ⟨⟨z0, z1, z2, l3, l4, l5, l6⟩, fun rd hrd => ⟨_, _, _, _, hrd _ _ c0, hrd _ _ c1, hrd _ _ c2, hrd _ _ c3, hrd _ _ c4, hrd _ _ c5, hrd _ _ c6, ⟨r3, r4, r5, r6⟩⟩, ⟨by simp only; omega, g3, by simp only; omega, by simp only; omega, by simp only; omega⟩⟩

theorem opens_op (w : World) : Opens w 38 ROp OpSm := fun H enc spare held fuel cs x h hb => by
  have hs := opens_struct Tryz.underlying38 (by kernel_rfl) (by kernel_rfl) h hb
  obtain ⟨u0, y0, n0, c0, t0, -⟩ := hs 0 _ rfl
  obtain ⟨u1, y1, n1, c1, t1, -⟩ := hs 1 _ rfl
  obtain ⟨u2, y2, n2, c2, t2, -⟩ := hs 2 _ rfl
  obtain ⟨u3, y3, n3, c3, t3, -⟩ := hs 3 _ rfl
  obtain ⟨u4, y4, n4, c4, t4, -⟩ := hs 4 _ rfl
  obtain ⟨u5, y5, n5, c5, t5, b5⟩ := hs 5 _ rfl
  obtain ⟨u6, y6, n6, c6, t6, b6⟩ := hs 6 _ rfl
  obtain ⟨z0, rfl⟩ := int_of Tryz.underlying3 t0
  obtain ⟨z1, rfl⟩ := int_of Tryz.underlying3 t1
  obtain ⟨z2, rfl⟩ := int_of Tryz.underlying3 t2
  obtain ⟨z3, rfl⟩ := int_of Tryz.underlying3 t3
  obtain ⟨z4, rfl⟩ := int_of Tryz.underlying3 t4
  obtain ⟨v5, l5, e5, r5, m5, g5⟩ := opens_slice (opens_tab w) Tryz.underlying35 (sz := 1) (by kernel_rfl) (by omega) t5 b5
  obtain ⟨v6, l6, e6, r6, m6, g6⟩ := opens_slice (opens_node w) Tryz.underlying36 (sz := 7) (by kernel_rfl) (by omega) t6 b6
  obtain rfl : u5 = v5 := by simpa using e5
  obtain rfl : u6 = v6 := by simpa using e6
  exact ⟨⟨z0, z1, z2, z3, z4, l5, l6⟩, fun rd hrd => ⟨_, _, hrd _ _ c0, hrd _ _ c1, hrd _ _ c2, hrd _ _ c3, hrd _ _ c4, hrd _ _ c5, hrd _ _ c6, r5, r6⟩, ⟨⟨by simp only; omega, g5⟩, ⟨by simp only; omega, g6⟩⟩⟩

/-- THE SCRIPT. -/
theorem opens_script {w : World} {H : Type} {enc : TypeId × Value → H} {spare : Nat → Bool} {held : Bool} {fuel : Nat} {cs : List Value} {x : DataW H × List MemPlace} (h : DataW.trod enc Tryz.prog w 0 spare held fuel 22 cs = some x) (hb : Rows.uptoBulk x.1 ≤ 1048576) :
    ∃ v l, cs = [v] ∧ RScript w v l ∧ ScriptSm l := by
  obtain ⟨v, l, e, r, m, g⟩ := opens_slice (opens_op w) Tryz.underlying22 (sz := 7) (by kernel_rfl) (by omega) h hb
  exact ⟨v, l, e, r, ⟨by omega, g⟩⟩
end Go.Proofs.YtekkicgbloidkaaGreatDoor
