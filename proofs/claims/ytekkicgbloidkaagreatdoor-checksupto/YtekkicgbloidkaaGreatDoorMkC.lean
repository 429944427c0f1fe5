/- Lists of columns that bear their owner's mark. -/
import Derived.Test.YtekkicgbloidkaaGreatDoorMkB
namespace Go.Proofs.YtekkicgbloidkaaGreatDoor
open Go Go.RowKit
attribute [local go_sem] run_eql_slice_nil
attribute [local go_sem ↓] Go.wp_at_zero Go.wp_at_succ

abbrev xCol (mark : Nat) : List Value := [.int .i64 (-1000 - (mark : Int)), .int .i64 0, .slice none 0 0, .slice none 0 0, .slice none 0 0]

theorem Mk.cells5 {T : TypeId} {w : World} {lo hi : Nat} {v : Value} {xs : List Value} (h : Mk T 5 w lo hi v xs) : ∃ a n c, v = .slice a n c ∧ n ≤ 9223372036854775807 ∧ ∀ j, j < n → ∃ g, a = some ⟨g, 0, none⟩ ∧ ∀ i u, xs[i]? = some u → i < 5 → w.cell? ⟨g, j * 5 + i, none⟩ = some u := by
  rcases h with rfl | ⟨g, n, cap, cur, rfl, h1, h2, hb, h3, h4, h5, h6⟩
  · exact ⟨none, 0, 0, rfl, by omega, fun j h => absurd h (Nat.not_lt_zero _)⟩
  · refine ⟨_, n, cap, rfl, by omega, fun j hj => ⟨g, rfl, fun i u hu hi => ?_⟩⟩
    rw [hb.rules.1]
    exact h6 j i u hj hu hi

set_option maxRecDepth 20000 in
set_option maxHeartbeats 2000000 in
theorem allCols_any (mark : Nat) (hm : mark ≤ 1000000000000) (v : Value) (w : World) (lo hi : Nat) (h : Mk 67 5 w lo hi v (xCol mark)) :
    Calls Tryz.prog 51 #[v, .int .i64 mark] w fun e w' => e = .returned (.bool true) ∧ Below w.heap.size w w' := by
  obtain ⟨a, n, c, rfl, hn, hc⟩ := h.cells5
  have HC : Hid (∀ j, j < n → ∃ g, a = some ⟨g, 0, none⟩ ∧ ∀ i u, (xCol mark)[i]? = some u → i < 5 → w.cell? ⟨g, j * 5 + i, none⟩ = some u) := hc
  clear h hc
  go_enter Tryz.func51, Tryz.ntmps51
  go_wp2
  go_loopw [5] (fun i W => ∃ k : Nat, k ≤ n ∧ i = .int .i64 k ∧ Below w.heap.size w W) (fun i _ => n - (intOf i).toNat)
  case atStart => exact ⟨0, Nat.zero_le _, rfl, Below.refl _ _⟩
  case round =>
    obtain ⟨k, hk, rfl, hB⟩ := hrel
    have HB : Hid (Below w.heap.size w wr) := hB
    clear hB
    by_cases hlt : k < n
    · obtain ⟨g, rfl, hc⟩ := HC.out k hlt
      have kp := Keeps.of_below HB.out
      have e0 : wr.cell? ⟨g, k * 5, none⟩ = _ := kp _ _ _ (hc 0 _ rfl (by omega))
      have e2 := kp _ _ _ (hc 2 _ rfl (by omega))
      have e3 := kp _ _ _ (hc 3 _ rfl (by omega))
      have e4 := kp _ _ _ (hc 4 _ rfl (by omega))
      have lg := cell_lt e0
      have hi0 : (0 : Int) ≤ (k : Int) := by omega
      have hi1 : (k : Int) < (n : Int) := by omega
      clear hc kp
      go_wp2_with fail
      go_roundw
      case rel => exact ⟨k + 1, by omega, by go_num, HB.out⟩
      case measure => simp [intOf]; omega
    · go_wp2_with fail
      go_ret
      exact ⟨rfl, HB.out⟩

set_option maxRecDepth 20000 in
set_option maxHeartbeats 2000000 in
theorem stillCols_any (mark : Nat) (hm : mark ≤ 1000000000000) (v0 v1 v2 v3 : Value) (w : World) (lo hi : Nat) (h0 : Mk 67 5 w lo hi v0 (xCol mark)) (h1 : Mk 67 5 w lo hi v1 (xCol mark)) (h2 : Mk 67 5 w lo hi v2 (xCol mark)) (h3 : Mk 67 5 w lo hi v3 (xCol mark)) :
    Calls Tryz.prog 27 #[.agg #[v0, v1, v2, v3, .int .i64 mark]] w fun e w' => e = .returned (.bool true) ∧ Below w.heap.size w w' := by
  obtain ⟨a0, n0, c0, rfl⟩ := h0.shape
  obtain ⟨a1, n1, c1, rfl⟩ := h1.shape
  obtain ⟨a2, n2, c2, rfl⟩ := h2.shape
  obtain ⟨a3, n3, c3, rfl⟩ := h3.shape
  have hb0 : Below w.heap.size w (w.alloc (.cells #[.slice a0 n0 c0, .slice a1 n1 c1, .slice a2 n2 c2, .slice a3 n3 c3, .int .i64 mark] 78)) := (Below.refl _ _).alloc (Nat.le_refl _) _
  have HB0 : Hid _ := hb0
  have HX : Hid (Box (w.alloc (.cells #[.slice a0 n0 c0, .slice a1 n1 c1, .slice a2 n2 c2, .slice a3 n3 c3, .int .i64 mark] 78)) w.heap.size #[.slice a0 n0 c0, .slice a1 n1 c1, .slice a2 n2 c2, .slice a3 n3 c3, .int .i64 mark] 78) := Box.new _ _ _
  have H0 : Hid _ := h0.call hb0
  have H1 : Hid _ := h1.call hb0
  have H2 : Hid _ := h2.call hb0
  have H3 : Hid _ := h3.call hb0
  clear h0 h1 h2 h3 hb0
  go_enter Tryz.func27, Tryz.ntmps27
  go_wp2_with fail
  generalize w.alloc (.cells #[.slice a0 n0 c0, .slice a1 n1 c1, .slice a2 n2 c2, .slice a3 n3 c3, .int .i64 mark] 78) = wA at *
  refine (allCols_any mark hm _ _ lo hi H0.out).mono ?_
  rintro e w1 ⟨rfl, hb1⟩
  have HX1 : Hid (Box w1 w.heap.size #[.slice a0 n0 c0, .slice a1 n1 c1, .slice a2 n2 c2, .slice a3 n3 c3, .int .i64 mark] 78) := HX.out.call hb1
  have HB1 : Hid (Below w.heap.size w w1) := Below.step hb1 HB0.out HB0.out.size
  have H11 : Hid (Mk _ _ _ _ _ _ _) := Mk.call H1.out hb1
  have H21 : Hid (Mk _ _ _ _ _ _ _) := Mk.call H2.out hb1
  have H31 : Hid (Mk _ _ _ _ _ _ _) := Mk.call H3.out hb1
  obtain ⟨x1, y1, z1⟩ := HX1.out.all
  clear hb1
  go_wp2_with fail
  refine (allCols_any mark hm _ _ lo hi H11.out).mono ?_
  rintro e w2 ⟨rfl, hb2⟩
  have HX2 : Hid (Box w2 w.heap.size #[.slice a0 n0 c0, .slice a1 n1 c1, .slice a2 n2 c2, .slice a3 n3 c3, .int .i64 mark] 78) := HX1.out.call hb2
  have HB2 : Hid (Below w.heap.size w w2) := Below.step hb2 HB1.out HB1.out.size
  have H22 : Hid (Mk _ _ _ _ _ _ _) := Mk.call H21.out hb2
  have H32 : Hid (Mk _ _ _ _ _ _ _) := Mk.call H31.out hb2
  clear hb2 x1 y1 z1
  obtain ⟨x1, y1, z1⟩ := HX2.out.all
  go_wp2_with fail
  refine (allCols_any mark hm _ _ lo hi H22.out).mono ?_
  rintro e w3 ⟨rfl, hb3⟩
  have HX3 : Hid (Box w3 w.heap.size #[.slice a0 n0 c0, .slice a1 n1 c1, .slice a2 n2 c2, .slice a3 n3 c3, .int .i64 mark] 78) := HX2.out.call hb3
  have HB3 : Hid (Below w.heap.size w w3) := Below.step hb3 HB2.out HB2.out.size
  have H33 : Hid (Mk _ _ _ _ _ _ _) := Mk.call H32.out hb3
  clear hb3 x1 y1 z1
  obtain ⟨x1, y1, z1⟩ := HX3.out.all
  go_wp2_with fail
  refine (allCols_any mark hm _ _ lo hi H33.out).mono ?_
  rintro e w4 ⟨rfl, hb4⟩
  have HB4 : Hid (Below w.heap.size w w4) := Below.step hb4 HB3.out HB3.out.size
  clear hb4 x1 y1 z1
  go_wp2_with fail
  go_ret
  exact ⟨rfl, HB4.out⟩

/-- A list without spare room, in a block of its own. -/
def Full (T : TypeId) (sz : Nat) (w : World) (lo : Nat) (ao : Option Addr) (n : Nat) : Prop := (ao = none ∧ n = 0) ∨ ∃ g cs, ao = some ⟨g, 0, none⟩ ∧ lo ≤ g ∧ Box w g cs T ∧ cs.size = n * sz

set_option maxRecDepth 20000 in
set_option maxHeartbeats 8000000 in
theorem ownCols_any (mark : Nat) (hm : mark ≤ 1000000000000) (ao : Option Addr) (n lo : Nat) (hn : n ≤ 1000) (w : World) (_hlo : lo ≤ w.heap.size) (hf : Full 67 5 w lo ao n) :
    Calls Tryz.prog 44 #[.slice ao n n, .int .i64 mark] w fun e w' => ∃ v1 v2 v3, e = .returned (.agg #[.slice ao n n, v1, v2, v3, .int .i64 mark]) ∧ Mk 67 5 w' lo w'.heap.size (.slice ao n n) (xCol mark) ∧ Mk 67 5 w' w.heap.size w'.heap.size v1 (xCol mark) ∧ Mk 67 5 w' w.heap.size w'.heap.size v2 (xCol mark) ∧ Mk 67 5 w' w.heap.size w'.heap.size v3 (xCol mark) ∧ Only (fun b => ao = some ⟨b, 0, none⟩) w w' := by
  have hb0 : Below w.heap.size w ((w.alloc (.cells #[.slice none 0 0, .slice none 0 0, .slice none 0 0, .slice none 0 0, .int .i64 0] 78)).alloc (.cells #[.int .i64 (-1000 - (mark : Int)), .int .i64 0, .slice none 0 0, .slice none 0 0, .slice none 0 0] 67)) := ((Below.refl _ _).alloc (Nat.le_refl _) _).alloc (by simp) _
  have HB0 : Hid _ := hb0
  have HX0 : Hid (Box ((w.alloc (.cells #[.slice none 0 0, .slice none 0 0, .slice none 0 0, .slice none 0 0, .int .i64 0] 78)).alloc (.cells #[.int .i64 (-1000 - (mark : Int)), .int .i64 0, .slice none 0 0, .slice none 0 0, .slice none 0 0] 67)) w.heap.size #[.slice none 0 0, .slice none 0 0, .slice none 0 0, .slice none 0 0, .int .i64 0] 78) := (Box.new _ _ _).alloc _
  have HY0 : Hid (Box ((w.alloc (.cells #[.slice none 0 0, .slice none 0 0, .slice none 0 0, .slice none 0 0, .int .i64 0] 78)).alloc (.cells #[.int .i64 (-1000 - (mark : Int)), .int .i64 0, .slice none 0 0, .slice none 0 0, .slice none 0 0] 67)) (w.heap.size + 1) #[.int .i64 (-1000 - (mark : Int)), .int .i64 0, .slice none 0 0, .slice none 0 0, .slice none 0 0] 67) := by
    have := Box.new (w.alloc (.cells #[.slice none 0 0, .slice none 0 0, .slice none 0 0, .slice none 0 0, .int .i64 0] 78)) #[.int .i64 (-1000 - (mark : Int)), .int .i64 0, .slice none 0 0, .slice none 0 0, .slice none 0 0] 67
    unfold Hid; simpa using this
  have HS0 : Hid (w.heap.size + 2 ≤ ((w.alloc (.cells #[.slice none 0 0, .slice none 0 0, .slice none 0 0, .slice none 0 0, .int .i64 0] 78)).alloc (.cells #[.int .i64 (-1000 - (mark : Int)), .int .i64 0, .slice none 0 0, .slice none 0 0, .slice none 0 0] 67)).heap.size) := by unfold Hid; simp
  have HF : Hid (Full 67 5 w lo ao n) := hf
  clear hb0 hf
  go_enter Tryz.func44, Tryz.ntmps44
  go_upto_region 2 with fail
  generalize (w.alloc (.cells #[.slice none 0 0, .slice none 0 0, .slice none 0 0, .slice none 0 0, .int .i64 0] 78)).alloc (.cells #[.int .i64 (-1000 - (mark : Int)), .int .i64 0, .slice none 0 0, .slice none 0 0, .slice none 0 0] 67) = wA at *
  go_upto_block 0 with fail
  go_cut [] (fun W => Only (fun b => ao = some ⟨b, 0, none⟩) wA W ∧ (∀ j u, (repl n (xCol mark))[j]? = some u → ∃ g, ao = some ⟨g, 0, none⟩ ∧ W.cell? ⟨g, j, none⟩ = some u) ∧ Mk 67 5 W lo w.heap.size (.slice ao n n) (xCol mark))
  case first =>
    rcases HF.out with ⟨rfl, rfl⟩ | ⟨g, cs, rfl, hg, hbx, hcs⟩
    · go_wp2_with fail
      go_loopw [6] (fun i W => i = .int .i64 0 ∧ W = wA) (fun _ _ => 0)
      case atStart => exact ⟨rfl, rfl⟩
      case round =>
        obtain ⟨rfl, rfl⟩ := hrel
        go_wp2_with fail
        go_meet
        case rel => exact ⟨Only.refl _ _, fun j u hu => by simp [repl] at hu, .inl rfl⟩
    · have HG : Hid (Box wA g cs 67) := hbx.call HB0.out
      have hgw := hbx.lt
      clear hbx
      go_wp2_with fail
      go_loopw [6] (fun i W => ∃ (k : Nat) (cu : Array Value), k ≤ n ∧ i = .int .i64 k ∧ Box W g cu 67 ∧ cu.size = n * 5 ∧ (∀ j i u, j < k → (xCol mark)[i]? = some u → i < 5 → cu[j * 5 + i]? = some u) ∧ Only (fun b => b = g) wA W) (fun i _ => n - (intOf i).toNat)
      case atStart => exact ⟨0, cs, Nat.zero_le _, rfl, HG.out, hcs, fun j i u h => absurd h (Nat.not_lt_zero _), Only.refl _ _⟩
      case round =>
        obtain ⟨k, cu, hk, rfl, hbx, hcu, hdone, hon⟩ := hrel
        have HX : Hid (Box wr g cu 67) := hbx
        have HCU : Hid (cu.size = n * 5) := hcu
        have HD : Hid (∀ j i u, j < k → (xCol mark)[i]? = some u → i < 5 → cu[j * 5 + i]? = some u) := hdone
        have HOn : Hid (Only (fun b => b = g) wA wr) := hon
        have HYk : Hid (Box wr (w.heap.size + 1) #[.int .i64 (-1000 - (mark : Int)), .int .i64 0, .slice none 0 0, .slice none 0 0, .slice none 0 0] 67) := HY0.out.only hon (fun e => by omega)
        clear hbx hcu hdone hon
        by_cases hlt : k < n
        · have hr := HX.out.rules.1
          have hff := HX.out.rules.2
          have hgl := HX.out.lt
          obtain ⟨hcy, hfy, hly⟩ := HYk.out.all
          have hle : (k + 1) * 5 ≤ n * 5 := Nat.mul_le_mul_right _ hlt
          obtain ⟨y0, hy0⟩ : ∃ y, wr.cell? ⟨g, k * 5, none⟩ = some y := ⟨cu[k * 5]'(by have := HCU.out; omega), by rw [hr]; simp⟩
          obtain ⟨y1, hy1⟩ : ∃ y, wr.cell? ⟨g, k * 5 + 1, none⟩ = some y := ⟨cu[k * 5 + 1]'(by have := HCU.out; omega), by rw [hr]; simp⟩
          obtain ⟨y2, hy2⟩ : ∃ y, wr.cell? ⟨g, k * 5 + 2, none⟩ = some y := ⟨cu[k * 5 + 2]'(by have := HCU.out; omega), by rw [hr]; simp⟩
          obtain ⟨y3, hy3⟩ : ∃ y, wr.cell? ⟨g, k * 5 + 3, none⟩ = some y := ⟨cu[k * 5 + 3]'(by have := HCU.out; omega), by rw [hr]; simp⟩
          obtain ⟨y4, hy4⟩ : ∃ y, wr.cell? ⟨g, k * 5 + 4, none⟩ = some y := ⟨cu[k * 5 + 4]'(by have := HCU.out; omega), by rw [hr]; simp⟩
          have hi1 : (k : Int) < (n : Int) := by omega
          clear hr hle
          go_wp2_with fail
          go_roundw
          case rel =>
            refine ⟨k + 1, _, by omega, by go_num, ((((HX.out.set _ _).set _ _).set _ _).set _ _).set _ _, by simp; exact HCU.out, fun j i u hj hu hi => ?_, ((((HOn.out.setCell rfl _).setCell rfl _).setCell rfl _).setCell rfl _).setCell rfl _⟩
            have hsz := HCU.out
            have hle2 : (k + 1) * 5 ≤ n * 5 := Nat.mul_le_mul_right _ hlt
            by_cases hjk : j < k
            · have := HD.out j i u hjk hu hi
              simp only [Array.getElem?_setIfInBounds]
              repeat rw [if_neg (by omega)]
              exact this
            · have hjk' : j = k := by omega
              subst hjk'
              match i, hu, hi with
              | 0, hu, _ => simp at hu; subst hu; simp [Array.getElem?_setIfInBounds, hsz]; omega
              | 1, hu, _ => simp at hu; subst hu; simp [Array.getElem?_setIfInBounds, hsz]; omega
              | 2, hu, _ => simp at hu; subst hu; simp [Array.getElem?_setIfInBounds, hsz]; omega
              | 3, hu, _ => simp at hu; subst hu; simp [Array.getElem?_setIfInBounds, hsz]; omega
              | 4, hu, _ => simp at hu; subst hu; simp [Array.getElem?_setIfInBounds, hsz]; omega
              | i + 5, _, hi => omega
          case measure => simp [intOf]; omega
        · have hkn : k = n := by omega
          subst hkn
          go_wp2_with fail
          go_meet
          case rel =>
            refine ⟨HOn.out.mono (fun b _ e => by rw [e]), fun j u hu => ⟨g, rfl, ?_⟩, .inr ⟨g, k, k, cu, rfl, hg, hgw, HX.out, Nat.le_refl _, by omega, HCU.out, HD.out⟩⟩
            rw [HX.out.rules.1]
            have hj : j < k * 5 := by
              have := (List.getElem?_eq_some_iff.1 hu).1
              rw [repl_length] at this; simpa using this
            have h1 := repl_at k (xCol mark) (j / 5) (j % 5) (by omega) (by simp; omega)
            have e : j / 5 * (xCol mark).length + j % 5 = j := by simp; omega
            rw [e, hu] at h1
            have h2 := HD.out (j / 5) (j % 5) u (by omega) h1.symm (by omega)
            rw [show j / 5 * 5 + j % 5 = j by omega] at h2
            exact h2
  case rest =>
    obtain ⟨hO, hcells, hM⟩ := hcut
    obtain ⟨wB, rfl⟩ : ∃ x : World, x = wc := ⟨wc, rfl⟩
    have HSW : Hid (∀ b, ao = some ⟨b, 0, none⟩ → b < w.heap.size) := fun b e => by
      rcases HF.out with ⟨h, -⟩ | ⟨g, cs, h, -, hbx, -⟩
      · rw [h] at e; simp at e
      · rw [h] at e
        simp only [Option.some.injEq, Addr.mk.injEq, and_true] at e
        subst e; exact hbx.lt
    have HBN : Hid (ao = none → n = 0) := fun e => by
      rcases HF.out with ⟨-, h⟩ | ⟨g, cs, h, -⟩
      · exact h
      · rw [h] at e; simp at e
    have HBG : Hid (∀ p, ao = some p → ∃ g, p = ⟨g, 0, none⟩) := fun p e => by
      rcases HF.out with ⟨h, -⟩ | ⟨g, cs, h, -⟩
      · rw [h] at e; simp at e
      · rw [h] at e
        simp only [Option.some.injEq] at e
        exact ⟨g, e.symm⟩
    have HOB : Hid (Only (fun b => ao = some ⟨b, 0, none⟩) w wB) := (Only.below HB0.out).trans hO
    have HCB : Hid (∀ W, Below wB.heap.size wB W → ∀ j u, (repl n (xCol mark))[j]? = some u → ∃ g, ao = some ⟨g, 0, none⟩ ∧ W.cell? ⟨g, j, none⟩ = some u) := fun W hW j u hu => by
      obtain ⟨g, h1, h2⟩ := hcells j u hu
      exact ⟨g, h1, (Keeps.of_below hW) _ _ _ h2⟩
    have HMB : Hid (Mk 67 5 wB lo w.heap.size (.slice ao n n) (xCol mark)) := hM
    have HXB : Hid (Box wB w.heap.size #[.slice none 0 0, .slice none 0 0, .slice none 0 0, .slice none 0 0, .int .i64 0] 78) := HX0.out.only hO (fun e => by have := HSW.out _ e; omega)
    have HYB : Hid (Box wB (w.heap.size + 1) #[.int .i64 (-1000 - (mark : Int)), .int .i64 0, .slice none 0 0, .slice none 0 0, .slice none 0 0] 67) := HY0.out.only hO (fun e => by have := HSW.out _ e; omega)
    have HSB : Hid (w.heap.size + 2 ≤ wB.heap.size) := Nat.le_trans HS0.out hO.size
    have HLN : Hid ((repl n (xCol mark)).length = n * 5) := by unfold Hid; rw [repl_length]; rfl
    clear hO hcells hM HX0 HY0 HB0 HS0
    have HNW : Hid (∀ j u, (xCol mark)[j]? = some u → (wB.alloc (.cells #[.int .i64 (-1000 - (mark : Int)), .int .i64 0, .slice none 0 0, .slice none 0 0, .slice none 0 0] 67)).cell? ⟨wB.heap.size, j, none⟩ = some u) := fun j u hu => by
      rw [(Box.new wB #[.int .i64 (-1000 - (mark : Int)), .int .i64 0, .slice none 0 0, .slice none 0 0, .slice none 0 0] 67).rules.1 j, ← Array.getElem?_toList]; exact hu
    have HON : Hid (∀ u ∈ xCol mark, u.oneCell' = true) := by intro u hu; simp at hu; rcases hu with rfl | rfl | rfl <;> rfl
    have HSA : Hid ((wB.alloc (.cells #[.int .i64 (-1000 - (mark : Int)), .int .i64 0, .slice none 0 0, .slice none 0 0, .slice none 0 0] 67)).heap.size = wB.heap.size + 1) := by unfold Hid; simp
    have HOL : Hid (∀ j u, (repl n (xCol mark))[j]? = some u → ∃ g, ao = some ⟨g, 0, none⟩ ∧ (wB.alloc (.cells #[.int .i64 (-1000 - (mark : Int)), .int .i64 0, .slice none 0 0, .slice none 0 0, .slice none 0 0] 67)).cell? ⟨g, j, none⟩ = some u) := HCB.out _ ((Below.refl _ _).alloc (Nat.le_refl _) _)
    obtain ⟨hcy, hfy, hly⟩ := HYB.out.all
    go_upto_region 7 with (at_builtin; refine app_full elem_col _ (by rfl) _ _ (by rfl) ao n (repl n (xCol mark)) (by rfl) HLN.out HOL.out HBN.out HBG.out wB.heap.size 1 1 (xCol mark) (by rfl) rfl HNW.out HON.out (by omega) (by omega) (by omega) (wB.heap.size + 1) HSA.out ?_; intro cap1 w1 hown1 hb1 hlt1)
    have HBB1 : Hid (Below wB.heap.size wB w1) := ((Below.refl _ _).alloc (Nat.le_refl _) _).trans (hb1.mono (by omega))
    have HO1 : Hid (Mk 67 5 w1 w.heap.size w1.heap.size (.slice (some ⟨wB.heap.size + 1, 0, none⟩) (n + 1) cap1) (xCol mark)) := by
      have h := Mk.owns (T := 67) (sz := 5) (lo := wB.heap.size + 1) (hi := w1.heap.size) (n := n + 1) (xs := xCol mark) (by rw [repl_succ]; exact hown1) rfl (Nat.le_refl _)
      exact h.wide (by have := HSB.out; omega) (Nat.le_refl _)
    have HX1 : Hid (Box w1 w.heap.size #[.slice none 0 0, .slice none 0 0, .slice none 0 0, .slice none 0 0, .int .i64 0] 78) := HXB.out.call HBB1.out
    have HY1 : Hid (Box w1 (w.heap.size + 1) #[.int .i64 (-1000 - (mark : Int)), .int .i64 0, .slice none 0 0, .slice none 0 0, .slice none 0 0] 67) := HYB.out.call HBB1.out
    have HZ1 : Hid (wB.heap.size ≤ w1.heap.size) := HBB1.out.size
    clear hown1 hb1 hlt1 HNW HSA HOL hcy hfy hly
    have HNW : Hid (∀ j u, (xCol mark ++ xCol mark)[j]? = some u → (w1.alloc (.cells #[.int .i64 (-1000 - (mark : Int)), .int .i64 0, .slice none 0 0, .slice none 0 0, .slice none 0 0, .int .i64 (-1000 - (mark : Int)), .int .i64 0, .slice none 0 0, .slice none 0 0, .slice none 0 0] 67)).cell? ⟨w1.heap.size, j, none⟩ = some u) := fun j u hu => by
      rw [(Box.new w1 #[.int .i64 (-1000 - (mark : Int)), .int .i64 0, .slice none 0 0, .slice none 0 0, .slice none 0 0, .int .i64 (-1000 - (mark : Int)), .int .i64 0, .slice none 0 0, .slice none 0 0, .slice none 0 0] 67).rules.1 j, ← Array.getElem?_toList]; exact hu
    have HON2 : Hid (∀ u ∈ xCol mark ++ xCol mark, u.oneCell' = true) := fun u hu => by
      rw [List.mem_append] at hu
      rcases hu with h | h <;> exact HON.out u h
    have HSA : Hid ((w1.alloc (.cells #[.int .i64 (-1000 - (mark : Int)), .int .i64 0, .slice none 0 0, .slice none 0 0, .slice none 0 0, .int .i64 (-1000 - (mark : Int)), .int .i64 0, .slice none 0 0, .slice none 0 0, .slice none 0 0] 67)).heap.size = w1.heap.size + 1) := by unfold Hid; simp
    have HOL : Hid (∀ j u, (repl n (xCol mark))[j]? = some u → ∃ g, ao = some ⟨g, 0, none⟩ ∧ (w1.alloc (.cells #[.int .i64 (-1000 - (mark : Int)), .int .i64 0, .slice none 0 0, .slice none 0 0, .slice none 0 0, .int .i64 (-1000 - (mark : Int)), .int .i64 0, .slice none 0 0, .slice none 0 0, .slice none 0 0] 67)).cell? ⟨g, j, none⟩ = some u) := HCB.out _ (HBB1.out.alloc HBB1.out.size _)
    obtain ⟨hcy, hfy, hly⟩ := HY1.out.all
    go_upto_region 8 with (at_builtin; refine app_full elem_col _ (by rfl) _ _ (by rfl) ao n (repl n (xCol mark)) (by rfl) HLN.out HOL.out HBN.out HBG.out w1.heap.size 2 2 (xCol mark ++ xCol mark) (by rfl) rfl HNW.out HON2.out (by omega) (by omega) (by omega) (w1.heap.size + 1) HSA.out ?_; intro cap2 w2 hown2 hb2 hlt2)
    have HBC : Hid (Below w1.heap.size w1 w2) := ((Below.refl _ _).alloc (Nat.le_refl _) _).trans (hb2.mono (by omega))
    have HBB2 : Hid (Below wB.heap.size wB w2) := HBB1.out.trans (HBC.out.mono HZ1.out)
    have HO2 : Hid (Mk 67 5 w2 w.heap.size w2.heap.size (.slice (some ⟨w1.heap.size + 1, 0, none⟩) (n + 2) cap2) (xCol mark)) := by
      have h := Mk.owns (T := 67) (sz := 5) (lo := w1.heap.size + 1) (hi := w2.heap.size) (n := n + 2) (xs := xCol mark) (by rw [show n + 2 = n + 1 + 1 from rfl, repl_succ, repl_succ, List.append_assoc]; exact hown2) rfl (Nat.le_refl _)
      exact h.wide (by have := HSB.out; have := HZ1.out; omega) (Nat.le_refl _)
    have HO12 : Hid (Mk 67 5 w2 w.heap.size w2.heap.size (.slice (some ⟨wB.heap.size + 1, 0, none⟩) (n + 1) cap1) (xCol mark)) := (HO1.out.call HBC.out).wide (Nat.le_refl _) HBC.out.size
    have HX2 : Hid (Box w2 w.heap.size #[.slice none 0 0, .slice none 0 0, .slice none 0 0, .slice none 0 0, .int .i64 0] 78) := HX1.out.call HBC.out
    have HY2 : Hid (Box w2 (w.heap.size + 1) #[.int .i64 (-1000 - (mark : Int)), .int .i64 0, .slice none 0 0, .slice none 0 0, .slice none 0 0] 67) := HY1.out.call HBC.out
    have HZ2 : Hid (wB.heap.size ≤ w2.heap.size) := HBB2.out.size
    clear hown2 hb2 hlt2 HNW HSA HOL hcy hfy hly HO1 HX1 HY1 HBC
    go_wp2_with fail
    go_loopw [9, 10] (fun v i W => ∃ k : Nat, k ≤ 64 ∧ i = .int .i64 k ∧ ((k = 0 ∧ v = .slice ao n n) ∨ (0 < k ∧ W.ownsRow w2.heap.size 67 5 v (n + k) (repl (n + k) (xCol mark)))) ∧ Below w2.heap.size w2 W) (fun _ i _ => 64 - (intOf i).toNat)
    case atStart => exact ⟨0, by omega, rfl, .inl ⟨rfl, rfl⟩, Below.refl _ _⟩
    case round =>
      obtain ⟨k, hk, rfl, hown, hB⟩ := hrel
      have HB : Hid (Below w2.heap.size w2 wr) := hB
      have HYr : Hid (Box wr (w.heap.size + 1) #[.int .i64 (-1000 - (mark : Int)), .int .i64 0, .slice none 0 0, .slice none 0 0, .slice none 0 0] 67) := HY2.out.call hB
      have HXr : Hid (Box wr w.heap.size #[.slice none 0 0, .slice none 0 0, .slice none 0 0, .slice none 0 0, .int .i64 0] 78) := HX2.out.call hB
      clear hB
      have HNW : Hid (∀ j u, (xCol mark)[j]? = some u → (wr.alloc (.cells #[.int .i64 (-1000 - (mark : Int)), .int .i64 0, .slice none 0 0, .slice none 0 0, .slice none 0 0] 67)).cell? ⟨wr.heap.size, j, none⟩ = some u) := fun j u hu => by
        rw [(Box.new wr #[.int .i64 (-1000 - (mark : Int)), .int .i64 0, .slice none 0 0, .slice none 0 0, .slice none 0 0] 67).rules.1 j, ← Array.getElem?_toList]; exact hu
      have HSA : Hid ((wr.alloc (.cells #[.int .i64 (-1000 - (mark : Int)), .int .i64 0, .slice none 0 0, .slice none 0 0, .slice none 0 0] 67)).heap.size = wr.heap.size + 1) := by unfold Hid; simp
      have HSC : Hid (w2.heap.size ≤ (wr.alloc (.cells #[.int .i64 (-1000 - (mark : Int)), .int .i64 0, .slice none 0 0, .slice none 0 0, .slice none 0 0] 67)).heap.size) := by have := HB.out.size; unfold Hid; simp; omega
      obtain ⟨hcy, hfy, hly⟩ := HYr.out.all
      by_cases hlt : k < 64
      · have hi1 : (k : Int) < 64 := by omega
        rcases hown with ⟨rfl, rfl⟩ | ⟨hk0, hown⟩
        · have HOL : Hid (∀ j u, (repl n (xCol mark))[j]? = some u → ∃ g, ao = some ⟨g, 0, none⟩ ∧ (wr.alloc (.cells #[.int .i64 (-1000 - (mark : Int)), .int .i64 0, .slice none 0 0, .slice none 0 0, .slice none 0 0] 67)).cell? ⟨g, j, none⟩ = some u) := HCB.out _ ((HBB2.out.trans (HB.out.mono HZ2.out)).alloc (by have := HB.out.size; have := HZ2.out; omega) _)
          go_wp2_with (at_builtin; refine app_full elem_col _ (by rfl) _ _ (by rfl) ao n (repl n (xCol mark)) (by rfl) HLN.out HOL.out HBN.out HBG.out wr.heap.size 1 1 (xCol mark) (by rfl) rfl HNW.out HON.out (by omega) (by omega) (by omega) (wr.heap.size + 1) HSA.out ?_; intro cap3 w3 hown3 hb3 hlt3)
          have HO3 : Hid (w3.ownsRow w2.heap.size 67 5 (.slice (some ⟨wr.heap.size + 1, 0, none⟩) (n + 1) cap3) (n + 1) (repl (n + 1) (xCol mark))) := by
            unfold Hid
            rw [repl_succ]
            refine ⟨hown3.1, ?_⟩
            rcases hown3.2 with h | ⟨g, c, cu, e1, e2, e3⟩
            · exact .inl h
            · exact .inr ⟨g, c, cu, e1, by have := HB.out.size; omega, e3⟩
          have HB3 : Hid (Below w2.heap.size w2 w3) := (HB.out.alloc HB.out.size _).trans (hb3.mono (by have := HB.out.size; omega))
          clear hown3 hb3 hlt3
          go_roundw
          case rel => exact ⟨1, by omega, by go_num, .inr ⟨by omega, HO3.out⟩, HB3.out⟩
          case measure => simp [intOf]
        · have HO : Hid (wr.ownsRow w2.heap.size 67 5 u9 (n + k) (repl (n + k) (xCol mark))) := hown
          have HOG : Hid ((wr.alloc (.cells #[.int .i64 (-1000 - (mark : Int)), .int .i64 0, .slice none 0 0, .slice none 0 0, .slice none 0 0] 67)).ownsRow w2.heap.size 67 5 u9 (n + k) (repl (n + k) (xCol mark))) := hown.alloc _
          clear hown
          go_wp2_with (at_builtin; refine app_one elem_col _ (by rfl) _ _ (by rfl) w2.heap.size u9 (n + k) (repl (n + k) (xCol mark)) (by rfl) HOG.out wr.heap.size 1 1 (xCol mark) (by rfl) rfl HNW.out HON.out (by omega) (by omega) (by omega) HSC.out (wr.heap.size + 1) HSA.out ?_; intro g3 cap3 w3 hown3 hg3 hat3 hlt3)
          have HO3 : Hid (w3.ownsRow w2.heap.size 67 5 (.slice (some ⟨g3, 0, none⟩) (n + k + 1) cap3) (n + (k + 1)) (repl (n + (k + 1)) (xCol mark))) := by unfold Hid; rw [← Nat.add_assoc, repl_succ]; exact hown3
          have HB3 : Hid (Below w2.heap.size w2 w3) := (HB.out.alloc HB.out.size _).grown hg3 HSC.out (fun g hg => (HO.out.lt g hg).1)
          clear hown3 hg3 hat3 hlt3
          go_roundw
          case rel => exact ⟨k + 1, by omega, by go_num, .inr ⟨by omega, HO3.out⟩, HB3.out⟩
          case measure => simp [intOf]; omega
      · have hk64 : k = 64 := by omega
        subst hk64
        rcases hown with ⟨h, -⟩ | ⟨-, hown⟩
        · simp at h
        have HO : Hid (wr.ownsRow w2.heap.size 67 5 u9 (n + 64) (repl (n + 64) (xCol mark))) := hown
        obtain ⟨a9, c9, rfl⟩ := owns_shape hown
        clear hown hcy hfy hly
        obtain ⟨hcr, hfr, hlr⟩ := HXr.out.all
        have HMM : Hid (∀ W, Only (fun b => b = w.heap.size) wr W → Mk 67 5 W lo W.heap.size (.slice ao n n) (xCol mark) ∧ Mk 67 5 W w.heap.size W.heap.size (.slice (some ⟨wB.heap.size + 1, 0, none⟩) (n + 1) cap1) (xCol mark) ∧ Mk 67 5 W w.heap.size W.heap.size (.slice (some ⟨w1.heap.size + 1, 0, none⟩) (n + 2) cap2) (xCol mark) ∧ Mk 67 5 W w.heap.size W.heap.size (.slice a9 (n + 64) c9) (xCol mark)) := fun W hW => by
          have hne : ∀ {v : Value} {lo' hi' lo2 : Nat}, Mk 67 5 wr lo' hi' v (xCol mark) → lo2 ≤ lo' → hi' ≤ wr.heap.size → Mk 67 5 W lo2 W.heap.size v (xCol mark) := by
            intro v lo' hi' lo2 hM hlo hhi
            rcases hM with h | ⟨g, n, cap, cur, hv, g1, g2, hb, rest⟩
            · exact .inl h
            · exact .inr ⟨g, n, cap, cur, hv, by omega, Nat.lt_of_lt_of_le (Nat.lt_of_lt_of_le g2 hhi) hW.size, hb.only hW (fun e => (hb.ne HXr.out (by decide)) e), rest⟩
          have hz2 := HZ2.out
          have hzr := HB.out.size
          have hsb := HSB.out
          exact ⟨hne ((HMB.out.call HBB2.out).call HB.out) (Nat.le_refl _) (by omega), hne (HO12.out.call HB.out) (Nat.le_refl _) (by omega), hne (HO2.out.call HB.out) (Nat.le_refl _) (by omega), hne (Mk.owns HO.out rfl (Nat.le_refl _)) (by omega) (Nat.le_refl _)⟩
        have HOF : Hid (Only (fun b => ao = some ⟨b, 0, none⟩) w wr) := HOB.out.trans ((Only.below HBB2.out).trans (Only.below HB.out))
        go_wp2_with fail
        refine bodyPost_ret (v := .agg #[.slice ao n n, .slice (some ⟨wB.heap.size + 1, 0, none⟩) (n + 1) cap1, .slice (some ⟨w1.heap.size + 1, 0, none⟩) (n + 2) cap2, .slice a9 (n + 64) c9, .int .i64 mark]) (by simp [results, Tryz.results44, go_sem, hcr]) rfl ?_
        have hO := (((((Only.refl (fun b => b = w.heap.size) wr).setCell (p := ⟨w.heap.size, 0, none⟩) rfl (.slice ao n n)).setCell (p := ⟨w.heap.size, 1, none⟩) rfl (.slice (some ⟨wB.heap.size + 1, 0, none⟩) (n + 1) cap1)).setCell (p := ⟨w.heap.size, 2, none⟩) rfl (.slice (some ⟨w1.heap.size + 1, 0, none⟩) (n + 2) cap2)).setCell (p := ⟨w.heap.size, 3, none⟩) rfl (.slice a9 (n + 64) c9)).setCell (p := ⟨w.heap.size, 4, none⟩) rfl (.int .i64 mark)
        obtain ⟨m0, m1, m2, m3⟩ := HMM.out _ hO
        refine ⟨_, _, _, rfl, m0, m1, m2, m3, ⟨hO.os.trans HOF.out.os, hO.tape.trans HOF.out.tape, hO.output.trans HOF.out.output, Nat.le_trans HOF.out.size hO.size, fun b hb hn => ?_⟩⟩
        rw [hO.block b (Nat.lt_of_lt_of_le hb HOF.out.size) (by omega)]
        exact HOF.out.block b hb hn

end Go.Proofs.YtekkicgbloidkaaGreatDoor
