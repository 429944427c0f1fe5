/- A column's lists are written into the book. -/
import Derived.Test.YtekkicgbloidkaaGreatDoorBkP
import Derived.Test.YtekkicgbloidkaaGreatDoorSvF
import Derived.Test.YtekkicgbloidkaaGreatDoorSvA
import Derived.Test.YtekkicgbloidkaaGreatDoorTyE
import Derived.Deep.RegionHeld3
import Derived.Deep.DrawnRows
namespace Go.Proofs.YtekkicgbloidkaaGreatDoor
open Go Go.RowKit
attribute [local go_sem ↓] Go.wp_at_zero Go.wp_at_succ

theorem Mk.sets {T T' : TypeId} {sz : Nat} {w : World} {lo hi b : Nat} {cb : Array Value} {v : Value} {xs : List Value} (h : Mk T sz w lo hi v xs) (hb : Box w b cb T') (hne : T ≠ T') (x0 x1 x2 x3 x4 : Value) : Mk T sz (((((w.setCell ⟨b, 0, none⟩ x0).setCell ⟨b, 1, none⟩ x1).setCell ⟨b, 2, none⟩ x2).setCell ⟨b, 3, none⟩ x3).setCell ⟨b, 4, none⟩ x4) lo hi v xs :=
  h.other hb hne ((((((Only.refl (fun x => x = b) w).setCell (p := ⟨b, 0, none⟩) rfl x0).setCell (p := ⟨b, 1, none⟩) rfl x1).setCell (p := ⟨b, 2, none⟩) rfl x2).setCell (p := ⟨b, 3, none⟩) rfl x3).setCell (p := ⟨b, 4, none⟩) rfl x4)

set_option maxRecDepth 20000 in
set_option maxHeartbeats 16000000 in
theorem bookColumn_any {av : Nat → Prop} {B : Nat} {w : World} {bk : Nat} {vN vW vC vP vF : Value} {nN nW nC nP : Nat} {fl : List Nat} (h : Book av B w bk vN vW vC vP vF nN nW nC nP fl) (hB : B ≤ w.heap.size) (hT : TabB B w) (hnN : nN ≤ 1000000000) (hnW : nW ≤ 1000000000) (hnF : fl.length ≤ 1000000000) (kk ss : Int) :
    Calls Tryz.prog 43 #[.pointer (some ⟨bk, 0, none⟩), .agg #[.int .i64 kk, .int .i64 ss, .slice none 0 0, .slice none 0 0, .slice none 0 0]] w fun e w' => e = .returned (.tuple #[]) ∧ (∃ vN' vW' vF' m, Book av B w' bk vN' vW' vC vP vF' (nN + 1) (nW + 1) nC nP (fl ++ [m])) ∧ Below B w w' ∧ (∀ g cs, Box w g cs 67 → Box w' g cs 67) := by
  obtain ⟨aN, cN, hvN⟩ := h.nums.shape
  obtain ⟨aW, cW, hvW⟩ := h.words.shape
  obtain ⟨aF, cF, hvF⟩ := h.flags.shape
  rw [List.length_range] at hvN hvW
  subst hvN hvW hvF
  have hb0 : Below w.heap.size w (w.alloc (.cells #[.int .i64 kk, .int .i64 ss, .slice none 0 0, .slice none 0 0, .slice none 0 0] 67)) := (Below.refl _ _).alloc (Nat.le_refl _) _
  have HKN : Hid (Book av B (w.alloc (.cells #[.int .i64 kk, .int .i64 ss, .slice none 0 0, .slice none 0 0, .slice none 0 0] 67)) bk (.slice aN nN cN) (.slice aW nW cW) vC vP (.slice aF fl.length cF) nN nW nC nP fl) := h.call hb0
  have HCB : Hid (Box (w.alloc (.cells #[.int .i64 kk, .int .i64 ss, .slice none 0 0, .slice none 0 0, .slice none 0 0] 67)) w.heap.size #[.int .i64 kk, .int .i64 ss, .slice none 0 0, .slice none 0 0, .slice none 0 0] 67) := Box.new _ _ _
  have HBW : Hid (Below B w (w.alloc (.cells #[.int .i64 kk, .int .i64 ss, .slice none 0 0, .slice none 0 0, .slice none 0 0] 67))) := hb0.mono hB
  have HBZ : Hid (B ≤ (w.alloc (.cells #[.int .i64 kk, .int .i64 ss, .slice none 0 0, .slice none 0 0, .slice none 0 0] 67)).heap.size) := Nat.le_trans hB hb0.size
  have HSF : Hid (∀ g cs, Box w g cs 67 → Box (w.alloc (.cells #[.int .i64 kk, .int .i64 ss, .slice none 0 0, .slice none 0 0, .slice none 0 0] 67)) g cs 67) := fun g cs h => h.call hb0
  have HT : Hid (TabB B w) := hT
  have HCX : Hid (w.heap.size ≠ bk) := by have := h.box.lt; unfold Hid; omega
  clear h hb0 hT
  go_enter Tryz.func43, Tryz.ntmps43
  go_upto_region 1 with fail
  generalize w.alloc (.cells #[.int .i64 kk, .int .i64 ss, .slice none 0 0, .slice none 0 0, .slice none 0 0] 67) = wN at *
  have HKb : Hid (Box wN bk _ 33) := HKN.out.box
  have bX : Box (wN.alloc (.cells #[.slice none 0 0, .slice none 0 0, .slice none 0 0, .slice none 0 0, .int .i64 0] 74)).drew wN.heap.size #[.slice none 0 0, .slice none 0 0, .slice none 0 0, .slice none 0 0, .int .i64 0] 74 := (Box.new wN _ _).drew
  have nB : bk ≠ wN.heap.size := by have := HKb.out.lt; omega
  have nC2 : w.heap.size ≠ wN.heap.size := by have := HCB.out.lt; omega
  obtain ⟨x1, x2, x3⟩ := HKb.out.all
  obtain ⟨y1, y2, y3⟩ := HCB.out.all
  have hcb : wN.cell? ⟨bk, 0, none⟩ = some (.slice aN nN cN) := x1 0
  have hcc : wN.cell? ⟨w.heap.size, 2, none⟩ = some (.slice none 0 0) := y1 2
  have K1 : Hid (Keeps wN wN.drew) := (Keeps.refl _).drew
  have K2 : Hid (Keeps wN (wN.alloc (.cells #[.slice none 0 0, .slice none 0 0, .slice none 0 0, .slice none 0 0, .int .i64 0] 74)).drew) := ((Keeps.refl _).alloc _).drew
  go_cut [4] (fun q W => ∃ Bx a1 n1 c1 a2 n2 c2 a3 n3 c3 hi, q = .pointer (some ⟨Bx, 0, none⟩) ∧ Box W Bx #[.slice none 0 0, .slice a1 n1 c1, .slice a2 n2 c2, .slice a3 n3 c3, .int .i64 nN] 74 ∧ Mk 2 1 W wN.heap.size hi (.slice a1 n1 c1) (XNum nN) ∧ Mk 2 1 W wN.heap.size hi (.slice a2 n2 c2) (XNum nN) ∧ Mk 2 1 W wN.heap.size hi (.slice a3 n3 c3) (XNum nN) ∧ hi ≤ W.heap.size ∧ Below wN.heap.size wN W)
  case first =>
    go_region_held3 (fun W => W.cell? ⟨bk, 0, none⟩ = some (.slice aN nN cN) ∧ W.cell? ⟨w.heap.size, 2, none⟩ = some (.slice none 0 0))
      (first | (go_keep; done) | exact ⟨cell_set_ne (cell_set_ne (cell_set_ne (cell_set_ne (cell_set_ne q1 nB) nB) nB) nB) nB, cell_set_ne (cell_set_ne (cell_set_ne (cell_set_ne (cell_set_ne q2 nC2) nC2) nC2) nC2) nC2⟩)
      (first | (go_at_call 59; refine (ownNums_nil nN (by omega) wN.drew).mono ?_; rintro e w1 ⟨v1, v2, v3, rfl, m1, m2, m3, hb1⟩; obtain ⟨a1, n1, c1, rfl⟩ := m1.shape; obtain ⟨a2, n2, c2, rfl⟩ := m2.shape; obtain ⟨a3, n3, c3, rfl⟩ := m3.shape; have q1 := (K1.out.trans (Keeps.of_below hb1)) _ _ _ hcb; have q2 := (K1.out.trans (Keeps.of_below hb1)) _ _ _ hcc; have l1 := cell_lt q1; have l2 := cell_lt q2) | (go_at_call 59; refine (ownNums_nil nN (by omega) (wN.alloc (.cells #[.slice none 0 0, .slice none 0 0, .slice none 0 0, .slice none 0 0, .int .i64 0] 74)).drew).mono ?_; rintro e w1 ⟨v1, v2, v3, rfl, m1, m2, m3, hb1⟩; obtain ⟨a1, n1, c1, rfl⟩ := m1.shape; obtain ⟨a2, n2, c2, rfl⟩ := m2.shape; obtain ⟨a3, n3, c3, rfl⟩ := m3.shape; have q1 := (K2.out.trans (Keeps.of_below hb1)) _ _ _ hcb; have q2 := (K2.out.trans (Keeps.of_below hb1)) _ _ _ hcc; have l1 := cell_lt q1; have l2 := cell_lt q2; have bX2 := bX.call hb1; obtain ⟨hcX, hfX, hlX⟩ := bX2.all))
    · have HM1 : Hid (Mk _ _ _ _ _ _ _) := m1
      have HM2 : Hid (Mk _ _ _ _ _ _ _) := m2
      have HM3 : Hid (Mk _ _ _ _ _ _ _) := m3
      have HBx : Hid (Below wN.heap.size wN w1) := Below.step hb1 (Below.refl _ _).drew (by simp)
      clear m1 m2 m3
      go_wp2_with fail
      go_meet
      case rel =>
        have hal : Below w1.heap.size w1 (w1.alloc (.cells #[.slice none 0 0, .slice a1 n1 c1, .slice a2 n2 c2, .slice a3 n3 c3, .int .i64 nN] 74)) := (Below.refl _ _).alloc (Nat.le_refl _) _
        exact ⟨_, a1, n1, c1, a2, n2, c2, a3, n3, c3, w1.heap.size, rfl, Box.new _ _ _, Mk.call HM1.out hal, Mk.call HM2.out hal, Mk.call HM3.out hal, hal.size, Below.step hal HBx.out HBx.out.size⟩
    · have HM1 : Hid (Mk _ _ _ _ _ _ _) := m1
      have HM2 : Hid (Mk _ _ _ _ _ _ _) := m2
      have HM3 : Hid (Mk _ _ _ _ _ _ _) := m3
      have HBx : Hid (Below wN.heap.size wN w1) := Below.step hb1 ((Below.refl _ _).alloc (Nat.le_refl _) _).drew (by simp)
      have HX2 : Hid (Box w1 wN.heap.size #[.slice none 0 0, .slice none 0 0, .slice none 0 0, .slice none 0 0, .int .i64 0] 74) := bX2
      clear m1 m2 m3
      go_wp2_with fail
      go_meet
      case rel =>
        refine ⟨_, a1, n1, c1, a2, n2, c2, a3, n3, c3, w1.heap.size, rfl, ((((HX2.out.set 0 _).set 1 _).set 2 _).set 3 _).set 4 _, (Mk.sets HM1.out HX2.out (by decide) _ _ _ _ _).wide (by simp) (Nat.le_refl _), (Mk.sets HM2.out HX2.out (by decide) _ _ _ _ _).wide (by simp) (Nat.le_refl _), (Mk.sets HM3.out HX2.out (by decide) _ _ _ _ _).wide (by simp) (Nat.le_refl _), by simp [World.setCell], ((((HBx.out.setCell (by simp) _).setCell (by simp) _).setCell (by simp) _).setCell (by simp) _).setCell (by simp) _⟩
  case rest =>
    obtain ⟨Bx, a1, n1, c1, a2, n2, c2, a3, n3, c3, hi, rfl, hBx, m1, m2, m3, hhi, hbm⟩ := hcut
    obtain ⟨wN2, rfl⟩ : ∃ x : World, x = wc := ⟨wc, rfl⟩
    have HBx : Hid (Box wN2 Bx #[.slice none 0 0, .slice a1 n1 c1, .slice a2 n2 c2, .slice a3 n3 c3, .int .i64 nN] 74) := hBx
    have HBM : Hid (Below wN.heap.size wN wN2) := hbm
    have HCM : Hid (Box wN2 w.heap.size _ 67) := HCB.out.call hbm
    have HKM : Hid (Book av B wN2 bk (.slice aN nN cN) (.slice aW nW cW) vC vP (.slice aF fl.length cF) nN nW nC nP fl) := HKN.out.call hbm
    obtain ⟨xs, ivs, hx, -⟩ := HKM.out.nums
    rw [List.length_range] at hx
    have hbD : Below wN2.heap.size wN2 (wN2.alloc (.cells #[.slice none 0 0, .slice a1 n1 c1, .slice a2 n2 c2, .slice a3 n3 c3, .int .i64 nN] 74)).drew := ((Below.refl _ _).alloc (Nat.le_refl _) _).drew
    have HOG : Hid ((wN2.alloc (.cells #[.slice none 0 0, .slice a1 n1 c1, .slice a2 n2 c2, .slice a3 n3 c3, .int .i64 nN] 74)).drew.ownsRow B 74 5 (.slice aN nN cN) nN xs) := owns_call hx hbD
    have HNW : Hid (∀ j u, ([.slice none 0 0, .slice a1 n1 c1, .slice a2 n2 c2, .slice a3 n3 c3, .int .i64 nN] : List Value)[j]? = some u → (wN2.alloc (.cells #[.slice none 0 0, .slice a1 n1 c1, .slice a2 n2 c2, .slice a3 n3 c3, .int .i64 nN] 74)).drew.cell? ⟨wN2.heap.size, j, none⟩ = some u) := fun j u hu => by
      rw [(Box.new wN2 #[.slice none 0 0, .slice a1 n1 c1, .slice a2 n2 c2, .slice a3 n3 c3, .int .i64 nN] 74).drew.rules.1 j, ← Array.getElem?_toList]; exact hu
    have HS0 : Hid ((wN2.alloc (.cells #[.slice none 0 0, .slice a1 n1 c1, .slice a2 n2 c2, .slice a3 n3 c3, .int .i64 nN] 74)).drew.heap.size = wN2.heap.size + 1) := by unfold Hid; simp
    have HBF : Hid (Below wN.heap.size wN (wN2.alloc (.cells #[.slice none 0 0, .slice a1 n1 c1, .slice a2 n2 c2, .slice a3 n3 c3, .int .i64 nN] 74)).drew) := Below.step hbD hbm hbm.size
    have HS1 : Hid (B ≤ (wN2.alloc (.cells #[.slice none 0 0, .slice a1 n1 c1, .slice a2 n2 c2, .slice a3 n3 c3, .int .i64 nN] 74)).drew.heap.size) := Nat.le_trans HBZ.out HBF.out.size
    have HON : Hid (∀ u ∈ ([.slice none 0 0, .slice a1 n1 c1, .slice a2 n2 c2, .slice a3 n3 c3, .int .i64 nN] : List Value), u.oneCell' = true) := by intro u hu; simp at hu; rcases hu with rfl | rfl | rfl | rfl | rfl <;> rfl
    have HO1 : Hid (Mk _ _ _ _ _ _ _) := Mk.call m1 hbD
    have HO2 : Hid (Mk _ _ _ _ _ _ _) := Mk.call m2 hbD
    have HO3 : Hid (Mk _ _ _ _ _ _ _) := Mk.call m3 hbD
    have HZD : Hid (hi ≤ (wN2.alloc (.cells #[.slice none 0 0, .slice a1 n1 c1, .slice a2 n2 c2, .slice a3 n3 c3, .int .i64 nN] 74)).drew.heap.size) := Nat.le_trans hhi hbD.size
    have HKD : Hid (Book av B (wN2.alloc (.cells #[.slice none 0 0, .slice a1 n1 c1, .slice a2 n2 c2, .slice a3 n3 c3, .int .i64 nN] 74)).drew bk (.slice aN nN cN) (.slice aW nW cW) vC vP (.slice aF fl.length cF) nN nW nC nP fl) := HKM.out.call hbD
    have HCD : Hid (Box (wN2.alloc (.cells #[.slice none 0 0, .slice a1 n1 c1, .slice a2 n2 c2, .slice a3 n3 c3, .int .i64 nN] 74)).drew w.heap.size _ 67) := HCM.out.call hbD
    clear hBx hbm m1 m2 m3 hhi hx hbD bX nB nC2 x1 x2 x3 y1 y2 y3 hcb hcc K1 K2
    obtain ⟨x1, x2, x3⟩ := HKM.out.box.all
    obtain ⟨y1, y2, y3⟩ := HBx.out.all
    go_upto_region 2 with fail
    go_cut [] (fun W => ∃ a' c', Book av B W bk (.slice a' (nN + 1) c') (.slice aW nW cW) vC vP (.slice aF fl.length cF) (nN + 1) nW nC nP fl ∧ Below B wN W ∧ Box W w.heap.size #[.int .i64 kk, .int .i64 ss, .slice none 0 0, .slice none 0 0, .slice none 0 0] 67 ∧ (∀ g cs, Box wN g cs 67 → Box W g cs 67))
    case first =>
      go_region_law (refine step_app elem_nums _ (by rfl) _ _ (by rfl) B _ _ _ (by rfl) HOG.out wN2.heap.size 1 1 _ (by rfl) rfl HNW.out HON.out (by omega) (by omega) (by omega) HS1.out (wN2.heap.size + 1) HS0.out ?_; intro g3 cap3 w3 hown3 hg3 hat3 hlt3; obtain ⟨z1, z2, z3⟩ := (HKD.out.push_box HOG.out hg3).all)
      all_goals
        have HF : Hid (Book _ _ _ _ _ _ _ _ _ _ _ _ _ _) := HKN.out.pushN HBZ.out HBF.out (.inl rfl) HO1.out HO2.out HO3.out HZD.out HOG.out hown3 hg3
        have HBE : Hid (Below B wN (w3.setCell ⟨bk, 0, none⟩ (.slice (some ⟨g3, 0, none⟩) (nN + 1) cap3))) := ((HBF.out.mono HBZ.out).grown hg3 HS1.out (fun g hg => (HOG.out.lt g hg).1)).setCell HKD.out.bkge _
        have HSE : Hid (∀ g cs, Box wN g cs 67 → Box (w3.setCell ⟨bk, 0, none⟩ (.slice (some ⟨g3, 0, none⟩) (nN + 1) cap3)) g cs 67) := fun g' cs' h => by
          have h1 := h.call HBF.out
          exact (h1.grown hg3 (fun g hg => by obtain ⟨cur, hcur⟩ := owns_own HOG.out hg; exact h1.ne hcur (by decide))).set_ne (h1.ne HKD.out.box (by decide)) _
        have HCE : Hid (Box (w3.setCell ⟨bk, 0, none⟩ (.slice (some ⟨g3, 0, none⟩) (nN + 1) cap3)) w.heap.size _ 67) := (HCD.out.grown hg3 (fun g hg => by obtain ⟨cur, hcur⟩ := owns_own HOG.out hg; exact HCD.out.ne hcur (by decide))).set_ne HCX.out _
        clear hown3 hg3 hat3 hlt3 z1 z2 z3
        go_wp2_with fail
        go_meet
        case rel => exact ⟨_, _, HF.out, HBE.out, HCE.out, HSE.out⟩
    case rest =>
      obtain ⟨aN', cN', hkn, hbn, hcn, hsn⟩ := hcut
      obtain ⟨wW, rfl⟩ : ∃ x : World, x = wc := ⟨wc, rfl⟩
      have HKW : Hid (Book av B wW bk (.slice aN' (nN + 1) cN') (.slice aW nW cW) vC vP (.slice aF fl.length cF) (nN + 1) nW nC nP fl) := hkn
      have HBW2 : Hid (Below B w wW) := HBW.out.trans hbn
      have HBZ2 : Hid (B ≤ wW.heap.size) := Nat.le_trans HBZ.out hbn.size
      have HCB2 : Hid (Box wW w.heap.size #[.int .i64 kk, .int .i64 ss, .slice none 0 0, .slice none 0 0, .slice none 0 0] 67) := hcn
      have HSF2 : Hid (∀ g cs, Box w g cs 67 → Box wW g cs 67) := fun g cs h => hsn g cs (HSF.out g cs h)
      clear hsn HSF
      have HSF := HSF2
      clear HSF2
      clear hkn hbn hcn HBW HBZ HCB x1 x2 x3 y1 y2 y3 HKb
      have HBW := HBW2
      have HBZ := HBZ2
      have HCB := HCB2
      clear HBW2 HBZ2 HCB2 HBx HBM HCM HKM HOG HNW HS0 HBF HS1 HON HO1 HO2 HO3 HZD HKD HCD
      go_upto_region 3 with fail
      have HKb : Hid (Box wW bk _ 33) := HKW.out.box
      have bX : Box (wW.alloc (.cells #[.slice none 0 0, .slice none 0 0, .slice none 0 0, .slice none 0 0, .int .i64 0] 76)).drew wW.heap.size #[.slice none 0 0, .slice none 0 0, .slice none 0 0, .slice none 0 0, .int .i64 0] 76 := (Box.new wW _ _).drew
      have nB : bk ≠ wW.heap.size := by have := HKb.out.lt; omega
      have nC2 : w.heap.size ≠ wW.heap.size := by have := HCB.out.lt; omega
      obtain ⟨x1, x2, x3⟩ := HKb.out.all
      obtain ⟨y1, y2, y3⟩ := HCB.out.all
      have hcb : wW.cell? ⟨bk, 1, none⟩ = some (.slice aW nW cW) := x1 1
      have hcc : wW.cell? ⟨w.heap.size, 3, none⟩ = some (.slice none 0 0) := y1 3
      have K1 : Hid (Keeps wW wW.drew) := (Keeps.refl _).drew
      have K2 : Hid (Keeps wW (wW.alloc (.cells #[.slice none 0 0, .slice none 0 0, .slice none 0 0, .slice none 0 0, .int .i64 0] 76)).drew) := ((Keeps.refl _).alloc _).drew
      go_cut [5] (fun q W => ∃ Bx a1 n1 c1 a2 n2 c2 a3 n3 c3 hi, q = .pointer (some ⟨Bx, 0, none⟩) ∧ Box W Bx #[.slice none 0 0, .slice a1 n1 c1, .slice a2 n2 c2, .slice a3 n3 c3, .int .i64 nW] 76 ∧ Mk 9 1 W wW.heap.size hi (.slice a1 n1 c1) (XWord nW) ∧ Mk 9 1 W wW.heap.size hi (.slice a2 n2 c2) (XWord nW) ∧ Mk 9 1 W wW.heap.size hi (.slice a3 n3 c3) (XWord nW) ∧ hi ≤ W.heap.size ∧ Below wW.heap.size wW W)
      case first =>
        go_region_held3 (fun W => W.cell? ⟨bk, 1, none⟩ = some (.slice aW nW cW) ∧ W.cell? ⟨w.heap.size, 3, none⟩ = some (.slice none 0 0))
          (first | (go_keep; done) | exact ⟨cell_set_ne (cell_set_ne (cell_set_ne (cell_set_ne (cell_set_ne q1 nB) nB) nB) nB) nB, cell_set_ne (cell_set_ne (cell_set_ne (cell_set_ne (cell_set_ne q2 nC2) nC2) nC2) nC2) nC2⟩)
          (first | (go_at_call 60; refine (ownWords_nil nW (by omega) wW.drew B (by have := HBZ.out; simp; omega) ((HT.out.on HBW.out).on ((Below.refl _ _).drew))).mono ?_; rintro e w1 ⟨v1, v2, v3, rfl, m1, m2, m3, hb1⟩; obtain ⟨a1, n1, c1, rfl⟩ := m1.shape; obtain ⟨a2, n2, c2, rfl⟩ := m2.shape; obtain ⟨a3, n3, c3, rfl⟩ := m3.shape; have q1 := (K1.out.trans (Keeps.of_below hb1)) _ _ _ hcb; have q2 := (K1.out.trans (Keeps.of_below hb1)) _ _ _ hcc; have l1 := cell_lt q1; have l2 := cell_lt q2) | (go_at_call 60; refine (ownWords_nil nW (by omega) (wW.alloc (.cells #[.slice none 0 0, .slice none 0 0, .slice none 0 0, .slice none 0 0, .int .i64 0] 76)).drew B (by have := HBZ.out; simp; omega) ((HT.out.on HBW.out).on (((Below.refl _ _).alloc HBZ.out _).drew))).mono ?_; rintro e w1 ⟨v1, v2, v3, rfl, m1, m2, m3, hb1⟩; obtain ⟨a1, n1, c1, rfl⟩ := m1.shape; obtain ⟨a2, n2, c2, rfl⟩ := m2.shape; obtain ⟨a3, n3, c3, rfl⟩ := m3.shape; have q1 := (K2.out.trans (Keeps.of_below hb1)) _ _ _ hcb; have q2 := (K2.out.trans (Keeps.of_below hb1)) _ _ _ hcc; have l1 := cell_lt q1; have l2 := cell_lt q2; have bX2 := bX.call hb1; obtain ⟨hcX, hfX, hlX⟩ := bX2.all))
        · have HM1 : Hid (Mk _ _ _ _ _ _ _) := m1
          have HM2 : Hid (Mk _ _ _ _ _ _ _) := m2
          have HM3 : Hid (Mk _ _ _ _ _ _ _) := m3
          have HBx : Hid (Below wW.heap.size wW w1) := Below.step hb1 (Below.refl _ _).drew (by simp)
          clear m1 m2 m3
          go_wp2_with fail
          go_meet
          case rel =>
            have hal : Below w1.heap.size w1 (w1.alloc (.cells #[.slice none 0 0, .slice a1 n1 c1, .slice a2 n2 c2, .slice a3 n3 c3, .int .i64 nW] 76)) := (Below.refl _ _).alloc (Nat.le_refl _) _
            exact ⟨_, a1, n1, c1, a2, n2, c2, a3, n3, c3, w1.heap.size, rfl, Box.new _ _ _, Mk.call HM1.out hal, Mk.call HM2.out hal, Mk.call HM3.out hal, hal.size, Below.step hal HBx.out HBx.out.size⟩
        · have HM1 : Hid (Mk _ _ _ _ _ _ _) := m1
          have HM2 : Hid (Mk _ _ _ _ _ _ _) := m2
          have HM3 : Hid (Mk _ _ _ _ _ _ _) := m3
          have HBx : Hid (Below wW.heap.size wW w1) := Below.step hb1 ((Below.refl _ _).alloc (Nat.le_refl _) _).drew (by simp)
          have HX2 : Hid (Box w1 wW.heap.size #[.slice none 0 0, .slice none 0 0, .slice none 0 0, .slice none 0 0, .int .i64 0] 76) := bX2
          clear m1 m2 m3
          go_wp2_with fail
          go_meet
          case rel =>
            refine ⟨_, a1, n1, c1, a2, n2, c2, a3, n3, c3, w1.heap.size, rfl, ((((HX2.out.set 0 _).set 1 _).set 2 _).set 3 _).set 4 _, (Mk.sets HM1.out HX2.out (by decide) _ _ _ _ _).wide (by simp) (Nat.le_refl _), (Mk.sets HM2.out HX2.out (by decide) _ _ _ _ _).wide (by simp) (Nat.le_refl _), (Mk.sets HM3.out HX2.out (by decide) _ _ _ _ _).wide (by simp) (Nat.le_refl _), by simp [World.setCell], ((((HBx.out.setCell (by simp) _).setCell (by simp) _).setCell (by simp) _).setCell (by simp) _).setCell (by simp) _⟩
      case rest =>
        obtain ⟨Bx, a1, n1, c1, a2, n2, c2, a3, n3, c3, hi, rfl, hBx, m1, m2, m3, hhi, hbm⟩ := hcut
        obtain ⟨wW2, rfl⟩ : ∃ x : World, x = wc := ⟨wc, rfl⟩
        have HBx : Hid (Box wW2 Bx #[.slice none 0 0, .slice a1 n1 c1, .slice a2 n2 c2, .slice a3 n3 c3, .int .i64 nW] 76) := hBx
        have HBM : Hid (Below wW.heap.size wW wW2) := hbm
        have HCM : Hid (Box wW2 w.heap.size _ 67) := HCB.out.call hbm
        have HKM : Hid (Book av B wW2 bk (.slice aN' (nN + 1) cN') (.slice aW nW cW) vC vP (.slice aF fl.length cF) (nN + 1) nW nC nP fl) := HKW.out.call hbm
        obtain ⟨xs, ivs, hx, -⟩ := HKM.out.words
        rw [List.length_range] at hx
        have hbD : Below wW2.heap.size wW2 (wW2.alloc (.cells #[.slice none 0 0, .slice a1 n1 c1, .slice a2 n2 c2, .slice a3 n3 c3, .int .i64 nW] 76)).drew := ((Below.refl _ _).alloc (Nat.le_refl _) _).drew
        have HOG : Hid ((wW2.alloc (.cells #[.slice none 0 0, .slice a1 n1 c1, .slice a2 n2 c2, .slice a3 n3 c3, .int .i64 nW] 76)).drew.ownsRow B 76 5 (.slice aW nW cW) nW xs) := owns_call hx hbD
        have HNW : Hid (∀ j u, ([.slice none 0 0, .slice a1 n1 c1, .slice a2 n2 c2, .slice a3 n3 c3, .int .i64 nW] : List Value)[j]? = some u → (wW2.alloc (.cells #[.slice none 0 0, .slice a1 n1 c1, .slice a2 n2 c2, .slice a3 n3 c3, .int .i64 nW] 76)).drew.cell? ⟨wW2.heap.size, j, none⟩ = some u) := fun j u hu => by
          rw [(Box.new wW2 #[.slice none 0 0, .slice a1 n1 c1, .slice a2 n2 c2, .slice a3 n3 c3, .int .i64 nW] 76).drew.rules.1 j, ← Array.getElem?_toList]; exact hu
        have HS0 : Hid ((wW2.alloc (.cells #[.slice none 0 0, .slice a1 n1 c1, .slice a2 n2 c2, .slice a3 n3 c3, .int .i64 nW] 76)).drew.heap.size = wW2.heap.size + 1) := by unfold Hid; simp
        have HBF : Hid (Below wW.heap.size wW (wW2.alloc (.cells #[.slice none 0 0, .slice a1 n1 c1, .slice a2 n2 c2, .slice a3 n3 c3, .int .i64 nW] 76)).drew) := Below.step hbD hbm hbm.size
        have HS1 : Hid (B ≤ (wW2.alloc (.cells #[.slice none 0 0, .slice a1 n1 c1, .slice a2 n2 c2, .slice a3 n3 c3, .int .i64 nW] 76)).drew.heap.size) := Nat.le_trans HBZ.out HBF.out.size
        have HON : Hid (∀ u ∈ ([.slice none 0 0, .slice a1 n1 c1, .slice a2 n2 c2, .slice a3 n3 c3, .int .i64 nW] : List Value), u.oneCell' = true) := by intro u hu; simp at hu; rcases hu with rfl | rfl | rfl | rfl | rfl <;> rfl
        have HO1 : Hid (Mk _ _ _ _ _ _ _) := Mk.call m1 hbD
        have HO2 : Hid (Mk _ _ _ _ _ _ _) := Mk.call m2 hbD
        have HO3 : Hid (Mk _ _ _ _ _ _ _) := Mk.call m3 hbD
        have HZD : Hid (hi ≤ (wW2.alloc (.cells #[.slice none 0 0, .slice a1 n1 c1, .slice a2 n2 c2, .slice a3 n3 c3, .int .i64 nW] 76)).drew.heap.size) := Nat.le_trans hhi hbD.size
        have HKD : Hid (Book av B (wW2.alloc (.cells #[.slice none 0 0, .slice a1 n1 c1, .slice a2 n2 c2, .slice a3 n3 c3, .int .i64 nW] 76)).drew bk (.slice aN' (nN + 1) cN') (.slice aW nW cW) vC vP (.slice aF fl.length cF) (nN + 1) nW nC nP fl) := HKM.out.call hbD
        have HCD : Hid (Box (wW2.alloc (.cells #[.slice none 0 0, .slice a1 n1 c1, .slice a2 n2 c2, .slice a3 n3 c3, .int .i64 nW] 76)).drew w.heap.size _ 67) := HCM.out.call hbD
        clear hBx hbm m1 m2 m3 hhi hx hbD bX nB nC2 x1 x2 x3 y1 y2 y3 hcb hcc K1 K2
        obtain ⟨x1, x2, x3⟩ := HKM.out.box.all
        obtain ⟨y1, y2, y3⟩ := HBx.out.all
        go_upto_region 4 with fail
        go_cut [] (fun W => ∃ a' c', Book av B W bk (.slice aN' (nN + 1) cN') (.slice a' (nW + 1) c') vC vP (.slice aF fl.length cF) (nN + 1) (nW + 1) nC nP fl ∧ Below B wW W ∧ Box W w.heap.size #[.int .i64 kk, .int .i64 ss, .slice none 0 0, .slice none 0 0, .slice none 0 0] 67 ∧ (∀ g cs, Box wW g cs 67 → Box W g cs 67))
        case first =>
          go_region_law (refine step_app elem_words _ (by rfl) _ _ (by rfl) B _ _ _ (by rfl) HOG.out wW2.heap.size 1 1 _ (by rfl) rfl HNW.out HON.out (by omega) (by omega) (by omega) HS1.out (wW2.heap.size + 1) HS0.out ?_; intro g3 cap3 w3 hown3 hg3 hat3 hlt3; obtain ⟨z1, z2, z3⟩ := (HKD.out.push_box HOG.out hg3).all)
          all_goals
            have HF : Hid (Book _ _ _ _ _ _ _ _ _ _ _ _ _ _) := HKW.out.pushW HBZ.out HBF.out (.inl rfl) HO1.out HO2.out HO3.out HZD.out HOG.out hown3 hg3
            have HBE : Hid (Below B wW (w3.setCell ⟨bk, 1, none⟩ (.slice (some ⟨g3, 0, none⟩) (nW + 1) cap3))) := ((HBF.out.mono HBZ.out).grown hg3 HS1.out (fun g hg => (HOG.out.lt g hg).1)).setCell HKD.out.bkge _
            have HSE : Hid (∀ g cs, Box wW g cs 67 → Box (w3.setCell ⟨bk, 1, none⟩ (.slice (some ⟨g3, 0, none⟩) (nW + 1) cap3)) g cs 67) := fun g' cs' h => by
              have h1 := h.call HBF.out
              exact (h1.grown hg3 (fun g hg => by obtain ⟨cur, hcur⟩ := owns_own HOG.out hg; exact h1.ne hcur (by decide))).set_ne (h1.ne HKD.out.box (by decide)) _
            have HCE : Hid (Box (w3.setCell ⟨bk, 1, none⟩ (.slice (some ⟨g3, 0, none⟩) (nW + 1) cap3)) w.heap.size _ 67) := (HCD.out.grown hg3 (fun g hg => by obtain ⟨cur, hcur⟩ := owns_own HOG.out hg; exact HCD.out.ne hcur (by decide))).set_ne HCX.out _
            clear hown3 hg3 hat3 hlt3 z1 z2 z3
            go_wp2_with fail
            go_meet
            case rel => exact ⟨_, _, HF.out, HBE.out, HCE.out, HSE.out⟩
        case rest =>
          obtain ⟨aW', cW', hkn, hbn, hcn, hsn⟩ := hcut
          obtain ⟨wF, rfl⟩ : ∃ x : World, x = wc := ⟨wc, rfl⟩
          have HKF : Hid (Book av B wF bk (.slice aN' (nN + 1) cN') (.slice aW' (nW + 1) cW') vC vP (.slice aF fl.length cF) (nN + 1) (nW + 1) nC nP fl) := hkn
          have HBW2 : Hid (Below B w wF) := HBW.out.trans hbn
          have HBZ2 : Hid (B ≤ wF.heap.size) := Nat.le_trans HBZ.out hbn.size
          have HCB2 : Hid (Box wF w.heap.size #[.int .i64 kk, .int .i64 ss, .slice none 0 0, .slice none 0 0, .slice none 0 0] 67) := hcn
          have HSF2 : Hid (∀ g cs, Box w g cs 67 → Box wF g cs 67) := fun g cs h => hsn g cs (HSF.out g cs h)
          clear hsn HSF
          have HSF := HSF2
          clear HSF2
          clear hkn hbn hcn HBW HBZ HCB x1 x2 x3 y1 y2 y3 HKb
          have HBW := HBW2
          have HBZ := HBZ2
          have HCB := HCB2
          clear HBW2 HBZ2 HCB2 HBx HBM HCM HKM HOG HNW HS0 HBF HS1 HON HO1 HO2 HO3 HZD HKD HCD
          go_upto_region 5 with fail
          have hmm : ((fl.length : Int) % 2) = ((fl.length % 2 : Nat) : Int) := by omega
          have hmt : Int.tmod (fl.length : Int) 2 = ((fl.length % 2 : Nat) : Int) := by rw [Int.tmod_eq_emod_of_nonneg (by omega)]; omega
          generalize hMM : fl.length % 2 = MM at *
          have hMM1 : MM ≤ 1 := by omega
          clear hMM
          have HKb : Hid (Box wF bk _ 33) := HKF.out.box
          have bX : Box (wF.alloc (.cells #[.slice none 0 0, .slice none 0 0, .slice none 0 0, .slice none 0 0, .int .i64 0] 120)).drew wF.heap.size #[.slice none 0 0, .slice none 0 0, .slice none 0 0, .slice none 0 0, .int .i64 0] 120 := (Box.new wF _ _).drew
          have nB : bk ≠ wF.heap.size := by have := HKb.out.lt; omega
          have nC2 : w.heap.size ≠ wF.heap.size := by have := HCB.out.lt; omega
          obtain ⟨x1, x2, x3⟩ := HKb.out.all
          obtain ⟨y1, y2, y3⟩ := HCB.out.all
          have hcb : wF.cell? ⟨bk, 4, none⟩ = some (.slice aF fl.length cF) := x1 4
          have hcc : wF.cell? ⟨w.heap.size, 4, none⟩ = some (.slice none 0 0) := y1 4
          have K1 : Hid (Keeps wF wF.drew) := (Keeps.refl _).drew
          have K2 : Hid (Keeps wF (wF.alloc (.cells #[.slice none 0 0, .slice none 0 0, .slice none 0 0, .slice none 0 0, .int .i64 0] 120)).drew) := ((Keeps.refl _).alloc _).drew
          go_cut [6] (fun q W => ∃ Bx a1 n1 c1 a2 n2 c2 a3 n3 c3 hi, q = .pointer (some ⟨Bx, 0, none⟩) ∧ Box W Bx #[.slice none 0 0, .slice a1 n1 c1, .slice a2 n2 c2, .slice a3 n3 c3, .int .i64 MM] 120 ∧ Mk 4 1 W wF.heap.size hi (.slice a1 n1 c1) (XFlag MM) ∧ Mk 4 1 W wF.heap.size hi (.slice a2 n2 c2) (XFlag MM) ∧ Mk 4 1 W wF.heap.size hi (.slice a3 n3 c3) (XFlag MM) ∧ hi ≤ W.heap.size ∧ Below wF.heap.size wF W)
          case first =>
            go_region_held3 (fun W => W.cell? ⟨bk, 4, none⟩ = some (.slice aF fl.length cF) ∧ W.cell? ⟨w.heap.size, 4, none⟩ = some (.slice none 0 0))
              (first | (go_keep; done) | exact ⟨cell_set_ne (cell_set_ne (cell_set_ne (cell_set_ne (cell_set_ne q1 nB) nB) nB) nB) nB, cell_set_ne (cell_set_ne (cell_set_ne (cell_set_ne (cell_set_ne q2 nC2) nC2) nC2) nC2) nC2⟩)
              (first | (go_at_call 61; refine (ownFlags_nil MM hMM1 wF.drew).mono ?_; rintro e w1 ⟨v1, v2, v3, rfl, m1, m2, m3, hb1⟩; obtain ⟨a1, n1, c1, rfl⟩ := m1.shape; obtain ⟨a2, n2, c2, rfl⟩ := m2.shape; obtain ⟨a3, n3, c3, rfl⟩ := m3.shape; have q1 := (K1.out.trans (Keeps.of_below hb1)) _ _ _ hcb; have q2 := (K1.out.trans (Keeps.of_below hb1)) _ _ _ hcc; have l1 := cell_lt q1; have l2 := cell_lt q2) | (go_at_call 61; refine (ownFlags_nil MM hMM1 (wF.alloc (.cells #[.slice none 0 0, .slice none 0 0, .slice none 0 0, .slice none 0 0, .int .i64 0] 120)).drew).mono ?_; rintro e w1 ⟨v1, v2, v3, rfl, m1, m2, m3, hb1⟩; obtain ⟨a1, n1, c1, rfl⟩ := m1.shape; obtain ⟨a2, n2, c2, rfl⟩ := m2.shape; obtain ⟨a3, n3, c3, rfl⟩ := m3.shape; have q1 := (K2.out.trans (Keeps.of_below hb1)) _ _ _ hcb; have q2 := (K2.out.trans (Keeps.of_below hb1)) _ _ _ hcc; have l1 := cell_lt q1; have l2 := cell_lt q2; have bX2 := bX.call hb1; obtain ⟨hcX, hfX, hlX⟩ := bX2.all))
            · have HM1 : Hid (Mk _ _ _ _ _ _ _) := m1
              have HM2 : Hid (Mk _ _ _ _ _ _ _) := m2
              have HM3 : Hid (Mk _ _ _ _ _ _ _) := m3
              have HBx : Hid (Below wF.heap.size wF w1) := Below.step hb1 (Below.refl _ _).drew (by simp)
              clear m1 m2 m3
              go_wp2_with fail
              go_meet
              case rel =>
                have hal : Below w1.heap.size w1 (w1.alloc (.cells #[.slice none 0 0, .slice a1 n1 c1, .slice a2 n2 c2, .slice a3 n3 c3, .int .i64 MM] 120)) := (Below.refl _ _).alloc (Nat.le_refl _) _
                exact ⟨_, a1, n1, c1, a2, n2, c2, a3, n3, c3, w1.heap.size, rfl, Box.new _ _ _, Mk.call HM1.out hal, Mk.call HM2.out hal, Mk.call HM3.out hal, hal.size, Below.step hal HBx.out HBx.out.size⟩
            · have HM1 : Hid (Mk _ _ _ _ _ _ _) := m1
              have HM2 : Hid (Mk _ _ _ _ _ _ _) := m2
              have HM3 : Hid (Mk _ _ _ _ _ _ _) := m3
              have HBx : Hid (Below wF.heap.size wF w1) := Below.step hb1 ((Below.refl _ _).alloc (Nat.le_refl _) _).drew (by simp)
              have HX2 : Hid (Box w1 wF.heap.size #[.slice none 0 0, .slice none 0 0, .slice none 0 0, .slice none 0 0, .int .i64 0] 120) := bX2
              clear m1 m2 m3
              go_wp2_with fail
              go_meet
              case rel =>
                refine ⟨_, a1, n1, c1, a2, n2, c2, a3, n3, c3, w1.heap.size, rfl, ((((HX2.out.set 0 _).set 1 _).set 2 _).set 3 _).set 4 _, (Mk.sets HM1.out HX2.out (by decide) _ _ _ _ _).wide (by simp) (Nat.le_refl _), (Mk.sets HM2.out HX2.out (by decide) _ _ _ _ _).wide (by simp) (Nat.le_refl _), (Mk.sets HM3.out HX2.out (by decide) _ _ _ _ _).wide (by simp) (Nat.le_refl _), by simp [World.setCell], ((((HBx.out.setCell (by simp) _).setCell (by simp) _).setCell (by simp) _).setCell (by simp) _).setCell (by simp) _⟩
          case rest =>
            obtain ⟨Bx, a1, n1, c1, a2, n2, c2, a3, n3, c3, hi, rfl, hBx, m1, m2, m3, hhi, hbm⟩ := hcut
            obtain ⟨wF2, rfl⟩ : ∃ x : World, x = wc := ⟨wc, rfl⟩
            have HBx : Hid (Box wF2 Bx #[.slice none 0 0, .slice a1 n1 c1, .slice a2 n2 c2, .slice a3 n3 c3, .int .i64 MM] 120) := hBx
            have HBM : Hid (Below wF.heap.size wF wF2) := hbm
            have HCM : Hid (Box wF2 w.heap.size _ 67) := HCB.out.call hbm
            have HKM : Hid (Book av B wF2 bk (.slice aN' (nN + 1) cN') (.slice aW' (nW + 1) cW') vC vP (.slice aF fl.length cF) (nN + 1) (nW + 1) nC nP fl) := HKF.out.call hbm
            obtain ⟨xs, ivs, hx, -⟩ := HKM.out.flags
            have hbD : Below wF2.heap.size wF2 (wF2.alloc (.cells #[.slice none 0 0, .slice a1 n1 c1, .slice a2 n2 c2, .slice a3 n3 c3, .int .i64 MM] 120)).drew := ((Below.refl _ _).alloc (Nat.le_refl _) _).drew
            have HOG : Hid ((wF2.alloc (.cells #[.slice none 0 0, .slice a1 n1 c1, .slice a2 n2 c2, .slice a3 n3 c3, .int .i64 MM] 120)).drew.ownsRow B 120 5 (.slice aF fl.length cF) fl.length xs) := owns_call hx hbD
            have HNW : Hid (∀ j u, ([.slice none 0 0, .slice a1 n1 c1, .slice a2 n2 c2, .slice a3 n3 c3, .int .i64 MM] : List Value)[j]? = some u → (wF2.alloc (.cells #[.slice none 0 0, .slice a1 n1 c1, .slice a2 n2 c2, .slice a3 n3 c3, .int .i64 MM] 120)).drew.cell? ⟨wF2.heap.size, j, none⟩ = some u) := fun j u hu => by
              rw [(Box.new wF2 #[.slice none 0 0, .slice a1 n1 c1, .slice a2 n2 c2, .slice a3 n3 c3, .int .i64 MM] 120).drew.rules.1 j, ← Array.getElem?_toList]; exact hu
            have HS0 : Hid ((wF2.alloc (.cells #[.slice none 0 0, .slice a1 n1 c1, .slice a2 n2 c2, .slice a3 n3 c3, .int .i64 MM] 120)).drew.heap.size = wF2.heap.size + 1) := by unfold Hid; simp
            have HBF : Hid (Below wF.heap.size wF (wF2.alloc (.cells #[.slice none 0 0, .slice a1 n1 c1, .slice a2 n2 c2, .slice a3 n3 c3, .int .i64 MM] 120)).drew) := Below.step hbD hbm hbm.size
            have HS1 : Hid (B ≤ (wF2.alloc (.cells #[.slice none 0 0, .slice a1 n1 c1, .slice a2 n2 c2, .slice a3 n3 c3, .int .i64 MM] 120)).drew.heap.size) := Nat.le_trans HBZ.out HBF.out.size
            have HON : Hid (∀ u ∈ ([.slice none 0 0, .slice a1 n1 c1, .slice a2 n2 c2, .slice a3 n3 c3, .int .i64 MM] : List Value), u.oneCell' = true) := by intro u hu; simp at hu; rcases hu with rfl | rfl | rfl | rfl | rfl <;> rfl
            have HO1 : Hid (Mk _ _ _ _ _ _ _) := Mk.call m1 hbD
            have HO2 : Hid (Mk _ _ _ _ _ _ _) := Mk.call m2 hbD
            have HO3 : Hid (Mk _ _ _ _ _ _ _) := Mk.call m3 hbD
            have HZD : Hid (hi ≤ (wF2.alloc (.cells #[.slice none 0 0, .slice a1 n1 c1, .slice a2 n2 c2, .slice a3 n3 c3, .int .i64 MM] 120)).drew.heap.size) := Nat.le_trans hhi hbD.size
            have HKD : Hid (Book av B (wF2.alloc (.cells #[.slice none 0 0, .slice a1 n1 c1, .slice a2 n2 c2, .slice a3 n3 c3, .int .i64 MM] 120)).drew bk (.slice aN' (nN + 1) cN') (.slice aW' (nW + 1) cW') vC vP (.slice aF fl.length cF) (nN + 1) (nW + 1) nC nP fl) := HKM.out.call hbD
            have HCD : Hid (Box (wF2.alloc (.cells #[.slice none 0 0, .slice a1 n1 c1, .slice a2 n2 c2, .slice a3 n3 c3, .int .i64 MM] 120)).drew w.heap.size _ 67) := HCM.out.call hbD
            clear hBx hbm m1 m2 m3 hhi hx hbD bX nB nC2 x1 x2 x3 y1 y2 y3 hcb hcc K1 K2
            obtain ⟨x1, x2, x3⟩ := HKM.out.box.all
            obtain ⟨y1, y2, y3⟩ := HBx.out.all
            go_upto_region 6 with fail
            go_region_law (refine step_app elem_flags _ (by rfl) _ _ (by rfl) B _ _ _ (by rfl) HOG.out wF2.heap.size 1 1 _ (by rfl) rfl HNW.out HON.out (by omega) (by omega) (by omega) HS1.out (wF2.heap.size + 1) HS0.out ?_; intro g3 cap3 w3 hown3 hg3 hat3 hlt3; obtain ⟨z1, z2, z3⟩ := (HKD.out.push_box HOG.out hg3).all)
            all_goals
              have HF : Hid (Book _ _ _ _ _ _ _ _ _ _ _ _ _ _) := HKF.out.pushF MM hMM1 HBZ.out HBF.out (.inl rfl) HO1.out HO2.out HO3.out HZD.out HOG.out hown3 hg3
              have HBE : Hid (Below B wF (w3.setCell ⟨bk, 4, none⟩ (.slice (some ⟨g3, 0, none⟩) (fl.length + 1) cap3))) := ((HBF.out.mono HBZ.out).grown hg3 HS1.out (fun g hg => (HOG.out.lt g hg).1)).setCell HKD.out.bkge _
              have HSE : Hid (∀ g cs, Box wF g cs 67 → Box (w3.setCell ⟨bk, 4, none⟩ (.slice (some ⟨g3, 0, none⟩) (fl.length + 1) cap3)) g cs 67) := fun g' cs' h => by
                have h1 := h.call HBF.out
                exact (h1.grown hg3 (fun g hg => by obtain ⟨cur, hcur⟩ := owns_own HOG.out hg; exact h1.ne hcur (by decide))).set_ne (h1.ne HKD.out.box (by decide)) _
              have HCE : Hid (Box (w3.setCell ⟨bk, 4, none⟩ (.slice (some ⟨g3, 0, none⟩) (fl.length + 1) cap3)) w.heap.size _ 67) := (HCD.out.grown hg3 (fun g hg => by obtain ⟨cur, hcur⟩ := owns_own HOG.out hg; exact HCD.out.ne hcur (by decide))).set_ne HCX.out _
              clear hown3 hg3 hat3 hlt3 z1 z2 z3 HCE
              go_wp2_with fail
              go_end0
              exact ⟨rfl, ⟨_, _, _, _, HF.out⟩, HBW.out.trans HBE.out, fun g cs h => HSE.out g cs (HSF.out g cs h)⟩

end Go.Proofs.YtekkicgbloidkaaGreatDoor
/- The reference's types of a Join. -/
namespace Go.Proofs.YtekkicgbloidkaaGreatDoor
open Go Go.RowKit
attribute [local go_sem ↓] eq_rty ne_rty

/-- What the reference's functions answer that tell types or none. -/
def RTysRet (w' : World) (e : Ending) (o : Option (List (Int × Int))) : Prop :=
  match o with
  | some l => ∃ v, e = .returned (.tuple #[v, .bool true]) ∧ RTys w' v l ∧ BlkOf 108 w' v
  | none => ∃ v, e = .returned (.tuple #[v, .bool false])

set_option maxRecDepth 20000 in
set_option maxHeartbeats 8000000 in
theorem rjoin_any (n : DNode) (ve vk vo va vx vy : Value) (a b : List (Int × Int)) (w : World) (hn : NodeIs w ve vk vo va n) (h4 : n.keys.length ≤ 4) (hko : n.others.length = n.keys.length) (hx : RTys w vx a) (hy : RTys w vy b) (ha1 : 0 < a.length) (hb1 : 0 < b.length) (ha8 : a.length ≤ 8) (hb8 : b.length ≤ 8) :
    Calls Tryz.prog 75 #[nodeV n ve vk vo va, vx, vy] w fun e w' => RTysRet w' e (joinRun n a b) ∧ Below w.heap.size w w' := by
  have hkeys := hn.keys
  have hoth := hn.others
  have HKO : Hid _ := hko
  obtain ⟨ae, ce, ak, ck, ao, co, aa, ca, rfl, rfl, rfl, rfl⟩ := hn.shape
  obtain ⟨ax, cx, rfl, -⟩ := hx.shape
  obtain ⟨ay, cy, rfl, -⟩ := hy.shape
  have hx2 := hx
  have hy2 := hy
  obtain ⟨ax', cx', hvx, -, helx⟩ := hx2
  obtain ⟨ay', cy', hvy, -, hely⟩ := hy2
  simp only [Value.slice.injEq, true_and] at hvx hvy
  obtain ⟨rfl, rfl⟩ := hvx
  obtain ⟨rfl, rfl⟩ := hvy
  obtain ⟨xb, xo, rfl, hcx⟩ := hx.cells ha1
  obtain ⟨yb, yo, rfl, hcy⟩ := hy.cells hb1
  have HCX : Hid _ := hcx
  have HCY : Hid _ := hcy
  clear hn hko hcx hcy
  have bn := Box.new w #[.int .i64 n.op, .int .i64 n.a, .int .i64 n.b, .slice ae n.exprs.length ce, .slice ak n.keys.length ck, .slice ao n.others.length co, .slice aa n.aggs.length ca] 71
  have bnr := bn.rules.1
  have hB0 : Below w.heap.size w (w.alloc (.cells #[.int .i64 n.op, .int .i64 n.a, .int .i64 n.b, .slice ae n.exprs.length ce, .slice ak n.keys.length ck, .slice ao n.others.length co, .slice aa n.aggs.length ca] 71)) := (Below.refl _ _).alloc (Nat.le_refl _) _
  have HB0 : Hid _ := hB0
  clear bnr hB0
  go_enter Tryz.func75, Tryz.ntmps75
  go_wp2
  go_loopw [8] (fun i W => ∃ (k : Nat), k ≤ n.keys.length ∧ i = .int .i64 k ∧ (∀ j, j < k → keyOk a b (n.keys.getD j 0) (n.others.getD j 0) = true) ∧ Below (w.heap.size + 1) (w.alloc (.cells #[.int .i64 n.op, .int .i64 n.a, .int .i64 n.b, .slice ae n.exprs.length ce, .slice ak n.keys.length ck, .slice ao n.others.length co, .slice aa n.aggs.length ca] 71)) W)
    (fun i _ => n.keys.length - (intOf i).toNat)
  case atStart => exact ⟨0, Nat.zero_le _, rfl, fun j hj => absurd hj (Nat.not_lt_zero _), Below.refl _ _⟩
  case round =>
    obtain ⟨k, hk, rfl, hall, hBn⟩ := hrel
    have HA : Hid _ := hall
    have HBN : Hid (Below (w.heap.size + 1) (w.alloc (.cells #[.int .i64 n.op, .int .i64 n.a, .int .i64 n.b, .slice ae n.exprs.length ce, .slice ak n.keys.length ck, .slice ao n.others.length co, .slice aa n.aggs.length ca] 71)) wr) := hBn
    have hwz : w.heap.size + 1 ≤ wr.heap.size := by have := hBn.size; simpa using this
    have HB : Hid (Below w.heap.size w wr) := ((Below.refl _ _).alloc (Nat.le_refl _) _).trans (hBn.mono (by omega))
    obtain ⟨hcn, hfn, hln⟩ := (bn.below HBN.out (by omega)).all
    clear hall hBn
    by_cases hlt : k < n.keys.length
    · have hlo : k < n.others.length := by have := HKO.out; omega
      obtain ⟨b1, o1, c1, hv1, -, d1⟩ := ints_at hkeys hlt
      obtain ⟨b2, o2, c2, hv2, -, d2⟩ := ints_at hoth hlo
      simp only [Value.slice.injEq, true_and] at hv1 hv2
      obtain ⟨rfl, rfl⟩ := hv1
      obtain ⟨rfl, rfl⟩ := hv2
      have kp := Keeps.of_below HB.out
      have e1 := kp _ _ _ d1
      have e2 := kp _ _ _ d2
      have hbl1 := cell_lt e1
      have hbl2 := cell_lt e2
      have HK : Hid (keyOk a b (n.keys.getD k 0) (n.others.getD k 0) = ((colAt a n.keys[k]).2 && (colAt b n.others[k]).2 && ((colAt a n.keys[k]).1 == (colAt b n.others[k]).1))) := by
        unfold Hid keyOk; simp [hlt, hlo]
      have hi1 : (k : Int) < (n.others.length : Int) := by omega
      clear d1 d2 bn
      generalize hX : n.keys[k] = X at *
      generalize hY : n.others[k] = Y at *
      clear hX hY
      by_cases hrx : 0 ≤ X ∧ X < a.length
      · by_cases hry : 0 ≤ Y ∧ Y < b.length
        · obtain ⟨hx0, hx1⟩ := hrx
          obtain ⟨hy0, hy1⟩ := hry
          obtain ⟨p, rfl⟩ := Int.eq_ofNat_of_zero_le hx0
          obtain ⟨q, rfl⟩ := Int.eq_ofNat_of_zero_le hy0
          have hp : p < a.length := by omega
          have hq : q < b.length := by omega
          obtain ⟨xb', xo', hxb, p0, p1⟩ := helx p hp
          obtain ⟨yb', yo', hyb, q0, q1⟩ := hely q hq
          simp only [Option.some.injEq, Addr.mk.injEq, and_true] at hxb hyb
          obtain ⟨rfl, rfl⟩ := hxb
          obtain ⟨rfl, rfl⟩ := hyb
          simp only [Nat.add_zero] at p0 q0
          have f0 := kp _ _ _ p0
          have f1 := kp _ _ _ p1
          have g0 := kp _ _ _ q0
          have g1 := kp _ _ _ q1
          have hxl := cell_lt f0
          have hyl := cell_lt g0
          have HK2 : Hid (keyOk a b (n.keys.getD k 0) (n.others.getD k 0) = (a[p] == b[q])) := by
            unfold Hid; rw [HK.out]
            have ca1 : colAt a (p : Int) = (a[p], true) := by unfold colAt; rw [if_pos (by omega)]; simp [hp]
            have cb1 : colAt b (q : Int) = (b[q], true) := by unfold colAt; rw [if_pos (by omega)]; simp [hq]
            rw [ca1, cb1]; rfl
          have nx : ¬ ((p : Int) < 0) := by omega
          have ny : ¬ ((q : Int) < 0) := by omega
          have nx' : ¬ ((a.length : Int) ≤ (p : Int)) := by omega
          have ny' : ¬ ((b.length : Int) ≤ (q : Int)) := by omega
          clear kp p0 p1 q0 q1 helx hely
          by_cases hE : ((a[p].1, a[p].2) != (b[q].1, b[q].2)) = true
          · have HN : Hid (joinRun n a b = none) := keysOk_no hlt (by rw [HK2.out]; simpa [bne, Prod.ext_iff] using hE)
            go_upto_region 6 with fail
            go_quiet (fail)
            go_wp2_with fail
            go_ret2
            exact ⟨by rw [HN.out]; exact ⟨_, rfl⟩, below_drewN HB.out _⟩
          · have hE' : ((a[p].1, a[p].2) != (b[q].1, b[q].2)) = false := by simpa using hE
            have HY : Hid (keyOk a b (n.keys.getD k 0) (n.others.getD k 0) = true) := by
              unfold Hid; rw [HK2.out]; simpa [bne, Prod.ext_iff] using hE'
            clear hE
            go_upto_region 6 with fail
            go_quiet (fail)
            go_wp2_with fail
            go_roundw
            case rel =>
              refine ⟨k + 1, by omega, by go_num, fun j hj => ?_, below_drewN HBN.out _⟩
              rcases Nat.lt_succ_iff_lt_or_eq.1 hj with h | rfl
              · exact HA.out j h
              · exact HY.out
            case measure => simp [intOf]; omega
        · have HN : Hid (joinRun n a b = none) := keysOk_no hlt (by
            rw [HK.out]
            have : (colAt b Y).2 = false := by unfold colAt; rw [if_neg (by omega)]
            rw [this]; simp)
          obtain ⟨hx0, hx1⟩ := hrx
          obtain ⟨p, rfl⟩ := Int.eq_ofNat_of_zero_le hx0
          have nx : ¬ ((p : Int) < 0) := by omega
          have nx' : ¬ ((a.length : Int) ≤ (p : Int)) := by omega
          clear kp helx hely HK
          by_cases hy0 : Y < 0
          · clear hry
            go_upto_region 6 with fail
            go_quiet (fail)
            go_wp2_with fail
            go_ret2
            exact ⟨by rw [HN.out]; exact ⟨_, rfl⟩, below_drewN HB.out _⟩
          · have hy1 : (b.length : Int) ≤ Y := by omega
            clear hry
            go_upto_region 6 with fail
            go_quiet (fail)
            go_wp2_with fail
            go_ret2
            exact ⟨by rw [HN.out]; exact ⟨_, rfl⟩, below_drewN HB.out _⟩
      · have HN : Hid (joinRun n a b = none) := keysOk_no hlt (by
          rw [HK.out]
          have : (colAt a X).2 = false := by unfold colAt; rw [if_neg (by omega)]
          rw [this]; simp)
        clear kp helx hely HK
        by_cases hx0 : X < 0
        · clear hrx
          go_upto_region 6 with fail
          go_quiet (fail)
          go_wp2_with fail
          go_ret2
          exact ⟨by rw [HN.out]; exact ⟨_, rfl⟩, below_drewN HB.out _⟩
        · have hx1 : (a.length : Int) ≤ X := by omega
          clear hrx
          go_upto_region 6 with fail
          go_quiet (fail)
          go_wp2_with fail
          go_ret2
          exact ⟨by rw [HN.out]; exact ⟨_, rfl⟩, below_drewN HB.out _⟩
    · have HKY : Hid (keysOk n a b = true) := keysOk_yes (fun j hj => HA.out j (by omega))
      have hsz : w.heap.size ≤ wr.heap.size := HB.out.size
      have HN : Hid (∀ j u, (flatTy a)[j]? = some u → wr.cell? ⟨xb, xo + j, none⟩ = some u) := fun j u hu => (Keeps.of_below HB.out) _ _ _ (HCX.out j u hu)
      have HO0 : Hid (wr.ownsRow w.heap.size 108 2 (.slice none 0 0) 0 []) := World.ownsRow_nil _ _ _ _
      clear helx hely bn HB0
      go_wp2_with (at_builtin; first
        | (refine app_src elem_rty _ (by rfl) _ _ (by rfl) w.heap.size (.slice none 0 0) 0 [] (by rfl) HO0.out xb xo a.length cx (flatTy a) (by rfl) (flatTy_length a) HN.out (flatTy_one a) ha1 (by omega) (by omega) hsz wr.heap.size rfl ?_; intro g3 cap3 w3 hown3 hg3 hat3 hlt3
           have HB3 : Hid (Below w.heap.size w w3) := HB.out.grown hg3 hsz (fun g hg => by simp [Value.ownBlock] at hg)
           have HO3 : Hid (w3.ownsRow w.heap.size 108 2 (.slice (some ⟨g3, 0, none⟩) a.length cap3) a.length (flatTy a)) := by
             unfold Hid; simpa using hown3
           have HN3 : Hid (∀ j u, (flatTy b)[j]? = some u → w3.cell? ⟨yb, yo + j, none⟩ = some u) := fun j u hu => (Keeps.of_below HB3.out) _ _ _ (HCY.out j u hu)
           have hsz3 : w.heap.size ≤ w3.heap.size := HB3.out.size
           rw [show 0 + a.length = a.length by omega]
           clear hg3 hown3 hat3 hlt3)
        | (refine app_src elem_rty _ (by rfl) _ _ (by rfl) w.heap.size (.slice (some ⟨g3, 0, none⟩) a.length cap3) a.length (flatTy a) (by rfl) HO3.out yb yo b.length cy (flatTy b) (by rfl) (flatTy_length b) HN3.out (flatTy_one b) hb1 (by omega) (by omega) hsz3 w3.heap.size rfl ?_; intro g4 cap4 w4 hown4 hg4 hat4 hlt4
           have HB4 : Hid (Below w.heap.size w w4) := HB3.out.grown hg4 hsz3 (fun g hg => (HO3.out.lt g hg).1)
           have HO4 : Hid (w4.ownsRow w.heap.size 108 2 (.slice (some ⟨g4, 0, none⟩) (a ++ b).length cap4) (a ++ b).length (flatTy (a ++ b))) := by
             unfold Hid; rw [← flatTy_append, List.length_append]; exact hown4
           clear hg4 hown4 hat4 hlt4))
      go_ret2
      refine ⟨?_, HB4.out⟩
      have hlen : (a ++ b).length = a.length + b.length := by simp
      unfold joinRun
      by_cases h8 : (a ++ b).length ≤ 8
      · rw [if_pos ⟨HKY.out, h8⟩]
        refine ⟨.slice (some ⟨g4, 0, none⟩) (a ++ b).length cap4, ?_, RTys.owns HO4.out (by omega), BlkOf.owns HO4.out⟩
        rw [hlen] at h8 ⊢
        simp; omega
      · rw [if_neg (fun h => h8 h.2)]
        refine ⟨.slice (some ⟨g4, 0, none⟩) (a.length + b.length) cap4, ?_⟩
        rw [hlen] at h8
        simp; omega

end Go.Proofs.YtekkicgbloidkaaGreatDoor
/- The contracts of the reference's functions on types and columns. -/
namespace Go.Proofs.YtekkicgbloidkaaGreatDoor
open Go Go.RowKit
attribute [local go_sem ↓] Go.wp_at_zero Go.wp_at_succ

set_option maxHeartbeats 400000 in
theorem isNum_any (t : Int × Int) (w : World) :
    Calls Tryz.prog 91 #[tyV t] w fun e w' => e = .returned (.bool (tNum t)) ∧ Below w.heap.size w w' := by
  obtain ⟨k, s⟩ := t
  unfold tNum
  go_enter Tryz.func91, Tryz.ntmps91
  go_wp2
  all_goals (go_ret; refine ⟨?_, (Below.refl _ _).alloc (Nat.le_refl _) _⟩; simp [*])

/-- The end of 'right', behind its tests: the texts, and then the lengths. -/
theorem right_fin {k s : Int} {ni ns nn : Nat} {fit : Bool} {rows : Int} (hk : storable (k, s) = true) (hf : fit = true) : rightColN k s ni ns nn fit rows = (((nn : Int) == rows) && ((ni : Int) == (if k = 3 then 0 else rows)) && ((ns : Int) == (if k = 3 then rows else 0))) := by
  unfold rightColN; rw [hk, hf]; simp [Bool.and_assoc]

set_option maxHeartbeats 4000000 in
theorem rright_any (k s : Int) (ai an az : Option Addr) (ni nn ns ci cn cz : Nat) (strs : List ByteArray) (rows : Int) (w : World) (hss : RStrs w (.slice az ns cz) strs) :
    Calls Tryz.prog 72 #[.agg #[.int .i64 k, .int .i64 s, .slice ai ni ci, .slice az ns cz, .slice an nn cn], .int .i64 rows] w fun e w' => e = .returned (.bool (rightColN k s ni ns nn (textsFit strs) rows)) ∧ Below w.heap.size w w' := by
  obtain ⟨az', cz', hv, hls, hel⟩ := hss
  simp only [Value.slice.injEq] at hv
  obtain ⟨rfl, hns, rfl⟩ := hv
  rw [← hns] at hls
  have HNS : Hid _ := hns
  clear hns
  by_cases hst : storable (k, s) = true
  · have hkind : k = 1 ∨ k = 2 ∨ k = 3 := by
      unfold storable at hst; simp only at hst; split at hst
      · omega
      · split at hst
        · omega
        · simp at hst
    have hsc : (k = 2 ∧ 0 ≤ s ∧ s ≤ 6) ∨ (k ≠ 2 ∧ s = 0) := by
      unfold storable at hst; simp only at hst; split at hst
      · right; refine ⟨by omega, by simpa using hst⟩
      · split at hst
        · left; unfold scFits at hst; simp at hst; omega
        · simp at hst
    have HST : Hid _ := hst
    clear hst
    rcases hkind with rfl | rfl | rfl
    · have hs0 : s = 0 := by omega
      subst hs0
      clear hsc
      go_enter Tryz.func72, Tryz.ntmps72
      go_wp2_with fail
      go_loop [7] (fun i => ∃ j : Nat, j ≤ ns ∧ i = .int .i64 j ∧ textsFit (strs.take j) = true) (fun i => ns - (intOf i).toNat)
      case atStart => exact ⟨0, Nat.zero_le _, rfl, rfl⟩
      case round =>
        obtain ⟨j, hj, rfl, htx⟩ := hrel
        have HT : Hid _ := htx
        clear htx
        by_cases hlt : j < ns
        · have hlt' : j < strs.length := by have := HNS.out; omega
          obtain ⟨b, off, rfl, hc, hs'⟩ := hel j hlt'
          simp only [Nat.mul_one, Nat.add_zero] at hc
          have hbl := cell_lt hc
          by_cases h16 : strs[j].size ≤ 16
          · go_wp2
            go_round
            case rel => exact ⟨j + 1, by omega, by go_num, textsFit_take hlt' HT.out h16⟩
            case measure => simp [intOf]; omega
          · have HF : Hid (rightColN 1 0 ni ns nn (textsFit strs) rows = false) := by unfold Hid rightColN; rw [textsFit_no hlt' h16]; simp
            go_wp2
            go_ret
            refine ⟨?_, (Below.refl _ _).alloc (Nat.le_refl _) _⟩
            rw [HF.out]; rfl
        · have hfit : textsFit strs = true := by have := HT.out; rwa [List.take_of_length_le (by have := HNS.out; omega)] at this
          have HR : Hid _ := fun ni ns nn => right_fin (ni := ni) (ns := ns) (nn := nn) (rows := rows) HST.out hfit
          clear hel hfit
          go_wp2_with fail
          all_goals
            go_ret
            refine ⟨?_, (Below.refl _ _).alloc (Nat.le_refl _) _⟩
            rw [HR.out]
            go_light
            clear HR HT HST HNS
            simp_all
    · have hs0 : 0 ≤ s := by omega
      have hs6 : s ≤ 6 := by omega
      clear hsc
      go_enter Tryz.func72, Tryz.ntmps72
      go_wp2_with fail
      go_loop [7] (fun i => ∃ j : Nat, j ≤ ns ∧ i = .int .i64 j ∧ textsFit (strs.take j) = true) (fun i => ns - (intOf i).toNat)
      case atStart => exact ⟨0, Nat.zero_le _, rfl, rfl⟩
      case round =>
        obtain ⟨j, hj, rfl, htx⟩ := hrel
        have HT : Hid _ := htx
        clear htx
        by_cases hlt : j < ns
        · have hlt' : j < strs.length := by have := HNS.out; omega
          obtain ⟨b, off, rfl, hc, hs'⟩ := hel j hlt'
          simp only [Nat.mul_one, Nat.add_zero] at hc
          have hbl := cell_lt hc
          by_cases h16 : strs[j].size ≤ 16
          · go_wp2
            go_round
            case rel => exact ⟨j + 1, by omega, by go_num, textsFit_take hlt' HT.out h16⟩
            case measure => simp [intOf]; omega
          · have HF : Hid (rightColN 2 s ni ns nn (textsFit strs) rows = false) := by unfold Hid rightColN; rw [textsFit_no hlt' h16]; simp
            go_wp2
            go_ret
            refine ⟨?_, (Below.refl _ _).alloc (Nat.le_refl _) _⟩
            rw [HF.out]; rfl
        · have hfit : textsFit strs = true := by have := HT.out; rwa [List.take_of_length_le (by have := HNS.out; omega)] at this
          have HR : Hid _ := fun ni ns nn => right_fin (ni := ni) (ns := ns) (nn := nn) (rows := rows) HST.out hfit
          clear hel hfit
          go_wp2_with fail
          all_goals
            go_ret
            refine ⟨?_, (Below.refl _ _).alloc (Nat.le_refl _) _⟩
            rw [HR.out]
            go_light
            clear HR HT HST HNS
            simp_all
    · have hs0 : s = 0 := by omega
      subst hs0
      clear hsc
      go_enter Tryz.func72, Tryz.ntmps72
      go_wp2_with fail
      go_loop [7] (fun i => ∃ j : Nat, j ≤ ns ∧ i = .int .i64 j ∧ textsFit (strs.take j) = true) (fun i => ns - (intOf i).toNat)
      case atStart => exact ⟨0, Nat.zero_le _, rfl, rfl⟩
      case round =>
        obtain ⟨j, hj, rfl, htx⟩ := hrel
        have HT : Hid _ := htx
        clear htx
        by_cases hlt : j < ns
        · have hlt' : j < strs.length := by have := HNS.out; omega
          obtain ⟨b, off, rfl, hc, hs'⟩ := hel j hlt'
          simp only [Nat.mul_one, Nat.add_zero] at hc
          have hbl := cell_lt hc
          by_cases h16 : strs[j].size ≤ 16
          · go_wp2
            go_round
            case rel => exact ⟨j + 1, by omega, by go_num, textsFit_take hlt' HT.out h16⟩
            case measure => simp [intOf]; omega
          · have HF : Hid (rightColN 3 0 ni ns nn (textsFit strs) rows = false) := by unfold Hid rightColN; rw [textsFit_no hlt' h16]; simp
            go_wp2
            go_ret
            refine ⟨?_, (Below.refl _ _).alloc (Nat.le_refl _) _⟩
            rw [HF.out]; rfl
        · have hfit : textsFit strs = true := by have := HT.out; rwa [List.take_of_length_le (by have := HNS.out; omega)] at this
          have HR : Hid _ := fun ni ns nn => right_fin (ni := ni) (ns := ns) (nn := nn) (rows := rows) HST.out hfit
          clear hel hfit
          go_wp2_with fail
          all_goals
            go_ret
            refine ⟨?_, (Below.refl _ _).alloc (Nat.le_refl _) _⟩
            rw [HR.out]
            go_light
            clear HR HT HST HNS
            simp_all
  · have HF : Hid (rightColN k s ni ns nn (textsFit strs) rows = false) := by unfold Hid rightColN; simp [hst]
    have hcase : (k ≠ 1 ∧ k ≠ 2 ∧ k ≠ 3) ∨ (k = 2 ∧ (s < 0 ∨ 6 < s)) ∨ ((k = 1 ∨ k = 3) ∧ s ≠ 0) := by
      unfold storable at hst; simp only at hst; split at hst
      · right; right; exact ⟨by omega, by simpa using hst⟩
      · split at hst
        · right; left; unfold scFits at hst; simp at hst; omega
        · left; omega
    clear hst hel
    rcases hcase with ⟨h1, h2, h3⟩ | ⟨rfl, h | h⟩ | ⟨rfl | rfl, h⟩
    all_goals
      go_enter Tryz.func72, Tryz.ntmps72
      go_wp2_with fail
      go_ret
      exact ⟨by rw [HF.out]; rfl, (Below.refl _ _).alloc (Nat.le_refl _) _⟩

end Go.Proofs.YtekkicgbloidkaaGreatDoor
