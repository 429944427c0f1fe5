/- Lists of one's own, begun at nil, with their owner's mark. -/
import Derived.Test.YtekkicgbloidkaaGreatDoorMkA
namespace Go.Proofs.YtekkicgbloidkaaGreatDoor
open Go Go.RowKit

set_option maxRecDepth 20000 in
set_option maxHeartbeats 4000000 in
theorem ownNums_nil (mark : Nat) (hm : mark ≤ 1000000000000) (w : World) :
    Calls Tryz.prog 59 #[.slice none 0 0, .int .i64 mark] w fun e w' => ∃ v1 v2 v3, e = .returned (.agg #[.slice none 0 0, v1, v2, v3, .int .i64 mark]) ∧ Mk 2 1 w' w.heap.size w'.heap.size v1 [.int .i64 (-1000 - (mark : Int))] ∧ Mk 2 1 w' w.heap.size w'.heap.size v2 [.int .i64 (-1000 - (mark : Int))] ∧ Mk 2 1 w' w.heap.size w'.heap.size v3 [.int .i64 (-1000 - (mark : Int))] ∧ Below w.heap.size w w' := by
  have hb0 : Below w.heap.size w (w.alloc (.cells #[.slice none 0 0, .slice none 0 0, .slice none 0 0, .slice none 0 0, .int .i64 0] 74)) := (Below.refl _ _).alloc (Nat.le_refl _) _
  have HB0 : Hid _ := hb0
  have HX0 : Hid (Box (w.alloc (.cells #[.slice none 0 0, .slice none 0 0, .slice none 0 0, .slice none 0 0, .int .i64 0] 74)) w.heap.size #[.slice none 0 0, .slice none 0 0, .slice none 0 0, .slice none 0 0, .int .i64 0] 74) := Box.new _ _ _
  have HS0 : Hid (w.heap.size + 1 ≤ (w.alloc (.cells #[.slice none 0 0, .slice none 0 0, .slice none 0 0, .slice none 0 0, .int .i64 0] 74)).heap.size) := by unfold Hid; simp
  clear hb0
  go_enter Tryz.func59, Tryz.ntmps59
  go_upto_region 1 with fail
  generalize w.alloc (.cells #[.slice none 0 0, .slice none 0 0, .slice none 0 0, .slice none 0 0, .int .i64 0] 74) = wA at *
  go_upto_block 0 with fail
  go_cut [] (fun W => W = wA)
  case first =>
    go_wp2_with fail
    go_loopw [6] (fun i W => i = .int .i64 0 ∧ W = wA) (fun _ _ => 0)
    case atStart => exact ⟨rfl, rfl⟩
    case round =>
      obtain ⟨rfl, rfl⟩ := hrel
      go_wp2_with fail
      go_meet
      case rel => first | rfl | trivial
  case rest =>
    subst hcut
    obtain ⟨wA, rfl⟩ : ∃ x : World, x = wc := ⟨wc, rfl⟩
    have HNW : Hid (∀ j u, ([.int .i64 (-1000 - (mark : Int))] : List Value)[j]? = some u → (wA.alloc (.cells #[.int .i64 (-1000 - (mark : Int))] 2)).cell? ⟨wA.heap.size, j, none⟩ = some u) := new_one (Box.new wA _ _)
    have HON : Hid (∀ u ∈ ([.int .i64 (-1000 - (mark : Int))] : List Value), u.oneCell' = true) := by intro u hu; simp at hu; subst hu; rfl
    have HSA : Hid ((wA.alloc (.cells #[.int .i64 (-1000 - (mark : Int))] 2)).heap.size = wA.heap.size + 1) := by unfold Hid; simp
    go_upto_region 7 with (at_builtin; refine app_full elem_i64 _ (by rfl) _ _ (by rfl) none 0 [] (by rfl) rfl (fun j u hu => by simp at hu) (fun _ => rfl) (fun p hp => by simp at hp) wA.heap.size 1 1 [.int .i64 (-1000 - (mark : Int))] (by rfl) rfl HNW.out HON.out (by omega) (by omega) (by omega) (wA.heap.size + 1) HSA.out ?_; intro cap1 w1 hown1 hb1 hlt1)
    have HO1 : Hid (Mk 2 1 w1 w.heap.size w1.heap.size (.slice (some ⟨wA.heap.size + 1, 0, none⟩) (0 + 1) cap1) [.int .i64 (-1000 - (mark : Int))]) := by
      have h := Mk.owns (T := 2) (sz := 1) (lo := wA.heap.size + 1) (hi := w1.heap.size) (n := 0 + 1) (xs := [.int .i64 (-1000 - (mark : Int))]) (by rw [repl_one]; exact hown1) rfl (Nat.le_refl _)
      exact h.wide (by have := HB0.out.size; omega) (Nat.le_refl _)
    have HB1 : Hid (Below (wA.heap.size + 1) (wA.alloc (.cells #[.int .i64 (-1000 - (mark : Int))] 2)) w1) := hb1
    have HBA1 : Hid (Below w.heap.size w w1) := (HB0.out.alloc HB0.out.size _).trans (hb1.mono (by have := HB0.out.size; omega))
    have HX1 : Hid (Box w1 w.heap.size #[.slice none 0 0, .slice none 0 0, .slice none 0 0, .slice none 0 0, .int .i64 0] 74) := (HX0.out.alloc _).below hb1 (by have := HS0.out; omega)
    have HS1 : Hid (wA.heap.size + 1 < w1.heap.size) := hlt1
    clear hown1 hb1 hlt1 HNW HSA HB1
    have HNW : Hid (∀ j u, ([.int .i64 (-1000 - (mark : Int)), .int .i64 (-1000 - (mark : Int))] : List Value)[j]? = some u → (w1.alloc (.cells #[.int .i64 (-1000 - (mark : Int)), .int .i64 (-1000 - (mark : Int))] 2)).cell? ⟨w1.heap.size, j, none⟩ = some u) := new_two (Box.new w1 _ _)
    have HON2 : Hid (∀ u ∈ ([.int .i64 (-1000 - (mark : Int)), .int .i64 (-1000 - (mark : Int))] : List Value), u.oneCell' = true) := by intro u hu; simp at hu; subst hu; rfl
    have HSA : Hid ((w1.alloc (.cells #[.int .i64 (-1000 - (mark : Int)), .int .i64 (-1000 - (mark : Int))] 2)).heap.size = w1.heap.size + 1) := by unfold Hid; simp
    go_upto_region 8 with (at_builtin; refine app_full elem_i64 _ (by rfl) _ _ (by rfl) none 0 [] (by rfl) rfl (fun j u hu => by simp at hu) (fun _ => rfl) (fun p hp => by simp at hp) w1.heap.size 2 2 [.int .i64 (-1000 - (mark : Int)), .int .i64 (-1000 - (mark : Int))] (by rfl) rfl HNW.out HON2.out (by omega) (by omega) (by omega) (w1.heap.size + 1) HSA.out ?_; intro cap2 w2 hown2 hb2 hlt2)
    have HBB : Hid (Below w1.heap.size w1 w2) := ((Below.refl _ _).alloc (Nat.le_refl _) _).trans (hb2.mono (by omega))
    have HO2 : Hid (Mk 2 1 w2 w.heap.size w2.heap.size (.slice (some ⟨w1.heap.size + 1, 0, none⟩) (0 + 2) cap2) [.int .i64 (-1000 - (mark : Int))]) := by
      have h := Mk.owns (T := 2) (sz := 1) (lo := w1.heap.size + 1) (hi := w2.heap.size) (n := 0 + 2) (xs := [.int .i64 (-1000 - (mark : Int))]) (by rw [show repl (0 + 2) [.int .i64 (-1000 - (mark : Int))] = [] ++ [.int .i64 (-1000 - (mark : Int)), .int .i64 (-1000 - (mark : Int))] from rfl]; exact hown2) rfl (Nat.le_refl _)
      exact h.wide (by have := HBA1.out.size; omega) (Nat.le_refl _)
    have HO12 : Hid (Mk 2 1 w2 w.heap.size w2.heap.size (.slice (some ⟨wA.heap.size + 1, 0, none⟩) (0 + 1) cap1) [.int .i64 (-1000 - (mark : Int))]) := (HO1.out.call HBB.out).wide (Nat.le_refl _) HBB.out.size
    have HBA2 : Hid (Below w.heap.size w w2) := HBA1.out.trans (HBB.out.mono HBA1.out.size)
    have HX2 : Hid (Box w2 w.heap.size #[.slice none 0 0, .slice none 0 0, .slice none 0 0, .slice none 0 0, .int .i64 0] 74) := HX1.out.call HBB.out
    clear hown2 hb2 hlt2 HNW HSA HO1 HX1 HBA1
    go_wp2_with fail
    go_loopw [9, 10] (fun v i W => ∃ k : Nat, k ≤ 64 ∧ i = .int .i64 k ∧ W.ownsRow w2.heap.size 2 1 v k (repl k [.int .i64 (-1000 - (mark : Int))]) ∧ Below w2.heap.size w2 W) (fun _ i _ => 64 - (intOf i).toNat)
    case atStart => exact ⟨0, by omega, rfl, World.ownsRow_nil _ _ _ _, Below.refl _ _⟩
    case round =>
      obtain ⟨k, hk, rfl, hown, hB⟩ := hrel
      have HO : Hid (wr.ownsRow w2.heap.size 2 1 u9 k (repl k [.int .i64 (-1000 - (mark : Int))])) := hown
      have HB : Hid (Below w2.heap.size w2 wr) := hB
      clear hown hB
      by_cases hlt : k < 64
      · have hi1 : (k : Int) < 64 := by omega
        have HOG : Hid ((wr.alloc (.cells #[.int .i64 (-1000 - (mark : Int))] 2)).ownsRow w2.heap.size 2 1 u9 k (repl k [.int .i64 (-1000 - (mark : Int))])) := HO.out.alloc _
        have HNW : Hid (∀ j u, ([.int .i64 (-1000 - (mark : Int))] : List Value)[j]? = some u → (wr.alloc (.cells #[.int .i64 (-1000 - (mark : Int))] 2)).cell? ⟨wr.heap.size, j, none⟩ = some u) := new_one (Box.new wr _ _)
        have HSA : Hid ((wr.alloc (.cells #[.int .i64 (-1000 - (mark : Int))] 2)).heap.size = wr.heap.size + 1) := by unfold Hid; simp
        have HSB : Hid (w2.heap.size ≤ (wr.alloc (.cells #[.int .i64 (-1000 - (mark : Int))] 2)).heap.size) := by have := HB.out.size; unfold Hid; simp; omega
        go_wp2_with (at_builtin; refine app_one elem_i64 _ (by rfl) _ _ (by rfl) w2.heap.size u9 k (repl k [.int .i64 (-1000 - (mark : Int))]) (by rfl) HOG.out wr.heap.size 1 1 [.int .i64 (-1000 - (mark : Int))] (by rfl) rfl HNW.out HON.out (by omega) (by omega) (by omega) HSB.out (wr.heap.size + 1) HSA.out ?_; intro g3 cap3 w3 hown3 hg3 hat3 hlt3)
        have HO3 : Hid (w3.ownsRow w2.heap.size 2 1 (.slice (some ⟨g3, 0, none⟩) (k + 1) cap3) (k + 1) (repl (k + 1) [.int .i64 (-1000 - (mark : Int))])) := by unfold Hid; rw [repl_succ]; exact hown3
        have HB3 : Hid (Below w2.heap.size w2 w3) := (HB.out.alloc HB.out.size _).grown hg3 HSB.out (fun g hg => (HO.out.lt g hg).1)
        clear hown3 hg3 hat3 hlt3
        go_roundw
        case rel => exact ⟨k + 1, by omega, by go_num, HO3.out, HB3.out⟩
        case measure => simp [intOf]; omega
      · have hk64 : k = 64 := by omega
        subst hk64
        obtain ⟨a9, c9, rfl⟩ := owns_shape HO.out
        have HX3 : Hid (Box wr w.heap.size #[.slice none 0 0, .slice none 0 0, .slice none 0 0, .slice none 0 0, .int .i64 0] 74) := HX2.out.call HB.out
        obtain ⟨hcr, hfr, hlr⟩ := HX3.out.all
        have HBW : Hid (Below w.heap.size w wr) := HBA2.out.trans (HB.out.mono HBA2.out.size)
        have HM1 : Hid (∀ W, Only (fun b => b = w.heap.size) wr W → Mk 2 1 W w.heap.size W.heap.size (.slice (some ⟨wA.heap.size + 1, 0, none⟩) (0 + 1) cap1) [.int .i64 (-1000 - (mark : Int))] ∧ Mk 2 1 W w.heap.size W.heap.size (.slice (some ⟨w1.heap.size + 1, 0, none⟩) (0 + 2) cap2) [.int .i64 (-1000 - (mark : Int))] ∧ Mk 2 1 W w.heap.size W.heap.size (.slice a9 64 c9) [.int .i64 (-1000 - (mark : Int))]) := fun W hW => by
          have hne : ∀ {v : Value} {lo : Nat}, Mk 2 1 wr lo wr.heap.size v [.int .i64 (-1000 - (mark : Int))] → w.heap.size ≤ lo → Mk 2 1 W w.heap.size W.heap.size v [.int .i64 (-1000 - (mark : Int))] := by
            intro v lo hM hlo
            rcases hM with h | ⟨g, n, cap, cur, hv, g1, g2, hb, rest⟩
            · exact .inl h
            · exact .inr ⟨g, n, cap, cur, hv, by omega, Nat.lt_of_lt_of_le g2 hW.size, hb.only hW (fun e => (hb.ne HX3.out (by decide)) e), rest⟩
          exact ⟨hne ((HO12.out.call HB.out).wide (Nat.le_refl _) HB.out.size) (Nat.le_refl _), hne ((HO2.out.call HB.out).wide (Nat.le_refl _) HB.out.size) (Nat.le_refl _), hne (Mk.owns HO.out rfl (Nat.le_refl _)) HBA2.out.size⟩
        go_wp2_with fail
        refine bodyPost_ret (v := .agg #[.slice none 0 0, .slice (some ⟨wA.heap.size + 1, 0, none⟩) (0 + 1) cap1, .slice (some ⟨w1.heap.size + 1, 0, none⟩) (0 + 2) cap2, .slice a9 64 c9, .int .i64 mark]) (by simp [results, Tryz.results59, go_sem, hcr]) rfl ?_
        have hO := (((((Only.refl (fun b => b = w.heap.size) wr).setCell (p := ⟨w.heap.size, 0, none⟩) rfl (.slice none 0 0)).setCell (p := ⟨w.heap.size, 1, none⟩) rfl (.slice (some ⟨wA.heap.size + 1, 0, none⟩) (0 + 1) cap1)).setCell (p := ⟨w.heap.size, 2, none⟩) rfl (.slice (some ⟨w1.heap.size + 1, 0, none⟩) (0 + 2) cap2)).setCell (p := ⟨w.heap.size, 3, none⟩) rfl (.slice a9 64 c9)).setCell (p := ⟨w.heap.size, 4, none⟩) rfl (.int .i64 mark)
        obtain ⟨m1, m2, m3⟩ := HM1.out _ hO
        exact ⟨_, _, _, rfl, m1, m2, m3, HBW.out.trans (hO.toBelow HBW.out.size (fun b hb => by subst hb; exact Nat.le_refl _))⟩

set_option maxRecDepth 20000 in
set_option maxHeartbeats 4000000 in
theorem ownPlaces_nil (mark : Nat) (hm : mark ≤ 1000000000000) (w : World) :
    Calls Tryz.prog 42 #[.slice none 0 0, .int .i64 mark] w fun e w' => ∃ v1 v2 v3, e = .returned (.agg #[.slice none 0 0, v1, v2, v3, .int .i64 mark]) ∧ Mk 3 1 w' w.heap.size w'.heap.size v1 [.int .i64 (-1000 - (mark : Int))] ∧ Mk 3 1 w' w.heap.size w'.heap.size v2 [.int .i64 (-1000 - (mark : Int))] ∧ Mk 3 1 w' w.heap.size w'.heap.size v3 [.int .i64 (-1000 - (mark : Int))] ∧ Below w.heap.size w w' := by
  have hb0 : Below w.heap.size w (w.alloc (.cells #[.slice none 0 0, .slice none 0 0, .slice none 0 0, .slice none 0 0, .int .i64 0] 80)) := (Below.refl _ _).alloc (Nat.le_refl _) _
  have HB0 : Hid _ := hb0
  have HX0 : Hid (Box (w.alloc (.cells #[.slice none 0 0, .slice none 0 0, .slice none 0 0, .slice none 0 0, .int .i64 0] 80)) w.heap.size #[.slice none 0 0, .slice none 0 0, .slice none 0 0, .slice none 0 0, .int .i64 0] 80) := Box.new _ _ _
  have HS0 : Hid (w.heap.size + 1 ≤ (w.alloc (.cells #[.slice none 0 0, .slice none 0 0, .slice none 0 0, .slice none 0 0, .int .i64 0] 80)).heap.size) := by unfold Hid; simp
  clear hb0
  go_enter Tryz.func42, Tryz.ntmps42
  go_upto_region 1 with fail
  generalize w.alloc (.cells #[.slice none 0 0, .slice none 0 0, .slice none 0 0, .slice none 0 0, .int .i64 0] 80) = wA at *
  go_upto_block 0 with fail
  go_cut [] (fun W => W = wA)
  case first =>
    go_wp2_with fail
    go_loopw [6] (fun i W => i = .int .i64 0 ∧ W = wA) (fun _ _ => 0)
    case atStart => exact ⟨rfl, rfl⟩
    case round =>
      obtain ⟨rfl, rfl⟩ := hrel
      go_wp2_with fail
      go_meet
      case rel => first | rfl | trivial
  case rest =>
    subst hcut
    obtain ⟨wA, rfl⟩ : ∃ x : World, x = wc := ⟨wc, rfl⟩
    have HNW : Hid (∀ j u, ([.int .i64 (-1000 - (mark : Int))] : List Value)[j]? = some u → (wA.alloc (.cells #[.int .i64 (-1000 - (mark : Int))] 3)).cell? ⟨wA.heap.size, j, none⟩ = some u) := new_one (Box.new wA _ _)
    have HON : Hid (∀ u ∈ ([.int .i64 (-1000 - (mark : Int))] : List Value), u.oneCell' = true) := by intro u hu; simp at hu; subst hu; rfl
    have HSA : Hid ((wA.alloc (.cells #[.int .i64 (-1000 - (mark : Int))] 3)).heap.size = wA.heap.size + 1) := by unfold Hid; simp
    go_upto_region 7 with (at_builtin; refine app_full elem_int _ (by rfl) _ _ (by rfl) none 0 [] (by rfl) rfl (fun j u hu => by simp at hu) (fun _ => rfl) (fun p hp => by simp at hp) wA.heap.size 1 1 [.int .i64 (-1000 - (mark : Int))] (by rfl) rfl HNW.out HON.out (by omega) (by omega) (by omega) (wA.heap.size + 1) HSA.out ?_; intro cap1 w1 hown1 hb1 hlt1)
    have HO1 : Hid (Mk 3 1 w1 w.heap.size w1.heap.size (.slice (some ⟨wA.heap.size + 1, 0, none⟩) (0 + 1) cap1) [.int .i64 (-1000 - (mark : Int))]) := by
      have h := Mk.owns (T := 3) (sz := 1) (lo := wA.heap.size + 1) (hi := w1.heap.size) (n := 0 + 1) (xs := [.int .i64 (-1000 - (mark : Int))]) (by rw [repl_one]; exact hown1) rfl (Nat.le_refl _)
      exact h.wide (by have := HB0.out.size; omega) (Nat.le_refl _)
    have HB1 : Hid (Below (wA.heap.size + 1) (wA.alloc (.cells #[.int .i64 (-1000 - (mark : Int))] 3)) w1) := hb1
    have HBA1 : Hid (Below w.heap.size w w1) := (HB0.out.alloc HB0.out.size _).trans (hb1.mono (by have := HB0.out.size; omega))
    have HX1 : Hid (Box w1 w.heap.size #[.slice none 0 0, .slice none 0 0, .slice none 0 0, .slice none 0 0, .int .i64 0] 80) := (HX0.out.alloc _).below hb1 (by have := HS0.out; omega)
    have HS1 : Hid (wA.heap.size + 1 < w1.heap.size) := hlt1
    clear hown1 hb1 hlt1 HNW HSA HB1
    have HNW : Hid (∀ j u, ([.int .i64 (-1000 - (mark : Int)), .int .i64 (-1000 - (mark : Int))] : List Value)[j]? = some u → (w1.alloc (.cells #[.int .i64 (-1000 - (mark : Int)), .int .i64 (-1000 - (mark : Int))] 3)).cell? ⟨w1.heap.size, j, none⟩ = some u) := new_two (Box.new w1 _ _)
    have HON2 : Hid (∀ u ∈ ([.int .i64 (-1000 - (mark : Int)), .int .i64 (-1000 - (mark : Int))] : List Value), u.oneCell' = true) := by intro u hu; simp at hu; subst hu; rfl
    have HSA : Hid ((w1.alloc (.cells #[.int .i64 (-1000 - (mark : Int)), .int .i64 (-1000 - (mark : Int))] 3)).heap.size = w1.heap.size + 1) := by unfold Hid; simp
    go_upto_region 8 with (at_builtin; refine app_full elem_int _ (by rfl) _ _ (by rfl) none 0 [] (by rfl) rfl (fun j u hu => by simp at hu) (fun _ => rfl) (fun p hp => by simp at hp) w1.heap.size 2 2 [.int .i64 (-1000 - (mark : Int)), .int .i64 (-1000 - (mark : Int))] (by rfl) rfl HNW.out HON2.out (by omega) (by omega) (by omega) (w1.heap.size + 1) HSA.out ?_; intro cap2 w2 hown2 hb2 hlt2)
    have HBB : Hid (Below w1.heap.size w1 w2) := ((Below.refl _ _).alloc (Nat.le_refl _) _).trans (hb2.mono (by omega))
    have HO2 : Hid (Mk 3 1 w2 w.heap.size w2.heap.size (.slice (some ⟨w1.heap.size + 1, 0, none⟩) (0 + 2) cap2) [.int .i64 (-1000 - (mark : Int))]) := by
      have h := Mk.owns (T := 3) (sz := 1) (lo := w1.heap.size + 1) (hi := w2.heap.size) (n := 0 + 2) (xs := [.int .i64 (-1000 - (mark : Int))]) (by rw [show repl (0 + 2) [.int .i64 (-1000 - (mark : Int))] = [] ++ [.int .i64 (-1000 - (mark : Int)), .int .i64 (-1000 - (mark : Int))] from rfl]; exact hown2) rfl (Nat.le_refl _)
      exact h.wide (by have := HBA1.out.size; omega) (Nat.le_refl _)
    have HO12 : Hid (Mk 3 1 w2 w.heap.size w2.heap.size (.slice (some ⟨wA.heap.size + 1, 0, none⟩) (0 + 1) cap1) [.int .i64 (-1000 - (mark : Int))]) := (HO1.out.call HBB.out).wide (Nat.le_refl _) HBB.out.size
    have HBA2 : Hid (Below w.heap.size w w2) := HBA1.out.trans (HBB.out.mono HBA1.out.size)
    have HX2 : Hid (Box w2 w.heap.size #[.slice none 0 0, .slice none 0 0, .slice none 0 0, .slice none 0 0, .int .i64 0] 80) := HX1.out.call HBB.out
    clear hown2 hb2 hlt2 HNW HSA HO1 HX1 HBA1
    go_wp2_with fail
    go_loopw [9, 10] (fun v i W => ∃ k : Nat, k ≤ 64 ∧ i = .int .i64 k ∧ W.ownsRow w2.heap.size 3 1 v k (repl k [.int .i64 (-1000 - (mark : Int))]) ∧ Below w2.heap.size w2 W) (fun _ i _ => 64 - (intOf i).toNat)
    case atStart => exact ⟨0, by omega, rfl, World.ownsRow_nil _ _ _ _, Below.refl _ _⟩
    case round =>
      obtain ⟨k, hk, rfl, hown, hB⟩ := hrel
      have HO : Hid (wr.ownsRow w2.heap.size 3 1 u9 k (repl k [.int .i64 (-1000 - (mark : Int))])) := hown
      have HB : Hid (Below w2.heap.size w2 wr) := hB
      clear hown hB
      by_cases hlt : k < 64
      · have hi1 : (k : Int) < 64 := by omega
        have HOG : Hid ((wr.alloc (.cells #[.int .i64 (-1000 - (mark : Int))] 3)).ownsRow w2.heap.size 3 1 u9 k (repl k [.int .i64 (-1000 - (mark : Int))])) := HO.out.alloc _
        have HNW : Hid (∀ j u, ([.int .i64 (-1000 - (mark : Int))] : List Value)[j]? = some u → (wr.alloc (.cells #[.int .i64 (-1000 - (mark : Int))] 3)).cell? ⟨wr.heap.size, j, none⟩ = some u) := new_one (Box.new wr _ _)
        have HSA : Hid ((wr.alloc (.cells #[.int .i64 (-1000 - (mark : Int))] 3)).heap.size = wr.heap.size + 1) := by unfold Hid; simp
        have HSB : Hid (w2.heap.size ≤ (wr.alloc (.cells #[.int .i64 (-1000 - (mark : Int))] 3)).heap.size) := by have := HB.out.size; unfold Hid; simp; omega
        go_wp2_with (at_builtin; refine app_one elem_int _ (by rfl) _ _ (by rfl) w2.heap.size u9 k (repl k [.int .i64 (-1000 - (mark : Int))]) (by rfl) HOG.out wr.heap.size 1 1 [.int .i64 (-1000 - (mark : Int))] (by rfl) rfl HNW.out HON.out (by omega) (by omega) (by omega) HSB.out (wr.heap.size + 1) HSA.out ?_; intro g3 cap3 w3 hown3 hg3 hat3 hlt3)
        have HO3 : Hid (w3.ownsRow w2.heap.size 3 1 (.slice (some ⟨g3, 0, none⟩) (k + 1) cap3) (k + 1) (repl (k + 1) [.int .i64 (-1000 - (mark : Int))])) := by unfold Hid; rw [repl_succ]; exact hown3
        have HB3 : Hid (Below w2.heap.size w2 w3) := (HB.out.alloc HB.out.size _).grown hg3 HSB.out (fun g hg => (HO.out.lt g hg).1)
        clear hown3 hg3 hat3 hlt3
        go_roundw
        case rel => exact ⟨k + 1, by omega, by go_num, HO3.out, HB3.out⟩
        case measure => simp [intOf]; omega
      · have hk64 : k = 64 := by omega
        subst hk64
        obtain ⟨a9, c9, rfl⟩ := owns_shape HO.out
        have HX3 : Hid (Box wr w.heap.size #[.slice none 0 0, .slice none 0 0, .slice none 0 0, .slice none 0 0, .int .i64 0] 80) := HX2.out.call HB.out
        obtain ⟨hcr, hfr, hlr⟩ := HX3.out.all
        have HBW : Hid (Below w.heap.size w wr) := HBA2.out.trans (HB.out.mono HBA2.out.size)
        have HM1 : Hid (∀ W, Only (fun b => b = w.heap.size) wr W → Mk 3 1 W w.heap.size W.heap.size (.slice (some ⟨wA.heap.size + 1, 0, none⟩) (0 + 1) cap1) [.int .i64 (-1000 - (mark : Int))] ∧ Mk 3 1 W w.heap.size W.heap.size (.slice (some ⟨w1.heap.size + 1, 0, none⟩) (0 + 2) cap2) [.int .i64 (-1000 - (mark : Int))] ∧ Mk 3 1 W w.heap.size W.heap.size (.slice a9 64 c9) [.int .i64 (-1000 - (mark : Int))]) := fun W hW => by
          have hne : ∀ {v : Value} {lo : Nat}, Mk 3 1 wr lo wr.heap.size v [.int .i64 (-1000 - (mark : Int))] → w.heap.size ≤ lo → Mk 3 1 W w.heap.size W.heap.size v [.int .i64 (-1000 - (mark : Int))] := by
            intro v lo hM hlo
            rcases hM with h | ⟨g, n, cap, cur, hv, g1, g2, hb, rest⟩
            · exact .inl h
            · exact .inr ⟨g, n, cap, cur, hv, by omega, Nat.lt_of_lt_of_le g2 hW.size, hb.only hW (fun e => (hb.ne HX3.out (by decide)) e), rest⟩
          exact ⟨hne ((HO12.out.call HB.out).wide (Nat.le_refl _) HB.out.size) (Nat.le_refl _), hne ((HO2.out.call HB.out).wide (Nat.le_refl _) HB.out.size) (Nat.le_refl _), hne (Mk.owns HO.out rfl (Nat.le_refl _)) HBA2.out.size⟩
        go_wp2_with fail
        refine bodyPost_ret (v := .agg #[.slice none 0 0, .slice (some ⟨wA.heap.size + 1, 0, none⟩) (0 + 1) cap1, .slice (some ⟨w1.heap.size + 1, 0, none⟩) (0 + 2) cap2, .slice a9 64 c9, .int .i64 mark]) (by simp [results, Tryz.results42, go_sem, hcr]) rfl ?_
        have hO := (((((Only.refl (fun b => b = w.heap.size) wr).setCell (p := ⟨w.heap.size, 0, none⟩) rfl (.slice none 0 0)).setCell (p := ⟨w.heap.size, 1, none⟩) rfl (.slice (some ⟨wA.heap.size + 1, 0, none⟩) (0 + 1) cap1)).setCell (p := ⟨w.heap.size, 2, none⟩) rfl (.slice (some ⟨w1.heap.size + 1, 0, none⟩) (0 + 2) cap2)).setCell (p := ⟨w.heap.size, 3, none⟩) rfl (.slice a9 64 c9)).setCell (p := ⟨w.heap.size, 4, none⟩) rfl (.int .i64 mark)
        obtain ⟨m1, m2, m3⟩ := HM1.out _ hO
        exact ⟨_, _, _, rfl, m1, m2, m3, HBW.out.trans (hO.toBelow HBW.out.size (fun b hb => by subst hb; exact Nat.le_refl _))⟩

set_option maxRecDepth 20000 in
set_option maxHeartbeats 4000000 in
theorem ownFlags_nil0 (w : World) :
    Calls Tryz.prog 61 #[.slice none 0 0, .int .i64 0] w fun e w' => ∃ v1 v2 v3, e = .returned (.agg #[.slice none 0 0, v1, v2, v3, .int .i64 0]) ∧ Mk 4 1 w' w.heap.size w'.heap.size v1 [.bool true] ∧ Mk 4 1 w' w.heap.size w'.heap.size v2 [.bool true] ∧ Mk 4 1 w' w.heap.size w'.heap.size v3 [.bool true] ∧ Below w.heap.size w w' := by
  have hb0 : Below w.heap.size w (w.alloc (.cells #[.slice none 0 0, .slice none 0 0, .slice none 0 0, .slice none 0 0, .int .i64 0] 120)) := (Below.refl _ _).alloc (Nat.le_refl _) _
  have HB0 : Hid _ := hb0
  have HX0 : Hid (Box (w.alloc (.cells #[.slice none 0 0, .slice none 0 0, .slice none 0 0, .slice none 0 0, .int .i64 0] 120)) w.heap.size #[.slice none 0 0, .slice none 0 0, .slice none 0 0, .slice none 0 0, .int .i64 0] 120) := Box.new _ _ _
  have HS0 : Hid (w.heap.size + 1 ≤ (w.alloc (.cells #[.slice none 0 0, .slice none 0 0, .slice none 0 0, .slice none 0 0, .int .i64 0] 120)).heap.size) := by unfold Hid; simp
  clear hb0
  go_enter Tryz.func61, Tryz.ntmps61
  go_upto_region 1 with fail
  generalize w.alloc (.cells #[.slice none 0 0, .slice none 0 0, .slice none 0 0, .slice none 0 0, .int .i64 0] 120) = wA at *
  go_upto_block 0 with fail
  go_cut [] (fun W => W = wA)
  case first =>
    go_wp2_with fail
    go_loopw [6] (fun i W => i = .int .i64 0 ∧ W = wA) (fun _ _ => 0)
    case atStart => exact ⟨rfl, rfl⟩
    case round =>
      obtain ⟨rfl, rfl⟩ := hrel
      go_wp2_with fail
      go_meet
      case rel => first | rfl | trivial
  case rest =>
    subst hcut
    obtain ⟨wA, rfl⟩ : ∃ x : World, x = wc := ⟨wc, rfl⟩
    have HNW : Hid (∀ j u, ([.bool true] : List Value)[j]? = some u → (wA.alloc (.cells #[.bool true] 4)).cell? ⟨wA.heap.size, j, none⟩ = some u) := new_one (Box.new wA _ _)
    have HON : Hid (∀ u ∈ ([.bool true] : List Value), u.oneCell' = true) := by intro u hu; simp at hu; subst hu; rfl
    have HSA : Hid ((wA.alloc (.cells #[.bool true] 4)).heap.size = wA.heap.size + 1) := by unfold Hid; simp
    go_upto_region 7 with (at_builtin; refine app_full elem_bool _ (by rfl) _ _ (by rfl) none 0 [] (by rfl) rfl (fun j u hu => by simp at hu) (fun _ => rfl) (fun p hp => by simp at hp) wA.heap.size 1 1 [.bool true] (by rfl) rfl HNW.out HON.out (by omega) (by omega) (by omega) (wA.heap.size + 1) HSA.out ?_; intro cap1 w1 hown1 hb1 hlt1)
    have HO1 : Hid (Mk 4 1 w1 w.heap.size w1.heap.size (.slice (some ⟨wA.heap.size + 1, 0, none⟩) (0 + 1) cap1) [.bool true]) := by
      have h := Mk.owns (T := 4) (sz := 1) (lo := wA.heap.size + 1) (hi := w1.heap.size) (n := 0 + 1) (xs := [.bool true]) (by rw [repl_one]; exact hown1) rfl (Nat.le_refl _)
      exact h.wide (by have := HB0.out.size; omega) (Nat.le_refl _)
    have HB1 : Hid (Below (wA.heap.size + 1) (wA.alloc (.cells #[.bool true] 4)) w1) := hb1
    have HBA1 : Hid (Below w.heap.size w w1) := (HB0.out.alloc HB0.out.size _).trans (hb1.mono (by have := HB0.out.size; omega))
    have HX1 : Hid (Box w1 w.heap.size #[.slice none 0 0, .slice none 0 0, .slice none 0 0, .slice none 0 0, .int .i64 0] 120) := (HX0.out.alloc _).below hb1 (by have := HS0.out; omega)
    have HS1 : Hid (wA.heap.size + 1 < w1.heap.size) := hlt1
    clear hown1 hb1 hlt1 HNW HSA HB1
    have HNW : Hid (∀ j u, ([.bool true, .bool true] : List Value)[j]? = some u → (w1.alloc (.cells #[.bool true, .bool true] 4)).cell? ⟨w1.heap.size, j, none⟩ = some u) := new_two (Box.new w1 _ _)
    have HON2 : Hid (∀ u ∈ ([.bool true, .bool true] : List Value), u.oneCell' = true) := by intro u hu; simp at hu; subst hu; rfl
    have HSA : Hid ((w1.alloc (.cells #[.bool true, .bool true] 4)).heap.size = w1.heap.size + 1) := by unfold Hid; simp
    go_upto_region 8 with (at_builtin; refine app_full elem_bool _ (by rfl) _ _ (by rfl) none 0 [] (by rfl) rfl (fun j u hu => by simp at hu) (fun _ => rfl) (fun p hp => by simp at hp) w1.heap.size 2 2 [.bool true, .bool true] (by rfl) rfl HNW.out HON2.out (by omega) (by omega) (by omega) (w1.heap.size + 1) HSA.out ?_; intro cap2 w2 hown2 hb2 hlt2)
    have HBB : Hid (Below w1.heap.size w1 w2) := ((Below.refl _ _).alloc (Nat.le_refl _) _).trans (hb2.mono (by omega))
    have HO2 : Hid (Mk 4 1 w2 w.heap.size w2.heap.size (.slice (some ⟨w1.heap.size + 1, 0, none⟩) (0 + 2) cap2) [.bool true]) := by
      have h := Mk.owns (T := 4) (sz := 1) (lo := w1.heap.size + 1) (hi := w2.heap.size) (n := 0 + 2) (xs := [.bool true]) (by rw [show repl (0 + 2) [.bool true] = [] ++ [.bool true, .bool true] from rfl]; exact hown2) rfl (Nat.le_refl _)
      exact h.wide (by have := HBA1.out.size; omega) (Nat.le_refl _)
    have HO12 : Hid (Mk 4 1 w2 w.heap.size w2.heap.size (.slice (some ⟨wA.heap.size + 1, 0, none⟩) (0 + 1) cap1) [.bool true]) := (HO1.out.call HBB.out).wide (Nat.le_refl _) HBB.out.size
    have HBA2 : Hid (Below w.heap.size w w2) := HBA1.out.trans (HBB.out.mono HBA1.out.size)
    have HX2 : Hid (Box w2 w.heap.size #[.slice none 0 0, .slice none 0 0, .slice none 0 0, .slice none 0 0, .int .i64 0] 120) := HX1.out.call HBB.out
    clear hown2 hb2 hlt2 HNW HSA HO1 HX1 HBA1
    go_wp2_with fail
    go_loopw [9, 10] (fun v i W => ∃ k : Nat, k ≤ 64 ∧ i = .int .i64 k ∧ W.ownsRow w2.heap.size 4 1 v k (repl k [.bool true]) ∧ Below w2.heap.size w2 W) (fun _ i _ => 64 - (intOf i).toNat)
    case atStart => exact ⟨0, by omega, rfl, World.ownsRow_nil _ _ _ _, Below.refl _ _⟩
    case round =>
      obtain ⟨k, hk, rfl, hown, hB⟩ := hrel
      have HO : Hid (wr.ownsRow w2.heap.size 4 1 u9 k (repl k [.bool true])) := hown
      have HB : Hid (Below w2.heap.size w2 wr) := hB
      clear hown hB
      by_cases hlt : k < 64
      · have hi1 : (k : Int) < 64 := by omega
        have HOG : Hid ((wr.alloc (.cells #[.bool true] 4)).ownsRow w2.heap.size 4 1 u9 k (repl k [.bool true])) := HO.out.alloc _
        have HNW : Hid (∀ j u, ([.bool true] : List Value)[j]? = some u → (wr.alloc (.cells #[.bool true] 4)).cell? ⟨wr.heap.size, j, none⟩ = some u) := new_one (Box.new wr _ _)
        have HSA : Hid ((wr.alloc (.cells #[.bool true] 4)).heap.size = wr.heap.size + 1) := by unfold Hid; simp
        have HSB : Hid (w2.heap.size ≤ (wr.alloc (.cells #[.bool true] 4)).heap.size) := by have := HB.out.size; unfold Hid; simp; omega
        go_wp2_with (at_builtin; refine app_one elem_bool _ (by rfl) _ _ (by rfl) w2.heap.size u9 k (repl k [.bool true]) (by rfl) HOG.out wr.heap.size 1 1 [.bool true] (by rfl) rfl HNW.out HON.out (by omega) (by omega) (by omega) HSB.out (wr.heap.size + 1) HSA.out ?_; intro g3 cap3 w3 hown3 hg3 hat3 hlt3)
        have HO3 : Hid (w3.ownsRow w2.heap.size 4 1 (.slice (some ⟨g3, 0, none⟩) (k + 1) cap3) (k + 1) (repl (k + 1) [.bool true])) := by unfold Hid; rw [repl_succ]; exact hown3
        have HB3 : Hid (Below w2.heap.size w2 w3) := (HB.out.alloc HB.out.size _).grown hg3 HSB.out (fun g hg => (HO.out.lt g hg).1)
        clear hown3 hg3 hat3 hlt3
        go_roundw
        case rel => exact ⟨k + 1, by omega, by go_num, HO3.out, HB3.out⟩
        case measure => simp [intOf]; omega
      · have hk64 : k = 64 := by omega
        subst hk64
        obtain ⟨a9, c9, rfl⟩ := owns_shape HO.out
        have HX3 : Hid (Box wr w.heap.size #[.slice none 0 0, .slice none 0 0, .slice none 0 0, .slice none 0 0, .int .i64 0] 120) := HX2.out.call HB.out
        obtain ⟨hcr, hfr, hlr⟩ := HX3.out.all
        have HBW : Hid (Below w.heap.size w wr) := HBA2.out.trans (HB.out.mono HBA2.out.size)
        have HM1 : Hid (∀ W, Only (fun b => b = w.heap.size) wr W → Mk 4 1 W w.heap.size W.heap.size (.slice (some ⟨wA.heap.size + 1, 0, none⟩) (0 + 1) cap1) [.bool true] ∧ Mk 4 1 W w.heap.size W.heap.size (.slice (some ⟨w1.heap.size + 1, 0, none⟩) (0 + 2) cap2) [.bool true] ∧ Mk 4 1 W w.heap.size W.heap.size (.slice a9 64 c9) [.bool true]) := fun W hW => by
          have hne : ∀ {v : Value} {lo : Nat}, Mk 4 1 wr lo wr.heap.size v [.bool true] → w.heap.size ≤ lo → Mk 4 1 W w.heap.size W.heap.size v [.bool true] := by
            intro v lo hM hlo
            rcases hM with h | ⟨g, n, cap, cur, hv, g1, g2, hb, rest⟩
            · exact .inl h
            · exact .inr ⟨g, n, cap, cur, hv, by omega, Nat.lt_of_lt_of_le g2 hW.size, hb.only hW (fun e => (hb.ne HX3.out (by decide)) e), rest⟩
          exact ⟨hne ((HO12.out.call HB.out).wide (Nat.le_refl _) HB.out.size) (Nat.le_refl _), hne ((HO2.out.call HB.out).wide (Nat.le_refl _) HB.out.size) (Nat.le_refl _), hne (Mk.owns HO.out rfl (Nat.le_refl _)) HBA2.out.size⟩
        go_wp2_with fail
        refine bodyPost_ret (v := .agg #[.slice none 0 0, .slice (some ⟨wA.heap.size + 1, 0, none⟩) (0 + 1) cap1, .slice (some ⟨w1.heap.size + 1, 0, none⟩) (0 + 2) cap2, .slice a9 64 c9, .int .i64 0]) (by simp [results, Tryz.results61, go_sem, hcr]) rfl ?_
        have hO := (((((Only.refl (fun b => b = w.heap.size) wr).setCell (p := ⟨w.heap.size, 0, none⟩) rfl (.slice none 0 0)).setCell (p := ⟨w.heap.size, 1, none⟩) rfl (.slice (some ⟨wA.heap.size + 1, 0, none⟩) (0 + 1) cap1)).setCell (p := ⟨w.heap.size, 2, none⟩) rfl (.slice (some ⟨w1.heap.size + 1, 0, none⟩) (0 + 2) cap2)).setCell (p := ⟨w.heap.size, 3, none⟩) rfl (.slice a9 64 c9)).setCell (p := ⟨w.heap.size, 4, none⟩) rfl (.int .i64 0)
        obtain ⟨m1, m2, m3⟩ := HM1.out _ hO
        exact ⟨_, _, _, rfl, m1, m2, m3, HBW.out.trans (hO.toBelow HBW.out.size (fun b hb => by subst hb; exact Nat.le_refl _))⟩

set_option maxRecDepth 20000 in
set_option maxHeartbeats 4000000 in
theorem ownFlags_nil1 (w : World) :
    Calls Tryz.prog 61 #[.slice none 0 0, .int .i64 1] w fun e w' => ∃ v1 v2 v3, e = .returned (.agg #[.slice none 0 0, v1, v2, v3, .int .i64 1]) ∧ Mk 4 1 w' w.heap.size w'.heap.size v1 [.bool false] ∧ Mk 4 1 w' w.heap.size w'.heap.size v2 [.bool false] ∧ Mk 4 1 w' w.heap.size w'.heap.size v3 [.bool false] ∧ Below w.heap.size w w' := by
  have hb0 : Below w.heap.size w (w.alloc (.cells #[.slice none 0 0, .slice none 0 0, .slice none 0 0, .slice none 0 0, .int .i64 0] 120)) := (Below.refl _ _).alloc (Nat.le_refl _) _
  have HB0 : Hid _ := hb0
  have HX0 : Hid (Box (w.alloc (.cells #[.slice none 0 0, .slice none 0 0, .slice none 0 0, .slice none 0 0, .int .i64 0] 120)) w.heap.size #[.slice none 0 0, .slice none 0 0, .slice none 0 0, .slice none 0 0, .int .i64 0] 120) := Box.new _ _ _
  have HS0 : Hid (w.heap.size + 1 ≤ (w.alloc (.cells #[.slice none 0 0, .slice none 0 0, .slice none 0 0, .slice none 0 0, .int .i64 0] 120)).heap.size) := by unfold Hid; simp
  clear hb0
  go_enter Tryz.func61, Tryz.ntmps61
  go_upto_region 1 with fail
  generalize w.alloc (.cells #[.slice none 0 0, .slice none 0 0, .slice none 0 0, .slice none 0 0, .int .i64 0] 120) = wA at *
  go_upto_block 0 with fail
  go_cut [] (fun W => W = wA)
  case first =>
    go_wp2_with fail
    go_loopw [6] (fun i W => i = .int .i64 0 ∧ W = wA) (fun _ _ => 0)
    case atStart => exact ⟨rfl, rfl⟩
    case round =>
      obtain ⟨rfl, rfl⟩ := hrel
      go_wp2_with fail
      go_meet
      case rel => first | rfl | trivial
  case rest =>
    subst hcut
    obtain ⟨wA, rfl⟩ : ∃ x : World, x = wc := ⟨wc, rfl⟩
    have HNW : Hid (∀ j u, ([.bool false] : List Value)[j]? = some u → (wA.alloc (.cells #[.bool false] 4)).cell? ⟨wA.heap.size, j, none⟩ = some u) := new_one (Box.new wA _ _)
    have HON : Hid (∀ u ∈ ([.bool false] : List Value), u.oneCell' = true) := by intro u hu; simp at hu; subst hu; rfl
    have HSA : Hid ((wA.alloc (.cells #[.bool false] 4)).heap.size = wA.heap.size + 1) := by unfold Hid; simp
    go_upto_region 7 with (at_builtin; refine app_full elem_bool _ (by rfl) _ _ (by rfl) none 0 [] (by rfl) rfl (fun j u hu => by simp at hu) (fun _ => rfl) (fun p hp => by simp at hp) wA.heap.size 1 1 [.bool false] (by rfl) rfl HNW.out HON.out (by omega) (by omega) (by omega) (wA.heap.size + 1) HSA.out ?_; intro cap1 w1 hown1 hb1 hlt1)
    have HO1 : Hid (Mk 4 1 w1 w.heap.size w1.heap.size (.slice (some ⟨wA.heap.size + 1, 0, none⟩) (0 + 1) cap1) [.bool false]) := by
      have h := Mk.owns (T := 4) (sz := 1) (lo := wA.heap.size + 1) (hi := w1.heap.size) (n := 0 + 1) (xs := [.bool false]) (by rw [repl_one]; exact hown1) rfl (Nat.le_refl _)
      exact h.wide (by have := HB0.out.size; omega) (Nat.le_refl _)
    have HB1 : Hid (Below (wA.heap.size + 1) (wA.alloc (.cells #[.bool false] 4)) w1) := hb1
    have HBA1 : Hid (Below w.heap.size w w1) := (HB0.out.alloc HB0.out.size _).trans (hb1.mono (by have := HB0.out.size; omega))
    have HX1 : Hid (Box w1 w.heap.size #[.slice none 0 0, .slice none 0 0, .slice none 0 0, .slice none 0 0, .int .i64 0] 120) := (HX0.out.alloc _).below hb1 (by have := HS0.out; omega)
    have HS1 : Hid (wA.heap.size + 1 < w1.heap.size) := hlt1
    clear hown1 hb1 hlt1 HNW HSA HB1
    have HNW : Hid (∀ j u, ([.bool false, .bool false] : List Value)[j]? = some u → (w1.alloc (.cells #[.bool false, .bool false] 4)).cell? ⟨w1.heap.size, j, none⟩ = some u) := new_two (Box.new w1 _ _)
    have HON2 : Hid (∀ u ∈ ([.bool false, .bool false] : List Value), u.oneCell' = true) := by intro u hu; simp at hu; subst hu; rfl
    have HSA : Hid ((w1.alloc (.cells #[.bool false, .bool false] 4)).heap.size = w1.heap.size + 1) := by unfold Hid; simp
    go_upto_region 8 with (at_builtin; refine app_full elem_bool _ (by rfl) _ _ (by rfl) none 0 [] (by rfl) rfl (fun j u hu => by simp at hu) (fun _ => rfl) (fun p hp => by simp at hp) w1.heap.size 2 2 [.bool false, .bool false] (by rfl) rfl HNW.out HON2.out (by omega) (by omega) (by omega) (w1.heap.size + 1) HSA.out ?_; intro cap2 w2 hown2 hb2 hlt2)
    have HBB : Hid (Below w1.heap.size w1 w2) := ((Below.refl _ _).alloc (Nat.le_refl _) _).trans (hb2.mono (by omega))
    have HO2 : Hid (Mk 4 1 w2 w.heap.size w2.heap.size (.slice (some ⟨w1.heap.size + 1, 0, none⟩) (0 + 2) cap2) [.bool false]) := by
      have h := Mk.owns (T := 4) (sz := 1) (lo := w1.heap.size + 1) (hi := w2.heap.size) (n := 0 + 2) (xs := [.bool false]) (by rw [show repl (0 + 2) [.bool false] = [] ++ [.bool false, .bool false] from rfl]; exact hown2) rfl (Nat.le_refl _)
      exact h.wide (by have := HBA1.out.size; omega) (Nat.le_refl _)
    have HO12 : Hid (Mk 4 1 w2 w.heap.size w2.heap.size (.slice (some ⟨wA.heap.size + 1, 0, none⟩) (0 + 1) cap1) [.bool false]) := (HO1.out.call HBB.out).wide (Nat.le_refl _) HBB.out.size
    have HBA2 : Hid (Below w.heap.size w w2) := HBA1.out.trans (HBB.out.mono HBA1.out.size)
    have HX2 : Hid (Box w2 w.heap.size #[.slice none 0 0, .slice none 0 0, .slice none 0 0, .slice none 0 0, .int .i64 0] 120) := HX1.out.call HBB.out
    clear hown2 hb2 hlt2 HNW HSA HO1 HX1 HBA1
    go_wp2_with fail
    go_loopw [9, 10] (fun v i W => ∃ k : Nat, k ≤ 64 ∧ i = .int .i64 k ∧ W.ownsRow w2.heap.size 4 1 v k (repl k [.bool false]) ∧ Below w2.heap.size w2 W) (fun _ i _ => 64 - (intOf i).toNat)
    case atStart => exact ⟨0, by omega, rfl, World.ownsRow_nil _ _ _ _, Below.refl _ _⟩
    case round =>
      obtain ⟨k, hk, rfl, hown, hB⟩ := hrel
      have HO : Hid (wr.ownsRow w2.heap.size 4 1 u9 k (repl k [.bool false])) := hown
      have HB : Hid (Below w2.heap.size w2 wr) := hB
      clear hown hB
      by_cases hlt : k < 64
      · have hi1 : (k : Int) < 64 := by omega
        have HOG : Hid ((wr.alloc (.cells #[.bool false] 4)).ownsRow w2.heap.size 4 1 u9 k (repl k [.bool false])) := HO.out.alloc _
        have HNW : Hid (∀ j u, ([.bool false] : List Value)[j]? = some u → (wr.alloc (.cells #[.bool false] 4)).cell? ⟨wr.heap.size, j, none⟩ = some u) := new_one (Box.new wr _ _)
        have HSA : Hid ((wr.alloc (.cells #[.bool false] 4)).heap.size = wr.heap.size + 1) := by unfold Hid; simp
        have HSB : Hid (w2.heap.size ≤ (wr.alloc (.cells #[.bool false] 4)).heap.size) := by have := HB.out.size; unfold Hid; simp; omega
        go_wp2_with (at_builtin; refine app_one elem_bool _ (by rfl) _ _ (by rfl) w2.heap.size u9 k (repl k [.bool false]) (by rfl) HOG.out wr.heap.size 1 1 [.bool false] (by rfl) rfl HNW.out HON.out (by omega) (by omega) (by omega) HSB.out (wr.heap.size + 1) HSA.out ?_; intro g3 cap3 w3 hown3 hg3 hat3 hlt3)
        have HO3 : Hid (w3.ownsRow w2.heap.size 4 1 (.slice (some ⟨g3, 0, none⟩) (k + 1) cap3) (k + 1) (repl (k + 1) [.bool false])) := by unfold Hid; rw [repl_succ]; exact hown3
        have HB3 : Hid (Below w2.heap.size w2 w3) := (HB.out.alloc HB.out.size _).grown hg3 HSB.out (fun g hg => (HO.out.lt g hg).1)
        clear hown3 hg3 hat3 hlt3
        go_roundw
        case rel => exact ⟨k + 1, by omega, by go_num, HO3.out, HB3.out⟩
        case measure => simp [intOf]; omega
      · have hk64 : k = 64 := by omega
        subst hk64
        obtain ⟨a9, c9, rfl⟩ := owns_shape HO.out
        have HX3 : Hid (Box wr w.heap.size #[.slice none 0 0, .slice none 0 0, .slice none 0 0, .slice none 0 0, .int .i64 0] 120) := HX2.out.call HB.out
        obtain ⟨hcr, hfr, hlr⟩ := HX3.out.all
        have HBW : Hid (Below w.heap.size w wr) := HBA2.out.trans (HB.out.mono HBA2.out.size)
        have HM1 : Hid (∀ W, Only (fun b => b = w.heap.size) wr W → Mk 4 1 W w.heap.size W.heap.size (.slice (some ⟨wA.heap.size + 1, 0, none⟩) (0 + 1) cap1) [.bool false] ∧ Mk 4 1 W w.heap.size W.heap.size (.slice (some ⟨w1.heap.size + 1, 0, none⟩) (0 + 2) cap2) [.bool false] ∧ Mk 4 1 W w.heap.size W.heap.size (.slice a9 64 c9) [.bool false]) := fun W hW => by
          have hne : ∀ {v : Value} {lo : Nat}, Mk 4 1 wr lo wr.heap.size v [.bool false] → w.heap.size ≤ lo → Mk 4 1 W w.heap.size W.heap.size v [.bool false] := by
            intro v lo hM hlo
            rcases hM with h | ⟨g, n, cap, cur, hv, g1, g2, hb, rest⟩
            · exact .inl h
            · exact .inr ⟨g, n, cap, cur, hv, by omega, Nat.lt_of_lt_of_le g2 hW.size, hb.only hW (fun e => (hb.ne HX3.out (by decide)) e), rest⟩
          exact ⟨hne ((HO12.out.call HB.out).wide (Nat.le_refl _) HB.out.size) (Nat.le_refl _), hne ((HO2.out.call HB.out).wide (Nat.le_refl _) HB.out.size) (Nat.le_refl _), hne (Mk.owns HO.out rfl (Nat.le_refl _)) HBA2.out.size⟩
        go_wp2_with fail
        refine bodyPost_ret (v := .agg #[.slice none 0 0, .slice (some ⟨wA.heap.size + 1, 0, none⟩) (0 + 1) cap1, .slice (some ⟨w1.heap.size + 1, 0, none⟩) (0 + 2) cap2, .slice a9 64 c9, .int .i64 1]) (by simp [results, Tryz.results61, go_sem, hcr]) rfl ?_
        have hO := (((((Only.refl (fun b => b = w.heap.size) wr).setCell (p := ⟨w.heap.size, 0, none⟩) rfl (.slice none 0 0)).setCell (p := ⟨w.heap.size, 1, none⟩) rfl (.slice (some ⟨wA.heap.size + 1, 0, none⟩) (0 + 1) cap1)).setCell (p := ⟨w.heap.size, 2, none⟩) rfl (.slice (some ⟨w1.heap.size + 1, 0, none⟩) (0 + 2) cap2)).setCell (p := ⟨w.heap.size, 3, none⟩) rfl (.slice a9 64 c9)).setCell (p := ⟨w.heap.size, 4, none⟩) rfl (.int .i64 1)
        obtain ⟨m1, m2, m3⟩ := HM1.out _ hO
        exact ⟨_, _, _, rfl, m1, m2, m3, HBW.out.trans (hO.toBelow HBW.out.size (fun b hb => by subst hb; exact Nat.le_refl _))⟩

theorem ownFlags_nil (mark : Nat) (hm : mark ≤ 1) (w : World) :
    Calls Tryz.prog 61 #[.slice none 0 0, .int .i64 mark] w fun e w' => ∃ v1 v2 v3, e = .returned (.agg #[.slice none 0 0, v1, v2, v3, .int .i64 mark]) ∧ Mk 4 1 w' w.heap.size w'.heap.size v1 [.bool (decide (mark = 0))] ∧ Mk 4 1 w' w.heap.size w'.heap.size v2 [.bool (decide (mark = 0))] ∧ Mk 4 1 w' w.heap.size w'.heap.size v3 [.bool (decide (mark = 0))] ∧ Below w.heap.size w w' := by
  rcases Nat.le_one_iff_eq_zero_or_eq_one.1 hm with rfl | rfl
  · exact ownFlags_nil0 w
  · exact ownFlags_nil1 w

set_option maxRecDepth 20000 in
set_option maxHeartbeats 4000000 in
theorem ownWords_nil (mark : Nat) (hm : mark ≤ 1000000000000) (w : World) (B : Nat) (hTB : B ≤ w.heap.size) (hT : TabB B w) :
    Calls Tryz.prog 60 #[.slice none 0 0, .int .i64 mark] w fun e w' => ∃ v1 v2 v3, e = .returned (.agg #[.slice none 0 0, v1, v2, v3, .int .i64 mark]) ∧ Mk 9 1 w' w.heap.size w'.heap.size v1 [.string (labelOf mark)] ∧ Mk 9 1 w' w.heap.size w'.heap.size v2 [.string (labelOf mark)] ∧ Mk 9 1 w' w.heap.size w'.heap.size v3 [.string (labelOf mark)] ∧ Below w.heap.size w w' := by
  have HT : Hid (TabB B w) := hT
  clear hT
  have hb0 : Below w.heap.size w (w.alloc (.cells #[.slice none 0 0, .slice none 0 0, .slice none 0 0, .slice none 0 0, .int .i64 0] 76)) := (Below.refl _ _).alloc (Nat.le_refl _) _
  have HB0 : Hid _ := hb0
  have HX0 : Hid (Box (w.alloc (.cells #[.slice none 0 0, .slice none 0 0, .slice none 0 0, .slice none 0 0, .int .i64 0] 76)) w.heap.size #[.slice none 0 0, .slice none 0 0, .slice none 0 0, .slice none 0 0, .int .i64 0] 76) := Box.new _ _ _
  have HS0 : Hid (w.heap.size + 1 ≤ (w.alloc (.cells #[.slice none 0 0, .slice none 0 0, .slice none 0 0, .slice none 0 0, .int .i64 0] 76)).heap.size) := by unfold Hid; simp
  clear hb0
  go_enter Tryz.func60, Tryz.ntmps60
  go_upto_region 1 with fail
  generalize w.alloc (.cells #[.slice none 0 0, .slice none 0 0, .slice none 0 0, .slice none 0 0, .int .i64 0] 76) = wA at *
  go_wp2_with fail
  refine (label_any mark (by omega) (by omega) _ (HT.out.on (HB0.out.mono hTB)).here).mono ?_
  rintro e wL ⟨rfl, hbL⟩
  have HBL : Hid (Below w.heap.size w wL) := Below.step hbL HB0.out HB0.out.size
  have HXL : Hid (Box wL w.heap.size #[.slice none 0 0, .slice none 0 0, .slice none 0 0, .slice none 0 0, .int .i64 0] 76) := HX0.out.call hbL
  have HSL : Hid (w.heap.size + 1 ≤ wL.heap.size) := Nat.le_trans HS0.out hbL.size
  clear hbL HB0 HX0 HS0
  have HB0 := HBL
  have HX0 := HXL
  have HS0 := HSL
  clear HBL HXL HSL
  clear wA
  obtain ⟨wA, rfl⟩ : ∃ x : World, x = wL := ⟨wL, rfl⟩
  go_upto_block 0 with fail
  go_cut [] (fun W => W = wA)
  case first =>
    go_wp2_with fail
    go_loopw [6] (fun i W => i = .int .i64 0 ∧ W = wA) (fun _ _ => 0)
    case atStart => exact ⟨rfl, rfl⟩
    case round =>
      obtain ⟨rfl, rfl⟩ := hrel
      go_wp2_with fail
      go_meet
      case rel => first | rfl | trivial
  case rest =>
    subst hcut
    obtain ⟨wA, rfl⟩ : ∃ x : World, x = wc := ⟨wc, rfl⟩
    have HNW : Hid (∀ j u, ([.string (labelOf mark)] : List Value)[j]? = some u → (wA.alloc (.cells #[.string (labelOf mark)] 9)).cell? ⟨wA.heap.size, j, none⟩ = some u) := new_one (Box.new wA _ _)
    have HON : Hid (∀ u ∈ ([.string (labelOf mark)] : List Value), u.oneCell' = true) := by intro u hu; simp at hu; subst hu; rfl
    have HSA : Hid ((wA.alloc (.cells #[.string (labelOf mark)] 9)).heap.size = wA.heap.size + 1) := by unfold Hid; simp
    go_upto_region 7 with (at_builtin; refine app_full elem_str _ (by rfl) _ _ (by rfl) none 0 [] (by rfl) rfl (fun j u hu => by simp at hu) (fun _ => rfl) (fun p hp => by simp at hp) wA.heap.size 1 1 [.string (labelOf mark)] (by rfl) rfl HNW.out HON.out (by omega) (by omega) (by omega) (wA.heap.size + 1) HSA.out ?_; intro cap1 w1 hown1 hb1 hlt1)
    have HO1 : Hid (Mk 9 1 w1 w.heap.size w1.heap.size (.slice (some ⟨wA.heap.size + 1, 0, none⟩) (0 + 1) cap1) [.string (labelOf mark)]) := by
      have h := Mk.owns (T := 9) (sz := 1) (lo := wA.heap.size + 1) (hi := w1.heap.size) (n := 0 + 1) (xs := [.string (labelOf mark)]) (by rw [repl_one]; exact hown1) rfl (Nat.le_refl _)
      exact h.wide (by have := HB0.out.size; omega) (Nat.le_refl _)
    have HB1 : Hid (Below (wA.heap.size + 1) (wA.alloc (.cells #[.string (labelOf mark)] 9)) w1) := hb1
    have HBA1 : Hid (Below w.heap.size w w1) := (HB0.out.alloc HB0.out.size _).trans (hb1.mono (by have := HB0.out.size; omega))
    have HX1 : Hid (Box w1 w.heap.size #[.slice none 0 0, .slice none 0 0, .slice none 0 0, .slice none 0 0, .int .i64 0] 76) := (HX0.out.alloc _).below hb1 (by have := HS0.out; omega)
    have HS1 : Hid (wA.heap.size + 1 < w1.heap.size) := hlt1
    clear hown1 hb1 hlt1 HNW HSA HB1
    have HNW : Hid (∀ j u, ([.string (labelOf mark), .string (labelOf mark)] : List Value)[j]? = some u → (w1.alloc (.cells #[.string (labelOf mark), .string (labelOf mark)] 9)).cell? ⟨w1.heap.size, j, none⟩ = some u) := new_two (Box.new w1 _ _)
    have HON2 : Hid (∀ u ∈ ([.string (labelOf mark), .string (labelOf mark)] : List Value), u.oneCell' = true) := by intro u hu; simp at hu; subst hu; rfl
    have HSA : Hid ((w1.alloc (.cells #[.string (labelOf mark), .string (labelOf mark)] 9)).heap.size = w1.heap.size + 1) := by unfold Hid; simp
    go_upto_region 8 with (at_builtin; refine app_full elem_str _ (by rfl) _ _ (by rfl) none 0 [] (by rfl) rfl (fun j u hu => by simp at hu) (fun _ => rfl) (fun p hp => by simp at hp) w1.heap.size 2 2 [.string (labelOf mark), .string (labelOf mark)] (by rfl) rfl HNW.out HON2.out (by omega) (by omega) (by omega) (w1.heap.size + 1) HSA.out ?_; intro cap2 w2 hown2 hb2 hlt2)
    have HBB : Hid (Below w1.heap.size w1 w2) := ((Below.refl _ _).alloc (Nat.le_refl _) _).trans (hb2.mono (by omega))
    have HO2 : Hid (Mk 9 1 w2 w.heap.size w2.heap.size (.slice (some ⟨w1.heap.size + 1, 0, none⟩) (0 + 2) cap2) [.string (labelOf mark)]) := by
      have h := Mk.owns (T := 9) (sz := 1) (lo := w1.heap.size + 1) (hi := w2.heap.size) (n := 0 + 2) (xs := [.string (labelOf mark)]) (by rw [show repl (0 + 2) [.string (labelOf mark)] = [] ++ [.string (labelOf mark), .string (labelOf mark)] from rfl]; exact hown2) rfl (Nat.le_refl _)
      exact h.wide (by have := HBA1.out.size; omega) (Nat.le_refl _)
    have HO12 : Hid (Mk 9 1 w2 w.heap.size w2.heap.size (.slice (some ⟨wA.heap.size + 1, 0, none⟩) (0 + 1) cap1) [.string (labelOf mark)]) := (HO1.out.call HBB.out).wide (Nat.le_refl _) HBB.out.size
    have HBA2 : Hid (Below w.heap.size w w2) := HBA1.out.trans (HBB.out.mono HBA1.out.size)
    have HX2 : Hid (Box w2 w.heap.size #[.slice none 0 0, .slice none 0 0, .slice none 0 0, .slice none 0 0, .int .i64 0] 76) := HX1.out.call HBB.out
    clear hown2 hb2 hlt2 HNW HSA HO1 HX1 HBA1
    go_wp2_with fail
    go_loopw [9, 10] (fun v i W => ∃ k : Nat, k ≤ 64 ∧ i = .int .i64 k ∧ W.ownsRow w2.heap.size 9 1 v k (repl k [.string (labelOf mark)]) ∧ Below w2.heap.size w2 W) (fun _ i _ => 64 - (intOf i).toNat)
    case atStart => exact ⟨0, by omega, rfl, World.ownsRow_nil _ _ _ _, Below.refl _ _⟩
    case round =>
      obtain ⟨k, hk, rfl, hown, hB⟩ := hrel
      have HO : Hid (wr.ownsRow w2.heap.size 9 1 u9 k (repl k [.string (labelOf mark)])) := hown
      have HB : Hid (Below w2.heap.size w2 wr) := hB
      clear hown hB
      by_cases hlt : k < 64
      · have hi1 : (k : Int) < 64 := by omega
        have HOG : Hid ((wr.alloc (.cells #[.string (labelOf mark)] 9)).ownsRow w2.heap.size 9 1 u9 k (repl k [.string (labelOf mark)])) := HO.out.alloc _
        have HNW : Hid (∀ j u, ([.string (labelOf mark)] : List Value)[j]? = some u → (wr.alloc (.cells #[.string (labelOf mark)] 9)).cell? ⟨wr.heap.size, j, none⟩ = some u) := new_one (Box.new wr _ _)
        have HSA : Hid ((wr.alloc (.cells #[.string (labelOf mark)] 9)).heap.size = wr.heap.size + 1) := by unfold Hid; simp
        have HSB : Hid (w2.heap.size ≤ (wr.alloc (.cells #[.string (labelOf mark)] 9)).heap.size) := by have := HB.out.size; unfold Hid; simp; omega
        go_wp2_with (at_builtin; refine app_one elem_str _ (by rfl) _ _ (by rfl) w2.heap.size u9 k (repl k [.string (labelOf mark)]) (by rfl) HOG.out wr.heap.size 1 1 [.string (labelOf mark)] (by rfl) rfl HNW.out HON.out (by omega) (by omega) (by omega) HSB.out (wr.heap.size + 1) HSA.out ?_; intro g3 cap3 w3 hown3 hg3 hat3 hlt3)
        have HO3 : Hid (w3.ownsRow w2.heap.size 9 1 (.slice (some ⟨g3, 0, none⟩) (k + 1) cap3) (k + 1) (repl (k + 1) [.string (labelOf mark)])) := by unfold Hid; rw [repl_succ]; exact hown3
        have HB3 : Hid (Below w2.heap.size w2 w3) := (HB.out.alloc HB.out.size _).grown hg3 HSB.out (fun g hg => (HO.out.lt g hg).1)
        clear hown3 hg3 hat3 hlt3
        go_roundw
        case rel => exact ⟨k + 1, by omega, by go_num, HO3.out, HB3.out⟩
        case measure => simp [intOf]; omega
      · have hk64 : k = 64 := by omega
        subst hk64
        obtain ⟨a9, c9, rfl⟩ := owns_shape HO.out
        have HX3 : Hid (Box wr w.heap.size #[.slice none 0 0, .slice none 0 0, .slice none 0 0, .slice none 0 0, .int .i64 0] 76) := HX2.out.call HB.out
        obtain ⟨hcr, hfr, hlr⟩ := HX3.out.all
        have HBW : Hid (Below w.heap.size w wr) := HBA2.out.trans (HB.out.mono HBA2.out.size)
        have HM1 : Hid (∀ W, Only (fun b => b = w.heap.size) wr W → Mk 9 1 W w.heap.size W.heap.size (.slice (some ⟨wA.heap.size + 1, 0, none⟩) (0 + 1) cap1) [.string (labelOf mark)] ∧ Mk 9 1 W w.heap.size W.heap.size (.slice (some ⟨w1.heap.size + 1, 0, none⟩) (0 + 2) cap2) [.string (labelOf mark)] ∧ Mk 9 1 W w.heap.size W.heap.size (.slice a9 64 c9) [.string (labelOf mark)]) := fun W hW => by
          have hne : ∀ {v : Value} {lo : Nat}, Mk 9 1 wr lo wr.heap.size v [.string (labelOf mark)] → w.heap.size ≤ lo → Mk 9 1 W w.heap.size W.heap.size v [.string (labelOf mark)] := by
            intro v lo hM hlo
            rcases hM with h | ⟨g, n, cap, cur, hv, g1, g2, hb, rest⟩
            · exact .inl h
            · exact .inr ⟨g, n, cap, cur, hv, by omega, Nat.lt_of_lt_of_le g2 hW.size, hb.only hW (fun e => (hb.ne HX3.out (by decide)) e), rest⟩
          exact ⟨hne ((HO12.out.call HB.out).wide (Nat.le_refl _) HB.out.size) (Nat.le_refl _), hne ((HO2.out.call HB.out).wide (Nat.le_refl _) HB.out.size) (Nat.le_refl _), hne (Mk.owns HO.out rfl (Nat.le_refl _)) HBA2.out.size⟩
        go_wp2_with fail
        refine bodyPost_ret (v := .agg #[.slice none 0 0, .slice (some ⟨wA.heap.size + 1, 0, none⟩) (0 + 1) cap1, .slice (some ⟨w1.heap.size + 1, 0, none⟩) (0 + 2) cap2, .slice a9 64 c9, .int .i64 mark]) (by simp [results, Tryz.results60, go_sem, hcr]) rfl ?_
        have hO := (((((Only.refl (fun b => b = w.heap.size) wr).setCell (p := ⟨w.heap.size, 0, none⟩) rfl (.slice none 0 0)).setCell (p := ⟨w.heap.size, 1, none⟩) rfl (.slice (some ⟨wA.heap.size + 1, 0, none⟩) (0 + 1) cap1)).setCell (p := ⟨w.heap.size, 2, none⟩) rfl (.slice (some ⟨w1.heap.size + 1, 0, none⟩) (0 + 2) cap2)).setCell (p := ⟨w.heap.size, 3, none⟩) rfl (.slice a9 64 c9)).setCell (p := ⟨w.heap.size, 4, none⟩) rfl (.int .i64 mark)
        obtain ⟨m1, m2, m3⟩ := HM1.out _ hO
        exact ⟨_, _, _, rfl, m1, m2, m3, HBW.out.trans (hO.toBelow HBW.out.size (fun b hb => by subst hb; exact Nat.le_refl _))⟩

end Go.Proofs.YtekkicgbloidkaaGreatDoor
