/- A list of columns is written into the book. -/
import Derived.Test.YtekkicgbloidkaaGreatDoorRfA
import Derived.Test.YtekkicgbloidkaaGreatDoorRfQ
import Derived.Test.YtekkicgbloidkaaGreatDoorSpC
namespace Go.Proofs.YtekkicgbloidkaaGreatDoor
open Go Go.RowKit
attribute [local go_sem ↓] Go.wp_at_zero Go.wp_at_succ

set_option maxRecDepth 20000 in
set_option maxHeartbeats 16000000 in
theorem bookList_any {av av' : Nat → Prop} {B : Nat} {w : World} {bk : Nat} {vN vW vC vP vF : Value} {nN nW nC nP : Nat} {fl : List Nat} (h : Book av B w bk vN vW vC vP vF nN nW nC nP fl) (hB : B ≤ w.heap.size) (hT : TabB B w) (hnN : nN ≤ 900000000) (hnW : nW ≤ 900000000) (hnC : nC ≤ 900000000) (hnF : fl.length ≤ 900000000)
    (ao : Option Addr) (L : List (Int × Int)) (n : Nat) (hLn : L.length = n) (hn : n ≤ 1000) (lo : Nat) (hlo : lo ≤ w.heap.size) (hlB : B ≤ lo) (hf : Full 67 5 w lo ao n) (hr : RColEs w (.slice ao n n) L) (hav : ∀ b, ao = some ⟨b, 0, none⟩ → av b) (hav' : ∀ b, av' b → av b ∧ ao ≠ some ⟨b, 0, none⟩ ∧ b < w.heap.size) :
    Calls Tryz.prog 19 #[.pointer (some ⟨bk, 0, none⟩), .slice ao n n] w fun e w' => e = .returned (.tuple #[]) ∧ (∃ vN' vW' vC' vF' fl', fl'.length = fl.length + n ∧ Book av' B w' bk vN' vW' vC' vP vF' (nN + n) (nW + n) (nC + 1) nP fl') ∧ Below B w w' ∧ (∀ g cs, av' g → Box w g cs 67 → Box w' g cs 67) := by
  subst hLn
  have HR : Hid (RColEs w (.slice ao L.length L.length) L) := hr
  have HF : Hid (Full 67 5 w lo ao L.length) := hf
  have HK : Hid (Book av B w bk vN vW vC vP vF nN nW nC nP fl) := h
  have HT : Hid (TabB B w) := hT
  have HAV : Hid (∀ b, ao = some ⟨b, 0, none⟩ → av b) := hav
  have HAV' : Hid (∀ b, av' b → av b ∧ ao ≠ some ⟨b, 0, none⟩ ∧ b < w.heap.size) := hav'
  have HFX : Hid (∀ j (hj : j < L.length), ∃ g cs, ao = some ⟨g, 0, none⟩ ∧ Box w g cs 67 ∧ cs[j * 5]? = some (.int .i64 L[j].1) ∧ cs[j * 5 + 1]? = some (.int .i64 L[j].2) ∧ cs[j * 5 + 2]? = some (.slice none 0 0) ∧ cs[j * 5 + 3]? = some (.slice none 0 0) ∧ cs[j * 5 + 4]? = some (.slice none 0 0)) := fun j hj => by
    rcases HF.out with ⟨-, h0⟩ | ⟨g, cs, h1, -, hbx, -⟩
    · omega
    · obtain ⟨b, off, hab, r0, r1, r2, r3, r4⟩ := RSl.cellAt HR.out hj
      obtain ⟨a', c', hsh, hel⟩ : ∃ off', ao = some ⟨g, off', none⟩ ∧ off' = 0 ∧ True := ⟨0, h1, rfl, trivial⟩
      rw [h1] at hab
      simp only [Option.some.injEq, Addr.mk.injEq, and_true] at hab
      obtain ⟨rfl, rfl⟩ := hab
      simp only [Nat.zero_add, Nat.add_zero] at r0 r1 r2 r3 r4
      rw [hbx.rules.1] at r0 r1 r2 r3 r4
      exact ⟨g, cs, h1, hbx, r0, r1, r2, r3, r4⟩
  clear hr hf h hT hav hav'
  go_enter Tryz.func19, Tryz.ntmps19
  go_upto_block 0 with fail
  go_cut [] (fun W => (∃ vN' vW' vF' fl', fl'.length = fl.length + L.length ∧ Book av B W bk vN' vW' vC vP vF' (nN + L.length) (nW + L.length) nC nP fl') ∧ Below B w W ∧ (∀ g cs, Box w g cs 67 → Box W g cs 67))
  case first =>
    go_wp2_with fail
    go_loopw [4] (fun i W => ∃ k : Nat, k ≤ L.length ∧ i = .int .i64 k ∧ (∃ vN' vW' vF' fl', fl'.length = fl.length + k ∧ Book av B W bk vN' vW' vC vP vF' (nN + k) (nW + k) nC nP fl') ∧ Below B w W ∧ (∀ g cs, Box w g cs 67 → Box W g cs 67)) (fun i _ => L.length - (intOf i).toNat)
    case atStart => exact ⟨0, Nat.zero_le _, rfl, ⟨vN, vW, vF, fl, rfl, HK.out⟩, Below.refl _ _, fun _ _ h => h⟩
    case round =>
      obtain ⟨k, hk, rfl, ⟨vN', vW', vF', fl', hfl, hbk⟩, hBW, hsf⟩ := hrel
      have HBK : Hid (Book av B wr bk vN' vW' vC vP vF' (nN + k) (nW + k) nC nP fl') := hbk
      have HFL : Hid (fl'.length = fl.length + k) := hfl
      have HBW : Hid (Below B w wr) := hBW
      have HSF : Hid (∀ g cs, Box w g cs 67 → Box wr g cs 67) := hsf
      clear hfl hbk hBW hsf
      by_cases hlt : k < L.length
      · obtain ⟨g, cs, rfl, hbx, r0, r1, r2, r3, r4⟩ := HFX.out k hlt
        have hbr := HSF.out g cs hbx
        obtain ⟨y1, y2, y3⟩ := hbr.all
        have e0 : wr.cell? ⟨g, k * 5, none⟩ = some (.int .i64 L[k].1) := by rw [y1]; exact r0
        have e1 : wr.cell? ⟨g, k * 5 + 1, none⟩ = some (.int .i64 L[k].2) := by rw [y1]; exact r1
        have e2 : wr.cell? ⟨g, k * 5 + 2, none⟩ = some (.slice none 0 0) := by rw [y1]; exact r2
        have e3 : wr.cell? ⟨g, k * 5 + 3, none⟩ = some (.slice none 0 0) := by rw [y1]; exact r3
        have e4 : wr.cell? ⟨g, k * 5 + 4, none⟩ = some (.slice none 0 0) := by rw [y1]; exact r4
        have hi1 : (k : Int) < (L.length : Int) := by omega
        have hfl2 := HFL.out
        generalize L[k] = Xk at *
        clear y1 y2 hbr hbx r0 r1 r2 r3 r4
        go_wp2_with fail
        refine (bookColumn_any HBK.out (Nat.le_trans hB HBW.out.size) (HT.out.on HBW.out) (by omega) (by omega) (by omega) Xk.1 Xk.2).mono ?_
        rintro e w2 ⟨rfl, ⟨vN2, vW2, vF2, m, hbk2⟩, hb2, hs2⟩
        have HBK2 : Hid (Book av B w2 bk vN2 vW2 vC vP vF2 (nN + k + 1) (nW + k + 1) nC nP (fl' ++ [m])) := hbk2
        have HB2 : Hid (Below B w w2) := HBW.out.trans hb2
        have HS2 : Hid (∀ g cs, Box w g cs 67 → Box w2 g cs 67) := fun g cs h => hs2 g cs (HSF.out g cs h)
        clear hbk2 hb2 hs2 e0 e1 e2 e3 e4 y3 hfl2
        go_wp2_with fail
        go_roundw
        case rel => exact ⟨k + 1, by omega, by go_num, ⟨vN2, vW2, vF2, fl' ++ [m], by rw [List.length_append, HFL.out]; rfl, HBK2.out⟩, HB2.out, HS2.out⟩
        case measure => simp [intOf]; omega
      · have hkk : k = L.length := by omega
        subst hkk
        go_wp2_with fail
        go_meet
        case rel => exact ⟨⟨vN', vW', vF', fl', HFL.out, HBK.out⟩, HBW.out, HSF.out⟩
  case rest =>
    obtain ⟨⟨vN', vW', vF', fl', hfl, hbk⟩, hBW, hsf⟩ := hcut
    obtain ⟨wL, rfl⟩ : ∃ x : World, x = wc := ⟨wc, rfl⟩
    obtain ⟨aC, cC, hvC⟩ := hbk.cols.shape
    subst hvC
    have HBK : Hid (Book av B wL bk vN' vW' (.slice aC nC cC) vP vF' (nN + L.length) (nW + L.length) nC nP fl') := hbk
    have HFL : Hid (fl'.length = fl.length + L.length) := hfl
    have HBW : Hid (Below B w wL) := hBW
    have HSF : Hid (∀ g cs, Box w g cs 67 → Box wL g cs 67) := hsf
    have HFL2 : Hid (Full 67 5 wL lo ao L.length) := by
      rcases HF.out with h0 | ⟨g, cs, h1, h2, hbx, h4⟩
      · exact .inl h0
      · exact .inr ⟨g, cs, h1, h2, hsf g cs hbx, h4⟩
    have HLO : Hid (lo ≤ wL.heap.size) := Nat.le_trans hlo hBW.size
    clear hfl hbk hBW hsf
    obtain ⟨x1, x2, x3⟩ := HBK.out.box.all
    go_wp2_with fail
    refine (ownCols_any nC (by omega) ao L.length lo hn wL HLO.out HFL2.out).mono ?_
    rintro e w1 ⟨v1, v2, v3, rfl, m0, m1, m2, m3, ho1⟩
    obtain ⟨a1, n1, c1, rfl⟩ := m1.shape
    obtain ⟨a2, n2, c2, rfl⟩ := m2.shape
    obtain ⟨a3, n3, c3, rfl⟩ := m3.shape
    have HK1 : Hid (Book av' B w1 bk vN' vW' (.slice aC nC cC) vP vF' (nN + L.length) (nW + L.length) nC nP fl') := (HBK.out.ownCols HFL2.out ho1 HAV.out).sub (fun b hb => (HAV'.out b hb).1)
    have HMM : Hid (∀ x, x = .slice ao L.length L.length ∨ x = .slice a1 n1 c1 ∨ x = .slice a2 n2 c2 ∨ x = .slice a3 n3 c3 → Mk 67 5 w1 0 w1.heap.size x (xCol nC) ∧ ∀ (b off n c : Nat), x = .slice (some ⟨b, off, none⟩) n c → ¬ av' b) := by
      have hnew : ∀ {v : Value}, Mk 67 5 w1 wL.heap.size w1.heap.size v (xCol nC) → ∀ (b off n c : Nat), v = .slice (some ⟨b, off, none⟩) n c → ¬ av' b := by
        intro v hM b off n c e hb
        have hz := HBW.out.size
        have := (HAV'.out b hb).2.2
        rcases hM with h | ⟨g, n', cap, cur, hv, g1, -⟩
        · rw [h] at e; simp at e
        · rw [hv] at e
          simp only [Value.slice.injEq, Option.some.injEq, Addr.mk.injEq, and_true] at e
          obtain ⟨⟨rfl, -⟩, -⟩ := e
          omega
      rintro x (rfl | rfl | rfl | rfl)
      · refine ⟨m0.wide (Nat.zero_le _) (Nat.le_refl _), fun b off n c e hb => ?_⟩
        simp only [Value.slice.injEq] at e
        have h1 := (HAV'.out b hb).2.1
        rcases HF.out with ⟨h0, -⟩ | ⟨g, cs, h0, -⟩
        · rw [h0] at e; simp at e
        · rw [h0] at e h1
          simp only [Option.some.injEq, Addr.mk.injEq, and_true] at e
          obtain ⟨⟨rfl, -⟩, -⟩ := e
          exact h1 rfl
      · exact ⟨m1.wide (Nat.zero_le _) (Nat.le_refl _), hnew m1⟩
      · exact ⟨m2.wide (Nat.zero_le _) (Nat.le_refl _), hnew m2⟩
      · exact ⟨m3.wide (Nat.zero_le _) (Nat.le_refl _), hnew m3⟩
    have HB1 : Hid (Below B w w1) := HBW.out.trans (ho1.toBelow (Nat.le_trans hB HBW.out.size) (fun b hb => by
      rcases HF.out with ⟨h0, -⟩ | ⟨g, cs, h0, h2, -⟩
      · rw [h0] at hb; simp at hb
      · rw [h0] at hb
        simp only [Option.some.injEq, Addr.mk.injEq, and_true] at hb
        omega))
    have HS1 : Hid (∀ g cs, av' g → Box w g cs 67 → Box w1 g cs 67) := fun g cs hg hb => (HSF.out g cs hb).only ho1 (HAV'.out g hg).2.1
    clear m0 m1 m2 m3 ho1 x1 x2 x3
    obtain ⟨x1, x2, x3⟩ := HK1.out.box.all
    go_upto_region 5 with fail
    have hbA : Below w1.heap.size w1 (w1.alloc (.cells #[.slice ao L.length L.length, .slice a1 n1 c1, .slice a2 n2 c2, .slice a3 n3 c3, .int .i64 nC] 78)) := (Below.refl _ _).alloc (Nat.le_refl _) _
    have HKA : Hid (Book av' B (w1.alloc (.cells #[.slice ao L.length L.length, .slice a1 n1 c1, .slice a2 n2 c2, .slice a3 n3 c3, .int .i64 nC] 78)) bk vN' vW' (.slice aC nC cC) vP vF' (nN + L.length) (nW + L.length) nC nP fl') := HK1.out.call hbA
    have HXA : Hid (Box (w1.alloc (.cells #[.slice ao L.length L.length, .slice a1 n1 c1, .slice a2 n2 c2, .slice a3 n3 c3, .int .i64 nC] 78)) w1.heap.size #[.slice ao L.length L.length, .slice a1 n1 c1, .slice a2 n2 c2, .slice a3 n3 c3, .int .i64 nC] 78) := Box.new _ _ _
    have HBA : Hid (Below w1.heap.size w1 (w1.alloc (.cells #[.slice ao L.length L.length, .slice a1 n1 c1, .slice a2 n2 c2, .slice a3 n3 c3, .int .i64 nC] 78))) := hbA
    clear hbA x1 x2 x3
    generalize w1.alloc (.cells #[.slice ao L.length L.length, .slice a1 n1 c1, .slice a2 n2 c2, .slice a3 n3 c3, .int .i64 nC] 78) = wA at *
    obtain ⟨x1, x2, x3⟩ := HKA.out.box.all
    obtain ⟨y1, y2, y3⟩ := HXA.out.all
    obtain ⟨xs, hx, -⟩ := HKA.out.cols
    have hbD : Below wA.heap.size wA (wA.alloc (.cells #[.slice ao L.length L.length, .slice a1 n1 c1, .slice a2 n2 c2, .slice a3 n3 c3, .int .i64 nC] 78)).drew := ((Below.refl _ _).alloc (Nat.le_refl _) _).drew
    have HBF : Hid (Below w1.heap.size w1 (wA.alloc (.cells #[.slice ao L.length L.length, .slice a1 n1 c1, .slice a2 n2 c2, .slice a3 n3 c3, .int .i64 nC] 78)).drew) := Below.step hbD HBA.out HBA.out.size
    have HOG : Hid ((wA.alloc (.cells #[.slice ao L.length L.length, .slice a1 n1 c1, .slice a2 n2 c2, .slice a3 n3 c3, .int .i64 nC] 78)).drew.ownsRow B 78 5 (.slice aC nC cC) nC xs) := owns_call hx hbD
    have HNW : Hid (∀ j u, ([.slice ao L.length L.length, .slice a1 n1 c1, .slice a2 n2 c2, .slice a3 n3 c3, .int .i64 nC] : List Value)[j]? = some u → (wA.alloc (.cells #[.slice ao L.length L.length, .slice a1 n1 c1, .slice a2 n2 c2, .slice a3 n3 c3, .int .i64 nC] 78)).drew.cell? ⟨wA.heap.size, j, none⟩ = some u) := fun j u hu => by
      rw [(Box.new wA #[.slice ao L.length L.length, .slice a1 n1 c1, .slice a2 n2 c2, .slice a3 n3 c3, .int .i64 nC] 78).drew.rules.1 j, ← Array.getElem?_toList]; exact hu
    have HS0 : Hid ((wA.alloc (.cells #[.slice ao L.length L.length, .slice a1 n1 c1, .slice a2 n2 c2, .slice a3 n3 c3, .int .i64 nC] 78)).drew.heap.size = wA.heap.size + 1) := by unfold Hid; simp
    have HSB : Hid (B ≤ (wA.alloc (.cells #[.slice ao L.length L.length, .slice a1 n1 c1, .slice a2 n2 c2, .slice a3 n3 c3, .int .i64 nC] 78)).drew.heap.size) := Nat.le_trans (Nat.le_trans hB HB1.out.size) HBF.out.size
    have HON : Hid (∀ u ∈ ([.slice ao L.length L.length, .slice a1 n1 c1, .slice a2 n2 c2, .slice a3 n3 c3, .int .i64 nC] : List Value), u.oneCell' = true) := by intro u hu; simp at hu; rcases hu with rfl | rfl | rfl | rfl | rfl <;> rfl
    have HKD : Hid (Book av' B (wA.alloc (.cells #[.slice ao L.length L.length, .slice a1 n1 c1, .slice a2 n2 c2, .slice a3 n3 c3, .int .i64 nC] 78)).drew bk vN' vW' (.slice aC nC cC) vP vF' (nN + L.length) (nW + L.length) nC nP fl') := HKA.out.call hbD
    have HMD : Hid (∀ x, x = .slice ao L.length L.length ∨ x = .slice a1 n1 c1 ∨ x = .slice a2 n2 c2 ∨ x = .slice a3 n3 c3 → Mk 67 5 (wA.alloc (.cells #[.slice ao L.length L.length, .slice a1 n1 c1, .slice a2 n2 c2, .slice a3 n3 c3, .int .i64 nC] 78)).drew 0 (wA.alloc (.cells #[.slice ao L.length L.length, .slice a1 n1 c1, .slice a2 n2 c2, .slice a3 n3 c3, .int .i64 nC] 78)).drew.heap.size x (xCol nC) ∧ ∀ (b off n c : Nat), x = .slice (some ⟨b, off, none⟩) n c → ¬ av' b) := fun x hx => ⟨((HMM.out x hx).1.call HBF.out).wide (Nat.le_refl _) HBF.out.size, (HMM.out x hx).2⟩
    clear hx hbD
    go_region_law (refine step_app elem_cols _ (by rfl) _ _ (by rfl) B _ _ _ (by rfl) HOG.out wA.heap.size 1 1 _ (by rfl) rfl HNW.out HON.out (by omega) (by omega) (by omega) HSB.out (wA.heap.size + 1) HS0.out ?_; intro g3 cap3 w3 hown3 hg3 hat3 hlt3; obtain ⟨z1, z2, z3⟩ := (HKD.out.push_box HOG.out hg3).all)
    all_goals
      have HFF : Hid (Book _ _ _ _ _ _ _ _ _ _ _ _ _ _) := HK1.out.pushC HBF.out HMD.out HOG.out hown3 hg3
      have HBE : Hid (Below B w (w3.setCell ⟨bk, 2, none⟩ (.slice (some ⟨g3, 0, none⟩) (nC + 1) cap3))) := ((HB1.out.trans (HBF.out.mono (Nat.le_trans hB HB1.out.size))).grown hg3 HSB.out (fun g hg => (HOG.out.lt g hg).1)).setCell HKD.out.bkge _
      have HSE : Hid (∀ g cs, av' g → Box w g cs 67 → Box (w3.setCell ⟨bk, 2, none⟩ (.slice (some ⟨g3, 0, none⟩) (nC + 1) cap3)) g cs 67) := fun g' cs' hg' h => by
        have h1 := (HS1.out g' cs' hg' h).call HBF.out
        exact (h1.grown hg3 (fun g hg => by obtain ⟨cur, hcur⟩ := owns_own HOG.out hg; exact h1.ne hcur (by decide))).set_ne (h1.ne HKD.out.box (by decide)) _
      clear hown3 hg3 hat3 hlt3 z1 z2 z3
      go_wp2_with fail
      go_end0
      exact ⟨rfl, ⟨_, _, _, _, fl', HFL.out, HFF.out⟩, HBE.out, HSE.out⟩

end Go.Proofs.YtekkicgbloidkaaGreatDoor
/- What has been written over so far, of lists that were lent. Plain facts. -/
namespace Go.Proofs.YtekkicgbloidkaaGreatDoor
open Go Go.RowKit

/-- The block of the list itself, and what the first i of its things hold. -/
def Upto (ivs : List (Nat × Nat)) (g i : Nat) (b : Nat) : Prop := b = g ∨ ∃ j, ∃ h : j < ivs.length, j < i ∧ ivs[j].1 ≤ b ∧ b < ivs[j].2

theorem Upto.not {ivs : List (Nat × Nat)} {g i b : Nat} (hp : ivs.Pairwise (fun a b => a.2 ≤ b.1)) (hg : ∀ iv ∈ ivs, ¬ (iv.1 ≤ g ∧ g < iv.2)) (hi : i < ivs.length) (h1 : ivs[i].1 ≤ b) (h2 : b < ivs[i].2) : ¬ Upto ivs g i b := by
  rintro (rfl | ⟨j, hj, hji, h3, h4⟩)
  · exact hg _ (List.getElem_mem hi) ⟨h1, h2⟩
  · have := List.pairwise_iff_getElem.1 hp j i hj hi hji
    omega
theorem Upto.only {ivs : List (Nat × Nat)} {g i : Nat} {w W W' : World} (h : Only (Upto ivs g i) w W) (hi : i < ivs.length) (h' : Only (fun b => ivs[i].1 ≤ b ∧ b < ivs[i].2) W W') : Only (Upto ivs g (i + 1)) w W' := by
  refine (h.mono (fun b _ hb => ?_)).trans (h'.mono (fun b _ hb => .inr ⟨i, hi, by omega, hb.1, hb.2⟩))
  rcases hb with rfl | ⟨j, hj, hji, h3⟩
  · exact .inl rfl
  · exact .inr ⟨j, hj, by omega, h3⟩
theorem Upto.more {ivs : List (Nat × Nat)} {g i : Nat} {w W : World} (h : Only (Upto ivs g i) w W) : Only (Upto ivs g (i + 1)) w W := by
  refine h.mono (fun b _ hb => ?_)
  rcases hb with rfl | ⟨j, hj, hji, h3⟩
  · exact .inl rfl
  · exact .inr ⟨j, hj, by omega, h3⟩
theorem Upto.within {ivs : List (Nat × Nat)} {g i lo hi : Nat} {w W : World} (h : Only (Upto ivs g i) w W) (hg : lo ≤ g ∧ g < hi) (hiv : ∀ iv ∈ ivs, lo ≤ iv.1 ∧ iv.2 ≤ hi) : Only (fun b => lo ≤ b ∧ b < hi) w W := by
  refine h.mono (fun b _ hb => ?_)
  rcases hb with rfl | ⟨j, hj, hji, h3, h4⟩
  · exact hg
  · have := hiv _ (List.getElem_mem hj)
    exact ⟨by omega, by omega⟩

/-- What a lent list is, in pieces. -/
structure LParts {α : Type} (T : TypeId) (sz : Nat) (P : Nat → World → Nat → Nat → (Nat → Option Value) → α → Prop) (w : World) (lo hi : Nat) (g cap : Nat) (cur : Array Value) (l : List α) (ivs : List (Nat × Nat)) (zs : List Value) : Prop where
  glo : lo ≤ g
  ghi : g < hi
  box : Box w g cur T
  room : l.length + 1 ≤ cap
  max : cap ≤ 9223372036854775807
  size : cur.size = cap * sz
  leni : ivs.length = l.length
  pw : ivs.Pairwise (fun a b => a.2 ≤ b.1)
  iv : ∀ iv ∈ ivs, lo ≤ iv.1 ∧ iv.2 ≤ hi ∧ ¬ (iv.1 ≤ g ∧ g < iv.2)
  each : ∀ k (h : k < l.length) (h' : k < ivs.length), P k w ivs[k].1 ivs[k].2 (fun j => cur[k * sz + j]?) l[k]
  spare : ∀ j u, j < sz → zs[j]? = some u → cur[l.length * sz + j]? = some u
theorem LRow.parts {α : Type} {T : TypeId} {sz : Nat} {P : Nat → World → Nat → Nat → (Nat → Option Value) → α → Prop} (hP : Stays sz P) {w : World} {lo hi : Nat} {v : Value} {l : List α} {zs : List Value} (h : LRow T sz P w lo hi v l zs) : ∃ g cap cur ivs, v = .slice (some ⟨g, 0, none⟩) l.length cap ∧ LParts T sz P w lo hi g cap cur l ivs zs := by
  obtain ⟨g, cap, cur, xs, ivs, rfl, h1, h2, hb, h3, h4, h5, h6, hl, hi'⟩ := h
  have hlx := hl.lenx
  refine ⟨g, cap, cur, ivs, rfl, h1, h2, hb, h3, h4, h5, hl.leni, hl.pw, hi', fun k hk hk' => ?_, fun j u hj hu => ?_⟩
  · refine hP.cells _ _ _ _ _ _ _ (fun j hj => ?_) (hl.each k hk hk')
    have hlt : k * sz + j < l.length * sz := by
      have : (k + 1) * sz ≤ l.length * sz := Nat.mul_le_mul_right _ hk
      rw [Nat.add_mul] at this; omega
    have e1 : (xs ++ zs)[k * sz + j]? = xs[k * sz + j]? := List.getElem?_append_left (by omega)
    rw [← e1, ← h6, List.getElem?_take, if_pos (by rw [Nat.add_mul]; omega), Array.getElem?_toList]
  · have e1 : (xs ++ zs)[l.length * sz + j]? = zs[j]? := by
      rw [List.getElem?_append_right (by omega)]
      congr 1; omega
    rw [hu, ← h6, List.getElem?_take, if_pos (by rw [Nat.add_mul]; omega), Array.getElem?_toList] at e1
    exact e1

end Go.Proofs.YtekkicgbloidkaaGreatDoor
