/- A script is played: the walk. -/
import Derived.Test.YtekkicgbloidkaaGreatDoorPlC
namespace Go.Proofs.YtekkicgbloidkaaGreatDoor
open Go Go.RowKit

theorem kinds_at {w : World} {v : Value} (h : RInts w v [2, 1]) {k : Nat} (hk : k < 2) : ∃ b off c X, v = .slice (some ⟨b, off, none⟩) 2 c ∧ w.cell? ⟨b, off + k, none⟩ = some (.int .i64 X) ∧ (X = 1 ∨ X = 2) := by
  obtain ⟨b, o, c, hv, -, d⟩ := ints_at h (k := k) (by simpa using hk)
  refine ⟨b, o, c, _, hv, d, ?_⟩
  match k, hk with
  | 0, _ => exact .inr rfl
  | 1, _ => exact .inl rfl
theorem TabB.later {B : Nat} {w w' : World} (h : TabB B w) (hb : Below B w w') : TabB B w' := fun w2 h2 => h w2 (hb.trans h2)

set_option maxRecDepth 20000 in
set_option maxHeartbeats 16000000 in
theorem plays_any (l : List DOp) (v vk : Value) (w : World) (hs : RScript w v l) (hsm : ScriptSm l) (hk : RInts w vk [2, 1]) (hT : TabB w.heap.size w) :
    Calls Tryz.prog 4 #[v, vk, .int .i64 1, .int .i64 0] w fun e w' => e = .returned (.bool true) ∧ Below w.heap.size w w' := by
  obtain ⟨aa, ca, rfl, hla⟩ := hs.shape
  obtain ⟨ak, ck, rfl, -⟩ := hk.shape
  have HS : Hid (RScript w (.slice aa l.length ca) l) := hs
  have HK : Hid (RInts w (.slice ak 2 ck) [2, 1]) := hk
  have HT : Hid (TabB w.heap.size w) := hT
  have HM : Hid (ScriptSm l) := hsm
  have HN : Hid (Held w.heap.size (w.alloc (.cells #[.slice none 0 0, .slice none 0 0, .slice none 0 0, .slice none 0 0, .slice none 0 0] 33)) w.heap.size 0) := Held.new w
  have HB0 : Hid (Below w.heap.size w (w.alloc (.cells #[.slice none 0 0, .slice none 0 0, .slice none 0 0, .slice none 0 0, .slice none 0 0] 33))) := (Below.refl _ _).alloc (Nat.le_refl _) _
  have hlm := hsm.len
  clear hs hk hT hsm
  simp only [List.length_cons, List.length_nil, Nat.zero_add, Nat.reduceAdd] at *
  go_enter Tryz.func4, Tryz.ntmps4
  go_wp2_with fail
  generalize (w.alloc (.cells #[.slice none 0 0, .slice none 0 0, .slice none 0 0, .slice none 0 0, .slice none 0 0] 33)) = w1 at *
  go_loopw [10] (fun i W => ∃ k : Nat, k ≤ 2 ∧ i = .int .i64 k ∧ Held w.heap.size W w.heap.size (16 * k) ∧ Below w.heap.size w W) (fun i _ => 2 - (intOf i).toNat)
  case atStart => exact ⟨0, Nat.zero_le _, rfl, HN.out, HB0.out⟩
  case round =>
    obtain ⟨k, hk, rfl, hh, hB⟩ := hrel
    have HH : Hid (Held w.heap.size wr w.heap.size (16 * k)) := hh
    have HBW : Hid (Below w.heap.size w wr) := hB
    clear hh hB
    by_cases hlt : k < 2
    · obtain ⟨b1, o1, c1, X, hv1, d1, hX⟩ := kinds_at HK.out hlt
      simp only [Value.slice.injEq, true_and] at hv1
      obtain ⟨rfl, rfl⟩ := hv1
      have HX : Hid (X = 1 ∨ X = 2) := hX
      have e1 := (Keeps.of_below HBW.out) _ _ _ d1
      have hl1 := cell_lt e1
      have hi1 : (k : Int) < 2 := by omega
      clear d1 hX
      go_wp2_with fail
      refine (plain_any X wr).mono ?_
      rintro e w2 ⟨vt, vn, rfl, ht, hn, hb2⟩
      have HT2 : Hid (RTabs w2 vt plainTabs) := ht
      have HN2 : Hid (RNodes w2 vn plainNodes) := hn
      have HH2 : Hid (Held w.heap.size w2 w.heap.size (16 * k)) := HH.out.call hb2
      have HB2 : Hid (Below w.heap.size w w2) := Below.step hb2 HBW.out HBW.out.size
      clear ht hn hb2
      go_wp2_with fail
      refine (step_any HH2.out (by omega) HB2.out.size (HT.out.later HB2.out) X HX.out _ _ _ _ HT2.out HN2.out plain_tabs plain_nodes 2 1 0 1).mono ?_
      rintro e w3 ⟨rfl, hh3, hb3⟩
      have HH3 : Hid (Held w.heap.size w3 w.heap.size (16 * k + 16)) := hh3
      have HB3 : Hid (Below w.heap.size w w3) := HB2.out.trans hb3
      clear hh3 hb3
      go_wp2_with fail
      go_roundw
      case rel => exact ⟨k + 1, by omega, by go_num, HH3.out.more (by omega), HB3.out⟩
      case measure => simp [intOf]; omega
    · go_wp2_with fail
      have HH0 : Hid (Held w.heap.size wr w.heap.size 32) := HH.out.more (by omega)
      clear HH HN HB0
      go_loopw [12] (fun i W => ∃ k : Nat, k ≤ l.length ∧ i = .int .i64 k ∧ Held w.heap.size W w.heap.size (32 + 16 * k) ∧ Below w.heap.size w W) (fun i _ => l.length - (intOf i).toNat)
      case atStart => exact ⟨0, Nat.zero_le _, rfl, HH0.out, HBW.out⟩
      case round =>
        clear HH0 HBW
        obtain ⟨k, hk, rfl, hh, hB⟩ := hrel
        have HH : Hid (Held w.heap.size wr w.heap.size (32 + 16 * k)) := hh
        have HBW : Hid (Below w.heap.size w wr) := hB
        clear hh hB
        by_cases hlt : k < l.length
        · obtain ⟨b1, o1, c1, at1, ct1, an1, cn1, hv1, d0, d1, d2, d3, d4, d5, d6, htt, hnn⟩ := op_at HS.out hlt
          simp only [Value.slice.injEq, true_and] at hv1
          obtain ⟨rfl, rfl⟩ := hv1
          have HSM : Hid (OpSm l[k]) := HM.out.each _ (List.getElem_mem hlt)
          have HTT : Hid (RTabs w (.slice at1 l[k].ts.length ct1) l[k].ts) := htt
          have HNN : Hid (RNodes w (.slice an1 l[k].ns.length cn1) l[k].ns) := hnn
          clear htt hnn
          generalize l[k] = O at *
          have kp := Keeps.of_below HBW.out
          have e0 := kp _ _ _ d0
          have hl0 := cell_lt e0
          have hi1 : (k : Int) < (l.length : Int) := by omega
          go_wp2_with fail
          rename World => wo
          go_loopw [14, 13] (fun i b W => ∃ (j : Nat) (bb : Bool), j ≤ 2 ∧ i = .int .i64 j ∧ b = .bool bb ∧ (bb = true → O.kind = 1 ∨ O.kind = 2) ∧ Below wo.heap.size wo W) (fun i _ _ => 2 - (intOf i).toNat)
          case atStart => exact ⟨0, false, Nat.zero_le _, rfl, rfl, fun h => by simp at h, Below.refl _ _⟩
          case round =>
            obtain ⟨j, bb, hj, rfl, rfl, hbb, hBo⟩ := hrel
            have HBO : Hid (Below wo.heap.size wo wr) := hBo
            have HBB : Hid (bb = true → O.kind = 1 ∨ O.kind = 2) := hbb
            have HBW2 : Hid (Below w.heap.size w wr) := Below.step hBo HBW.out HBW.out.size
            have HH2 : Hid (Held w.heap.size wr w.heap.size (32 + 16 * k)) := HH.out.call hBo
            clear hbb hBo
            have kp2 := Keeps.of_below HBW2.out
            have f0 := kp2 _ _ _ d0
            have hlf := cell_lt f0
            by_cases hlj : j < 2
            · obtain ⟨b2, o2, c2, X, hv2, g1, hX⟩ := kinds_at HK.out hlj
              simp only [Value.slice.injEq, true_and] at hv2
              obtain ⟨rfl, rfl⟩ := hv2
              have HX : Hid (X = 1 ∨ X = 2) := hX
              have f1 := kp2 _ _ _ g1
              have hlg := cell_lt f1
              have hj1 : (j : Int) < 2 := by omega
              clear kp kp2 g1 hX d0 d1 d2 d3 d4 d5 d6 e0
              cases bb with
              | true =>
                go_upto_region 15 with fail
                go_quiet (fail)
                go_wp2_with fail
                go_roundw
                case rel => exact ⟨j + 1, true, by omega, by go_num, rfl, HBB.out, below_drewN HBO.out _⟩
                case measure => simp [intOf]; omega
              | false =>
                by_cases hKX : O.kind = X
                · have hd : decide (O.kind = X) = true := by simpa using hKX
                  go_upto_region 15 with fail
                  go_quiet (fail)
                  go_wp2_with fail
                  go_roundw
                  case rel => exact ⟨j + 1, true, by omega, by go_num, rfl, fun _ => by rw [hKX]; exact HX.out, below_drewN HBO.out _⟩
                  case measure => simp [intOf]; omega
                · go_upto_region 15 with fail
                  go_quiet (fail)
                  go_wp2_with fail
                  go_roundw
                  case rel => exact ⟨j + 1, false, by omega, by go_num, by simp [hKX], fun h => by simp at h, below_drewN HBO.out _⟩
                  case measure => simp [intOf]; omega
            · have f6 := kp2 _ _ _ d6
              have HSX : Hid (∀ W, Below w.heap.size w W → (W.cell? ⟨b1, o1 + k * 7, none⟩ = some (.int .i64 O.kind) ∧ W.cell? ⟨b1, o1 + k * 7 + 1, none⟩ = some (.int .i64 O.q1) ∧ W.cell? ⟨b1, o1 + k * 7 + 2, none⟩ = some (.int .i64 O.q2) ∧ W.cell? ⟨b1, o1 + k * 7 + 3, none⟩ = some (.int .i64 O.q3) ∧ W.cell? ⟨b1, o1 + k * 7 + 4, none⟩ = some (.int .i64 O.q4) ∧ W.cell? ⟨b1, o1 + k * 7 + 5, none⟩ = some (.slice at1 O.ts.length ct1) ∧ W.cell? ⟨b1, o1 + k * 7 + 6, none⟩ = some (.slice an1 O.ns.length cn1))) := fun W hW => by
                have q := Keeps.of_below hW
                exact ⟨q _ _ _ d0, q _ _ _ d1, q _ _ _ d2, q _ _ _ d3, q _ _ _ d4, q _ _ _ d5, q _ _ _ d6⟩
              clear kp kp2 d0 d1 d2 d3 d4 d5 d6 e0 HBO HBW HH
              go_wp2_with fail
              refine (has_any O.ns _ wr (RSl.mono mono_RNode (Keeps.of_below HBW2.out) HNN.out)).mono ?_
              rintro e w4 ⟨rfl, hb4⟩
              have HB4 : Hid (Below w.heap.size w w4) := Below.step hb4 HBW2.out HBW2.out.size
              have HH4 : Hid (Held w.heap.size w4 w.heap.size (32 + 16 * k)) := HH2.out.call hb4
              clear hb4 f0 f6 hlf
              cases bb with
              | false =>
                go_wp2_with fail
                go_roundw
                case rel => exact ⟨k + 1, by omega, by go_num, HH4.out.more (by omega), HB4.out⟩
                case measure => simp [intOf]; omega
              | true =>
                obtain ⟨g0, g1, g2, g3, g4, g5, g6⟩ := HSX.out _ HB4.out
                have hlg := cell_lt g0
                go_wp2_with fail
                refine (step_any HH4.out (by omega) HB4.out.size (HT.out.later HB4.out) O.kind (HBB.out (by trivial)) _ _ _ _ (RSl.mono mono_RTab (Keeps.of_below HB4.out) HTT.out) (RSl.mono mono_RNode (Keeps.of_below HB4.out) HNN.out) HSM.out.ts HSM.out.ns _ _ _ _).mono ?_
                rintro e w5 ⟨rfl, hh5, hb5⟩
                have HH5 : Hid (Held w.heap.size w5 w.heap.size (32 + 16 * k + 16)) := hh5
                have HB5 : Hid (Below w.heap.size w w5) := HB4.out.trans hb5
                clear hh5 hb5 g0 g1 g2 g3 g4 g5 g6 hlg
                go_wp2_with fail
                refine (looks_held HH5.out (by omega) HB5.out.size (HT.out.later HB5.out)).mono ?_
                rintro e w6 ⟨rfl, hh6, hb6⟩
                have HH6 : Hid (Held w.heap.size w6 w.heap.size (32 + 16 * k + 16)) := hh6
                have HB6 : Hid (Below w.heap.size w w6) := HB5.out.trans hb6
                clear hh6 hb6
                go_wp2_with fail
                go_roundw
                case rel => exact ⟨k + 1, by omega, by go_num, HH6.out.more (by omega), HB6.out⟩
                case measure => simp [intOf]; omega
        · go_wp2_with fail
          go_ret
          exact ⟨rfl, HBW.out⟩
end Go.Proofs.YtekkicgbloidkaaGreatDoor
/- The law Checks. -/
namespace Go.Proofs.YtekkicgbloidkaaGreatDoor
open Go Go.RowKit

set_option maxRecDepth 20000 in
set_option maxHeartbeats 4000000 in
theorem checks_any (l : List DOp) (v : Value) (w : World) (hs : RScript w v l) (hsm : ScriptSm l) (hT : TabB w.heap.size w) :
    Calls Tryz.prog 3 #[v] w fun e w' => e = .returned (.bool true) ∧ Below w.heap.size w w' := by
  obtain ⟨aa, ca, rfl, hla⟩ := hs.shape
  have HS : Hid (RScript w (.slice aa l.length ca) l) := hs
  have HT : Hid (TabB w.heap.size w) := hT
  have HM : Hid (ScriptSm l) := hsm
  have HB0 : Hid (Below w.heap.size w (w.alloc (.cells #[.int .i64 2, .int .i64 1] 3))) := (Below.refl _ _).alloc (Nat.le_refl _) _
  have HK : Hid (RInts (w.alloc (.cells #[.int .i64 2, .int .i64 1] 3)) (.slice (some ⟨w.heap.size, 0, none⟩) 2 2) [2, 1]) := by
    refine ⟨_, _, rfl, by simp, fun i hi => ⟨_, _, rfl, ?_⟩⟩
    have : i = 0 ∨ i = 1 := by simp at hi; omega
    rcases this with rfl | rfl <;> simp [RI64, go_sem]
  have HZ : Hid (w.heap.size ≤ (w.alloc (.cells #[.int .i64 2, .int .i64 1] 3)).heap.size) := HB0.out.size
  clear hs hsm hT
  go_enter Tryz.func3, Tryz.ntmps3
  go_wp2_with fail
  generalize (w.alloc (.cells #[.int .i64 2, .int .i64 1] 3)) = w1 at *
  refine (plays_any l _ _ w1 (RSl.mono mono_ROp (Keeps.of_below HB0.out) HS.out) HM.out HK.out (fun w2 h2 => HT.out w2 (HB0.out.trans (h2.mono HZ.out)))).mono ?_
  rintro e w2 ⟨rfl, hb2⟩
  have HB2 : Hid (Below w.heap.size w w2) := Below.step hb2 HB0.out HZ.out
  clear hb2
  go_wp2_with fail
  go_ret
  exact ⟨rfl, HB2.out⟩
end Go.Proofs.YtekkicgbloidkaaGreatDoor
