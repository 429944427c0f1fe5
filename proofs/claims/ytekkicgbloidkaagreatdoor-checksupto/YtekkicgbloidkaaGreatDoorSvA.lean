/- The tables that are lent. -/
import Derived.Test.YtekkicgbloidkaaGreatDoorLRow
import Derived.Deep.Light
import Derived.Test.YtekkicgbloidkaaGreatDoorProg
import Derived.Test.YtekkicgbloidkaaGreatDoorGrow
import Derived.Deep.QuietTactic
import Derived.BigQuiet
namespace Go.Proofs.YtekkicgbloidkaaGreatDoor
open Go Go.RowKit
attribute [local go_sem] run_eql_slice_nil

theorem tab_at {w : World} {v : Value} {ts : List (List DCol)} (h : RTabs w v ts) {k : Nat} (hk : k < ts.length) :
    ∃ b off cap a c, v = .slice (some ⟨b, off, none⟩) ts.length cap ∧ b < w.heap.size ∧ w.cell? ⟨b, off + k, none⟩ = some (.slice a ts[k].length c) ∧ RCols w (.slice a ts[k].length c) ts[k] := by
  obtain ⟨ao, cap, rfl, hl, hel⟩ := h
  obtain ⟨b, off, rfl, v, h0, hv⟩ := hel k hk
  simp only [Nat.mul_one, Nat.add_zero] at h0
  obtain ⟨a, c, rfl, -⟩ := hv.shape
  exact ⟨b, off, cap, a, c, rfl, cell_lt h0, h0, hv⟩
theorem col_at {w : World} {v : Value} {t : List DCol} (h : RCols w v t) {k : Nat} (hk : k < t.length) :
    ∃ b off cap ai ci az cz an cn, v = .slice (some ⟨b, off, none⟩) t.length cap ∧ b < w.heap.size ∧ w.cell? ⟨b, off + k * 5, none⟩ = some (.int .i64 t[k].kind) ∧ w.cell? ⟨b, off + k * 5 + 1, none⟩ = some (.int .i64 t[k].scale) ∧ w.cell? ⟨b, off + k * 5 + 2, none⟩ = some (.slice ai t[k].ints.length ci) ∧ w.cell? ⟨b, off + k * 5 + 3, none⟩ = some (.slice az t[k].strs.length cz) ∧ w.cell? ⟨b, off + k * 5 + 4, none⟩ = some (.slice an t[k].nulls.length cn) ∧ ColIs w (.slice ai t[k].ints.length ci) (.slice az t[k].strs.length cz) (.slice an t[k].nulls.length cn) t[k] := by
  obtain ⟨ao, cap, rfl, hl, hel⟩ := h
  obtain ⟨b, off, rfl, vi, vs, vn, h0, h1, h2, h3, h4, hc⟩ := hel k hk
  obtain ⟨ai, ci, az, cz, an, cn, rfl, rfl, rfl⟩ := hc.shape
  simp only [Nat.add_zero] at h0
  exact ⟨b, off, cap, ai, ci, az, cz, an, cn, rfl, cell_lt h0, h0, h1, h2, h3, h4, hc⟩

/-- Tables that were lent. -/
def LTabs (w : World) (lo hi : Nat) (v : Value) (ts : List (List DCol)) : Prop :=
  ∃ gz cz czs, LRow 57 1 PTab w lo hi v ts [.slice (some ⟨gz, 0, none⟩) 1 cz] ∧ Box w gz czs 67 ∧ czs[0]? = some (.int .i64 (-77))

theorem Lent.shape {w : World} {T : TypeId} {sz lo hi : Nat} {v0 v : Value} {n : Nat} {cells : List Value} (h : Lent w T sz lo hi v0 v n cells) : ∃ a c, v = .slice a n c := by
  rcases h with ⟨-, rfl, rfl⟩ | ⟨-, g, cap, cur, rfl, -⟩
  · exact ⟨none, 0, rfl⟩
  · exact ⟨_, _, rfl⟩
theorem Lent.set {w : World} {T : TypeId} {sz lo hi : Nat} {v0 v : Value} {n : Nat} {cells : List Value} (h : Lent w T sz lo hi v0 v n cells) {b o : Nat} (hb : b < lo) (u : Value) : Lent (w.setCell ⟨b, o, none⟩ u) T sz lo hi v0 v n cells :=
  h.only (S := fun x => x = b) ((Only.refl (fun x => x = b) w).setCell (p := ⟨b, o, none⟩) rfl u) (fun x h1 _ e => by omega)
theorem LList.grown {α : Type} {sz : Nat} {P : Nat → World → Nat → Nat → (Nat → Option Value) → α → Prop} (hP : Stays sz P) {w w' : World} {xs : List Value} {l : List α} {ivs : List (Nat × Nat)} (h : LList sz P w xs l ivs) {row : Option Nat} (hg : w.grownBy w' row) (hs : ∀ iv ∈ ivs, ∀ g, row = some g → ¬ (iv.1 ≤ g ∧ g < iv.2)) : LList sz P w' xs l ivs :=
  h.only hP (S := fun b => row = some b) ⟨hg.os, hg.tape, hg.output, hg.size, fun b hb hn => hg.block b hb (fun e => hn e.symm)⟩ (fun iv hiv b h1 h2 e => hs iv hiv b e ⟨h1, h2⟩)

set_option maxRecDepth 20000 in
set_option maxHeartbeats 8000000 in
theorem tables_any (ts : List (List DCol)) (v : Value) (w : World) (hv : RTabs w v ts) (hsm : TabsSm ts) :
    Calls Tryz.prog 9 #[v] w fun e w' => ∃ v', e = .returned v' ∧ LTabs w' w.heap.size w'.heap.size v' ts ∧ Below w.heap.size w w' := by
  obtain ⟨ao, cap, rfl, hl⟩ := hv.shape
  have HV : Hid (RTabs w (.slice ao ts.length cap) ts) := hv
  have HSM : Hid (TabsSm ts) := hsm
  have hlen : ts.length ≤ 2000000 := hsm.len
  clear hv hsm
  go_enter Tryz.func9, Tryz.ntmps9
  go_wp2
  go_loopw [3, 4] (fun o i W => ∃ (k : Nat) (xs : List Value) (ivs : List (Nat × Nat)), k ≤ ts.length ∧ i = .int .i64 k ∧ W.ownsRow w.heap.size 57 1 o k xs ∧ LList 1 PTab W xs (ts.take k) ivs ∧ (∀ iv ∈ ivs, w.heap.size ≤ iv.1 ∧ iv.2 ≤ W.heap.size ∧ ∀ g, o.ownBlock = some g → ¬ (iv.1 ≤ g ∧ g < iv.2)) ∧ Below w.heap.size w W)
    (fun _ i _ => ts.length - (intOf i).toNat)
  case atStart => exact ⟨0, [], [], Nat.zero_le _, rfl, World.ownsRow_nil _ _ _ _, LList.nil _ _ _, fun _ h => by simp at h, Below.refl _ _⟩
  case round =>
    obtain ⟨k, xs, ivs, hk, rfl, hown, hll, hiv, hB⟩ := hrel
    have HO : Hid (wr.ownsRow w.heap.size 57 1 u3 k xs) := hown
    have HL : Hid (LList 1 PTab wr xs (ts.take k) ivs) := hll
    have HI : Hid (∀ iv ∈ ivs, w.heap.size ≤ iv.1 ∧ iv.2 ≤ wr.heap.size ∧ ∀ g, u3.ownBlock = some g → ¬ (iv.1 ≤ g ∧ g < iv.2)) := hiv
    have HB : Hid (Below w.heap.size w wr) := hB
    clear hown hll hiv hB
    by_cases hlt : k < ts.length
    · obtain ⟨bt, ot, ct, ac, cc, hvt, hbt, d0, hcols⟩ := tab_at HV.out hlt
      simp only [Value.slice.injEq, true_and] at hvt
      obtain ⟨rfl, rfl⟩ := hvt
      have HC : Hid (RCols w (.slice ac ts[k].length cc) ts[k]) := hcols
      have hi1 : (k : Int) < (ts.length : Int) := by omega
      have HT : Hid (TabSm ts[k]) := HSM.out.each _ (List.getElem_mem hlt)
      have htl : ts[k].length ≤ 2000000 := HT.out.len
      generalize hTK : ts[k] = t at *
      have HTK : Hid _ := hTK
      have HSZ : Hid (w.heap.size ≤ wr.heap.size) := HB.out.size
      clear hcols hTK
      obtain ⟨w1, rfl⟩ : ∃ w1 : World, w1 = wr := ⟨wr, rfl⟩
      have e0 := (Keeps.of_below HB.out) _ _ _ d0
      have hb0 := cell_lt e0
      go_wp2_with fail
      go_loopw [5, 6] (fun c j W => ∃ (m : Nat) (ys : List Value) (jvs : List (Nat × Nat)), m ≤ t.length ∧ j = .int .i64 m ∧ W.ownsRow w1.heap.size 67 5 c m ys ∧ LList 5 PCol W ys (t.take m) jvs ∧ (∀ iv ∈ jvs, w1.heap.size ≤ iv.1 ∧ iv.2 ≤ W.heap.size ∧ ∀ g, c.ownBlock = some g → ¬ (iv.1 ≤ g ∧ g < iv.2)) ∧ Below w1.heap.size w1 W)
        (fun _ j _ => t.length - (intOf j).toNat)
      case atStart => exact ⟨0, [], [], Nat.zero_le _, rfl, World.ownsRow_nil _ _ _ _, LList.nil _ _ _, fun _ h => by simp at h, Below.refl _ _⟩
      case round =>
        obtain ⟨m, ys, jvs, hm, rfl, hown, hll, hjv, hB2⟩ := hrel
        have HO2 : Hid (wr.ownsRow w1.heap.size 67 5 u5 m ys) := hown
        have HL2 : Hid (LList 5 PCol wr ys (t.take m) jvs) := hll
        have HI2 : Hid (∀ iv ∈ jvs, w1.heap.size ≤ iv.1 ∧ iv.2 ≤ wr.heap.size ∧ ∀ g, u5.ownBlock = some g → ¬ (iv.1 ≤ g ∧ g < iv.2)) := hjv
        have HB2 : Hid (Below w1.heap.size w1 wr) := hB2
        have HSZ2 : Hid (w1.heap.size ≤ wr.heap.size) := hB2.size
        have HB3 : Hid (Below w.heap.size w wr) := HB.out.trans (hB2.mono HSZ.out)
        have kp := Keeps.of_below HB3.out
        have e1 := kp _ _ _ d0
        have hb1 := cell_lt e1
        clear hown hll hjv hB2 e0 hb0
        by_cases hlt2 : m < t.length
        · obtain ⟨bc, oc, ccp, ai, ci, az, cz, an, cn, hvc, hbc, c0, c1, c2, c3, c4, hcol⟩ := col_at HC.out hlt2
          simp only [Value.slice.injEq, true_and] at hvc
          obtain ⟨rfl, rfl⟩ := hvc
          have f0 := kp _ _ _ c0
          have f1 := kp _ _ _ c1
          have f2 := kp _ _ _ c2
          have f3 := kp _ _ _ c3
          have f4 := kp _ _ _ c4
          have hbf := cell_lt f0
          have hj1 : (m : Int) < (t.length : Int) := by omega
          have HCS : Hid (ColSm t[m]) := HT.out.each _ (List.getElem_mem hlt2)
          have HTM : Hid (t.take (m + 1) = t.take m ++ [t[m]]) := by unfold Hid; rw [List.take_succ_eq_append_getElem hlt2]
          have HCI : Hid (ColIs w (.slice ai t[m].ints.length ci) (.slice az t[m].strs.length cz) (.slice an t[m].nulls.length cn) t[m]) := hcol
          generalize hC : t[m] = C at *
          clear hcol hC c0 c1 c2 c3 c4 kp
          have HX1 : Hid (Box (wr.alloc (.cells #[.int .i64 C.kind, .int .i64 C.scale, .slice ai C.ints.length ci, .slice az C.strs.length cz, .slice an C.nulls.length cn] 67)) wr.heap.size #[.int .i64 C.kind, .int .i64 C.scale, .slice ai C.ints.length ci, .slice az C.strs.length cz, .slice an C.nulls.length cn] 67) := Box.new _ _ _
          have HB4 : Hid (Below w1.heap.size w1 (wr.alloc (.cells #[.int .i64 C.kind, .int .i64 C.scale, .slice ai C.ints.length ci, .slice az C.strs.length cz, .slice an C.nulls.length cn] 67))) := HB2.out.alloc HSZ2.out _
          have HBW : Hid (Below wr.heap.size wr (wr.alloc (.cells #[.int .i64 C.kind, .int .i64 C.scale, .slice ai C.ints.length ci, .slice az C.strs.length cz, .slice an C.nulls.length cn] 67))) := (Below.refl _ _).alloc (Nat.le_refl _) _
          have HSW : Hid (wr.heap.size + 1 ≤ (wr.alloc (.cells #[.int .i64 C.kind, .int .i64 C.scale, .slice ai C.ints.length ci, .slice az C.strs.length cz, .slice an C.nulls.length cn] 67)).heap.size) := by unfold Hid; simp
          go_wp2_with fail
          generalize wr.alloc (.cells #[.int .i64 C.kind, .int .i64 C.scale, .slice ai C.ints.length ci, .slice az C.strs.length cz, .slice an C.nulls.length cn] 67) = w2 at *
          refine (ints64_any C.ints _ _ (RSl.mono mono_RI64 (Keeps.of_below (HB.out.trans (HB4.out.mono HSZ.out))) HCI.out.ints) HCS.out.ints).mono ?_
          rintro e w3 ⟨v3, rfl, hl3, hb3⟩
          obtain ⟨a3, c3, rfl⟩ := hl3.shape
          have HX3 : Hid (Box w3 wr.heap.size #[.int .i64 C.kind, .int .i64 C.scale, .slice ai C.ints.length ci, .slice az C.strs.length cz, .slice an C.nulls.length cn] 67) := HX1.out.call hb3
          obtain ⟨hc3, hf3, hs3⟩ := HX3.out.all
          have HX4 : Hid (Box (w3.setCell ⟨wr.heap.size, 2, none⟩ (.slice a3 C.ints.length c3)) wr.heap.size #[.int .i64 C.kind, .int .i64 C.scale, (.slice a3 C.ints.length c3), .slice az C.strs.length cz, .slice an C.nulls.length cn] 67) := by
            have := HX3.out.set 2 (.slice a3 C.ints.length c3)
            unfold Hid; simpa using this
          have HL4 : Hid (Lent (w3.setCell ⟨wr.heap.size, 2, none⟩ (.slice a3 C.ints.length c3)) 2 1 (wr.heap.size + 1) w3.heap.size (.slice ai C.ints.length ci) (.slice a3 C.ints.length c3) C.ints.length (C.ints.flatMap flInt ++ [.int .i64 (-77)])) := (hl3.set (by have := HSW.out; omega) (.slice a3 C.ints.length c3)).wide (by have := HSW.out; omega) (Nat.le_refl _)
          have HB5 : Hid (Below wr.heap.size wr (w3.setCell ⟨wr.heap.size, 2, none⟩ (.slice a3 C.ints.length c3))) := (HBW.out.trans (hb3.mono (by have := HSW.out; omega))).setCell (Nat.le_refl _) (.slice a3 C.ints.length c3)
          have HS5 : Hid (w3.heap.size ≤ (w3.setCell ⟨wr.heap.size, 2, none⟩ (.slice a3 C.ints.length c3)).heap.size ∧ wr.heap.size + 1 ≤ w3.heap.size) := by have := hb3.size; have := HSW.out; unfold Hid; simp [World.setCell]; omega
          clear hl3 hb3 HX3 HX1 HB4 HBW HSW
          go_wp2_with fail
          clear hc3 hf3 hs3
          generalize w3.setCell ⟨wr.heap.size, 2, none⟩ (.slice a3 C.ints.length c3) = w4 at *
          refine (strs_any C.strs _ _ (RSl.mono mono_RStr (Keeps.of_below (HB3.out.trans (HB5.out.mono (by have := HSZ2.out; have := HSZ.out; omega)))) HCI.out.strs) HCS.out.strs).mono ?_
          rintro e w5 ⟨v5, rfl, hl5, hb5⟩
          obtain ⟨a5, c5, rfl⟩ := hl5.shape
          have HX5 : Hid (Box w5 wr.heap.size #[.int .i64 C.kind, .int .i64 C.scale, (.slice a3 C.ints.length c3), .slice az C.strs.length cz, .slice an C.nulls.length cn] 67) := HX4.out.call hb5
          obtain ⟨hc5, hf5, hs5⟩ := HX5.out.all
          have HX6 : Hid (Box (w5.setCell ⟨wr.heap.size, 3, none⟩ (.slice a5 C.strs.length c5)) wr.heap.size #[.int .i64 C.kind, .int .i64 C.scale, (.slice a3 C.ints.length c3), (.slice a5 C.strs.length c5), .slice an C.nulls.length cn] 67) := by
            have := HX5.out.set 3 (.slice a5 C.strs.length c5)
            unfold Hid; simpa using this
          have HO6 : Hid (Only (fun x => x = wr.heap.size) w4 (w5.setCell ⟨wr.heap.size, 3, none⟩ (.slice a5 C.strs.length c5))) := Only.setCell (S := fun x => x = wr.heap.size) (Only.below hb5) (p := ⟨wr.heap.size, 3, none⟩) rfl (.slice a5 C.strs.length c5)
          have HL6 : Hid (Lent (w5.setCell ⟨wr.heap.size, 3, none⟩ (.slice a5 C.strs.length c5)) 9 1 (wr.heap.size + 1) w5.heap.size (.slice az C.strs.length cz) (.slice a5 C.strs.length c5) C.strs.length (C.strs.flatMap flStr ++ [.string ⟨#[115, 112, 97, 114, 101]⟩])) := (hl5.set (by have := HS5.out; omega) (.slice a5 C.strs.length c5)).wide (by have := HS5.out; omega) (Nat.le_refl _)
          have HB6 : Hid (Below wr.heap.size wr (w5.setCell ⟨wr.heap.size, 3, none⟩ (.slice a5 C.strs.length c5))) := (HB5.out.trans (hb5.mono HB5.out.size)).setCell (Nat.le_refl _) (.slice a5 C.strs.length c5)
          have HS6 : Hid (w4.heap.size ≤ w5.heap.size ∧ w5.heap.size ≤ (w5.setCell ⟨wr.heap.size, 3, none⟩ (.slice a5 C.strs.length c5)).heap.size ∧ wr.heap.size + 1 ≤ w5.heap.size) := by have := hb5.size; have := HS5.out; unfold Hid; simp [World.setCell]; omega
          clear hl5 hb5 HX5 HX4 HB5
          go_wp2_with fail
          clear hc5 hf5 hs5
          generalize w5.setCell ⟨wr.heap.size, 3, none⟩ (.slice a5 C.strs.length c5) = w6 at *
          refine (bools_any C.nulls _ _ (RSl.mono mono_RBool (Keeps.of_below (HB3.out.trans (HB6.out.mono (by have := HSZ2.out; have := HSZ.out; omega)))) HCI.out.nulls) HCS.out.nulls).mono ?_
          rintro e w7 ⟨v7, rfl, hl7, hb7⟩
          obtain ⟨a7, c7, rfl⟩ := hl7.shape
          have HX7 : Hid (Box w7 wr.heap.size #[.int .i64 C.kind, .int .i64 C.scale, (.slice a3 C.ints.length c3), (.slice a5 C.strs.length c5), .slice an C.nulls.length cn] 67) := HX6.out.call hb7
          obtain ⟨hc7, hf7, hs7⟩ := HX7.out.all
          have HX8 : Hid (Box (w7.setCell ⟨wr.heap.size, 4, none⟩ (.slice a7 C.nulls.length c7)) wr.heap.size #[.int .i64 C.kind, .int .i64 C.scale, (.slice a3 C.ints.length c3), (.slice a5 C.strs.length c5), (.slice a7 C.nulls.length c7)] 67) := by
            have := HX7.out.set 4 (.slice a7 C.nulls.length c7)
            unfold Hid; simpa using this
          have HO8 : Hid (Only (fun x => x = wr.heap.size) w6 (w7.setCell ⟨wr.heap.size, 4, none⟩ (.slice a7 C.nulls.length c7))) := Only.setCell (S := fun x => x = wr.heap.size) (Only.below hb7) (p := ⟨wr.heap.size, 4, none⟩) rfl (.slice a7 C.nulls.length c7)
          have HL8 : Hid (Lent (w7.setCell ⟨wr.heap.size, 4, none⟩ (.slice a7 C.nulls.length c7)) 4 1 (wr.heap.size + 1) w7.heap.size (.slice an C.nulls.length cn) (.slice a7 C.nulls.length c7) C.nulls.length (C.nulls.flatMap flBool ++ [.bool true])) := (hl7.set (by have := HS6.out; omega) (.slice a7 C.nulls.length c7)).wide (by have := HS6.out; omega) (Nat.le_refl _)
          have HB8 : Hid (Below wr.heap.size wr (w7.setCell ⟨wr.heap.size, 4, none⟩ (.slice a7 C.nulls.length c7))) := (HB6.out.trans (hb7.mono HB6.out.size)).setCell (Nat.le_refl _) (.slice a7 C.nulls.length c7)
          have HS8 : Hid (w6.heap.size ≤ w7.heap.size ∧ w7.heap.size ≤ (w7.setCell ⟨wr.heap.size, 4, none⟩ (.slice a7 C.nulls.length c7)).heap.size ∧ wr.heap.size + 1 ≤ w7.heap.size) := by have := hb7.size; have := HS6.out; unfold Hid; simp [World.setCell]; omega
          clear hl7 hb7 HX7 HX6 HB6
          go_upto_region 13 with fail
          clear hc7 hf7 hs7
          generalize w7.setCell ⟨wr.heap.size, 4, none⟩ (.slice a7 C.nulls.length c7) = w8 at *
          have HP : Hid (PCol m w8 wr.heap.size w8.heap.size (fun j => ([.int .i64 C.kind, .int .i64 C.scale, .slice a3 C.ints.length c3, .slice a5 C.strs.length c5, .slice a7 C.nulls.length c7] : List Value)[j]?) C) := by
            have h1 := HS5.out
            have h2 := HS6.out
            have h3 := HS8.out
            have hne : ∀ lo b, wr.heap.size + 1 ≤ lo → lo ≤ b → ¬ (fun x => x = wr.heap.size) b := fun lo b _ _ e => by simp only at e; omega
            refine ⟨_, _, _, _, _, _, rfl, rfl, rfl, rfl, rfl, (((HL4.out.only HO6.out (fun b hb _ => hne _ b (Nat.le_refl _) hb)).only HO8.out (fun b hb _ => hne _ b (Nat.le_refl _) hb)).wide (by omega) (by omega)), ((HL6.out.only HO8.out (fun b hb _ => hne _ b (Nat.le_refl _) hb)).wide (by omega) (by omega)), HL8.out.wide (by omega) (by omega), ?_⟩
            exact RSl.oks flat_str HCI.out.strs
          have HOG : Hid ((w8.alloc (.cells #[.int .i64 C.kind, .int .i64 C.scale, .slice a3 C.ints.length c3, .slice a5 C.strs.length c5, .slice a7 C.nulls.length c7] 67)).ownsRow w1.heap.size 67 5 u5 m ys) := World.ownsRow.alloc (owns_below HO2.out HB8.out (fun g hg => (HO2.out.lt g hg).2)) _
          have HNW : Hid (∀ j u, ([.int .i64 C.kind, .int .i64 C.scale, .slice a3 C.ints.length c3, .slice a5 C.strs.length c5, .slice a7 C.nulls.length c7] : List Value)[j]? = some u → (w8.alloc (.cells #[.int .i64 C.kind, .int .i64 C.scale, .slice a3 C.ints.length c3, .slice a5 C.strs.length c5, .slice a7 C.nulls.length c7] 67)).cell? ⟨w8.heap.size, j, none⟩ = some u) := fun j u hu => by
            rw [(Box.new w8 #[.int .i64 C.kind, .int .i64 C.scale, .slice a3 C.ints.length c3, .slice a5 C.strs.length c5, .slice a7 C.nulls.length c7] 67).rules.1 j, ← Array.getElem?_toList]; exact hu
          have HS0 : Hid ((w8.alloc (.cells #[.int .i64 C.kind, .int .i64 C.scale, .slice a3 C.ints.length c3, .slice a5 C.strs.length c5, .slice a7 C.nulls.length c7] 67)).heap.size = w8.heap.size + 1) := by unfold Hid; simp
          have HS1 : Hid (w1.heap.size ≤ (w8.alloc (.cells #[.int .i64 C.kind, .int .i64 C.scale, .slice a3 C.ints.length c3, .slice a5 C.strs.length c5, .slice a7 C.nulls.length c7] 67)).heap.size) := by have := HB8.out.size; have := HSZ2.out; unfold Hid; simp; omega
          have HON : Hid (∀ u ∈ ([.int .i64 C.kind, .int .i64 C.scale, .slice a3 C.ints.length c3, .slice a5 C.strs.length c5, .slice a7 C.nulls.length c7] : List Value), u.oneCell' = true) := by intro u hu; simp at hu; rcases hu with rfl | rfl | rfl | rfl | rfl <;> rfl
          obtain ⟨hc8, hf8, hs8⟩ := HX8.out.all
          go_wp2_with (at_builtin; refine app_one elem_col _ (by rfl) _ _ (by rfl) w1.heap.size u5 m ys (by rfl) HOG.out w8.heap.size 1 1 [.int .i64 C.kind, .int .i64 C.scale, .slice a3 C.ints.length c3, .slice a5 C.strs.length c5, .slice a7 C.nulls.length c7] (by rfl) rfl HNW.out HON.out (by omega) (by omega) (by omega) HS1.out (w8.heap.size + 1) HS0.out ?_; intro g9 cap9 w9 hown9 hg9 hat9 hlt9)
          have hB9 : Below w1.heap.size w1 w9 := ((HB2.out.trans (HB8.out.mono HSZ2.out)).alloc (by have := HB8.out.size; have := HSZ2.out; omega) _).grown hg9 HS1.out (fun g hg => (HO2.out.lt g hg).1)
          have HB9 : Hid _ := hB9
          have HO9 : Hid (w9.ownsRow w1.heap.size 67 5 (.slice (some ⟨g9, 0, none⟩) (m + 1) cap9) (m + 1) (ys ++ [.int .i64 C.kind, .int .i64 C.scale, .slice a3 C.ints.length c3, .slice a5 C.strs.length c5, .slice a7 C.nulls.length c7])) := hown9
          have HGR : Hid (∀ iv ∈ jvs ++ [(wr.heap.size, w8.heap.size)], ∀ g, u5.ownBlock = some g → ¬ (iv.1 ≤ g ∧ g < iv.2)) := by
            intro iv hiv g hg
            rw [List.mem_append, List.mem_singleton] at hiv
            rcases hiv with hiv | rfl
            · exact (HI2.out iv hiv).2.2 g hg
            · have := (HO2.out.lt g hg).2
              simp only; omega
          have HL9 : Hid (LList 5 PCol w9 (ys ++ [.int .i64 C.kind, .int .i64 C.scale, .slice a3 C.ints.length c3, .slice a5 C.strs.length c5, .slice a7 C.nulls.length c7]) (t.take (m + 1)) (jvs ++ [(wr.heap.size, w8.heap.size)])) := by
            unfold Hid
            rw [HTM.out]
            have h1 : LList 5 PCol w8 ys (t.take m) jvs := HL2.out.only stays_PCol (S := fun b => wr.heap.size ≤ b) ⟨HB8.out.os, HB8.out.tape, HB8.out.output, HB8.out.size, fun b _ hn => HB8.out.block b (by omega)⟩ (fun iv hiv b _ h2 => by have := (HI2.out iv hiv).2.1; omega)
            have hlen2 : (t.take m).length = m := by rw [List.length_take]; omega
            have h2 := h1.snoc stays_PCol (cs := [.int .i64 C.kind, .int .i64 C.scale, .slice a3 C.ints.length c3, .slice a5 C.strs.length c5, .slice a7 C.nulls.length c7]) (x := C) (lo := wr.heap.size) (hi := w8.heap.size) rfl (fun iv hiv => (HI2.out iv hiv).2.1) (by rw [hlen2]; exact HP.out)
            exact (h2.call stays_PCol ((Below.refl _ _).alloc (Nat.le_refl _) _)).grown stays_PCol hg9 HGR.out
          have HI9 : Hid (∀ iv ∈ jvs ++ [(wr.heap.size, w8.heap.size)], w1.heap.size ≤ iv.1 ∧ iv.2 ≤ w9.heap.size ∧ ∀ g, Value.ownBlock (.slice (some ⟨g9, 0, none⟩) (m + 1) cap9) = some g → ¬ (iv.1 ≤ g ∧ g < iv.2)) := by
            have hz9 := hg9.size
            rw [HS0.out] at hz9
            have hz8 := HB8.out.size
            intro iv hiv
            have hbd : w1.heap.size ≤ iv.1 ∧ iv.2 ≤ w8.heap.size := by
              rw [List.mem_append, List.mem_singleton] at hiv
              rcases hiv with hiv | rfl
              · have := HI2.out iv hiv; exact ⟨this.1, by omega⟩
              · exact ⟨HSZ2.out, Nat.le_refl _⟩
            refine ⟨hbd.1, by omega, fun g hg => ?_⟩
            simp only [Value.ownBlock, Option.some.injEq] at hg
            subst hg
            rcases hat9 with h | h
            · exact HGR.out iv hiv _ h
            · omega
          clear hB9 hown9 hg9 hat9 hlt9 hc8 hf8 hs8
          go_roundw
          case rel => exact ⟨m + 1, _, _, by omega, by go_num, HO9.out, HL9.out, HI9.out, HB9.out⟩
          case measure => simp [intOf]; omega
        · have hmt : m = t.length := by omega
          subst hmt
          have HL3 : Hid (LList 5 PCol wr ys t jvs) := by have := HL2.out; rw [List.take_length] at this; exact this
          clear HL2 kp
          have HOG : Hid ((wr.alloc (.cells #[.int .i64 (-77), .int .i64 0, .slice none 0 0, .slice none 0 0, .slice none 0 0] 67)).ownsRow w1.heap.size 67 5 u5 t.length ys) := HO2.out.alloc _
          have HNW : Hid (∀ j u, zCol[j]? = some u → (wr.alloc (.cells #[.int .i64 (-77), .int .i64 0, .slice none 0 0, .slice none 0 0, .slice none 0 0] 67)).cell? ⟨wr.heap.size, j, none⟩ = some u) := fun j u hu => by
            rw [(Box.new wr #[.int .i64 (-77), .int .i64 0, .slice none 0 0, .slice none 0 0, .slice none 0 0] 67).rules.1 j, ← Array.getElem?_toList]; exact hu
          have HS0 : Hid ((wr.alloc (.cells #[.int .i64 (-77), .int .i64 0, .slice none 0 0, .slice none 0 0, .slice none 0 0] 67)).heap.size = wr.heap.size + 1) := by unfold Hid; simp
          have HS1 : Hid (w1.heap.size ≤ (wr.alloc (.cells #[.int .i64 (-77), .int .i64 0, .slice none 0 0, .slice none 0 0, .slice none 0 0] 67)).heap.size) := by have := HSZ2.out; unfold Hid; simp; omega
          have HON : Hid (∀ u ∈ zCol, u.oneCell' = true) := by intro u hu; simp at hu; rcases hu with rfl | rfl | rfl <;> rfl
          go_upto_region 15 with (at_builtin; refine app_one elem_col _ (by rfl) _ _ (by rfl) w1.heap.size u5 t.length ys (by rfl) HOG.out wr.heap.size 1 1 zCol (by rfl) rfl HNW.out HON.out (by omega) (by omega) (by omega) HS1.out (wr.heap.size + 1) HS0.out ?_; intro g9 cap9 w9 hown9 hg9 hat9 hlt9)
          have hz9 := hg9.size
          rw [HS0.out] at hz9
          have HBW : Hid (Below w1.heap.size w1 w9) := (HB2.out.alloc HSZ2.out _).grown hg9 HS1.out (fun g hg => (HO2.out.lt g hg).1)
          have HR9 : Hid (LRow 67 5 PCol w9 w1.heap.size w9.heap.size (.slice (some ⟨g9, 0, none⟩) t.length cap9) t zCol) := by
            refine LRow.owns hown9 ((HL3.out.call stays_PCol ((Below.refl _ _).alloc (Nat.le_refl _) _)).grown stays_PCol hg9 (fun iv hiv => (HI2.out iv hiv).2.2)) (Nat.le_refl _) (fun iv hiv => ?_)
            have := HI2.out iv hiv
            refine ⟨this.1, by omega, ?_⟩
            rcases hat9 with h | h
            · exact this.2.2 _ h
            · omega
          have hcap9 : t.length ≤ cap9 := by
            obtain ⟨_, _, _, _, _, hv, _, _, _, h, _⟩ := HR9.out
            simp only [Value.slice.injEq, true_and] at hv
            omega
          have HZ9 : Hid (w1.heap.size ≤ w9.heap.size) := HBW.out.size
          have HB9 : Hid (Below w.heap.size w w9) := HB.out.trans (HBW.out.mono HSZ.out)
          have e9 := (Keeps.of_below HB9.out) _ _ _ d0
          have hb9 := cell_lt e9
          clear hown9 hg9 hat9 hlt9 hz9 HNW HS0 HS1 HON HOG HL3 HO2 HI2 HB2 HSZ2 HB3 e1 hb1
          have HOT : Hid ((w9.alloc (.cells #[.slice (some ⟨g9, 0, none⟩) t.length cap9] 57)).ownsRow w.heap.size 57 1 u3 k xs) := World.ownsRow.alloc (owns_below HO.out HBW.out (fun g hg => (HO.out.lt g hg).2)) _
          have HNW : Hid (∀ j u, ([.slice (some ⟨g9, 0, none⟩) t.length cap9] : List Value)[j]? = some u → (w9.alloc (.cells #[.slice (some ⟨g9, 0, none⟩) t.length cap9] 57)).cell? ⟨w9.heap.size, j, none⟩ = some u) := fun j u hu => by
            rw [(Box.new w9 #[.slice (some ⟨g9, 0, none⟩) t.length cap9] 57).rules.1 j, ← Array.getElem?_toList]; exact hu
          have HS0 : Hid ((w9.alloc (.cells #[.slice (some ⟨g9, 0, none⟩) t.length cap9] 57)).heap.size = w9.heap.size + 1) := by unfold Hid; simp
          have HS1 : Hid (w.heap.size ≤ (w9.alloc (.cells #[.slice (some ⟨g9, 0, none⟩) t.length cap9] 57)).heap.size) := by have := HZ9.out; have := HSZ.out; unfold Hid; simp; omega
          have HON : Hid (∀ u ∈ ([.slice (some ⟨g9, 0, none⟩) t.length cap9] : List Value), u.oneCell' = true) := by intro u hu; simp at hu; subst hu; rfl
          go_wp2_with (at_builtin; refine app_one elem_tab _ (by rfl) _ _ (by rfl) w.heap.size u3 k xs (by rfl) HOT.out w9.heap.size 1 1 [.slice (some ⟨g9, 0, none⟩) t.length cap9] (by rfl) rfl HNW.out HON.out (by omega) (by omega) (by omega) HS1.out (w9.heap.size + 1) HS0.out ?_; intro g10 cap10 w10 hown10 hg10 hat10 hlt10)
          have hz10 := hg10.size
          rw [HS0.out] at hz10
          have HB10 : Hid (Below w.heap.size w w10) := (HB9.out.alloc (by have := HZ9.out; have := HSZ.out; omega) _).grown hg10 HS1.out (fun g hg => (HO.out.lt g hg).1)
          have HO10 : Hid (w10.ownsRow w.heap.size 57 1 (.slice (some ⟨g10, 0, none⟩) (k + 1) cap10) (k + 1) (xs ++ [.slice (some ⟨g9, 0, none⟩) t.length cap9])) := hown10
          have HGR : Hid (∀ iv ∈ ivs ++ [(w1.heap.size, w9.heap.size)], ∀ g, u3.ownBlock = some g → ¬ (iv.1 ≤ g ∧ g < iv.2)) := by
            intro iv hiv g hg
            rw [List.mem_append, List.mem_singleton] at hiv
            rcases hiv with hiv | rfl
            · exact (HI.out iv hiv).2.2 g hg
            · have := (HO.out.lt g hg).2
              simp only; omega
          have HL10 : Hid (LList 1 PTab w10 (xs ++ [.slice (some ⟨g9, 0, none⟩) t.length cap9]) (ts.take (k + 1)) (ivs ++ [(w1.heap.size, w9.heap.size)])) := by
            unfold Hid
            rw [List.take_succ_eq_append_getElem hlt, HTK.out]
            have h1 : LList 1 PTab w9 xs (ts.take k) ivs := HL.out.only stays_PTab (S := fun b => w1.heap.size ≤ b) ⟨HBW.out.os, HBW.out.tape, HBW.out.output, HBW.out.size, fun b _ hn => HBW.out.block b (by omega)⟩ (fun iv hiv b _ h2 => by have := (HI.out iv hiv).2.1; omega)
            have h2 := h1.snoc stays_PTab (cs := [.slice (some ⟨g9, 0, none⟩) t.length cap9]) (x := t) (lo := w1.heap.size) (hi := w9.heap.size) rfl (fun iv hiv => (HI.out iv hiv).2.1) ⟨_, rfl, HR9.out⟩
            exact (h2.call stays_PTab ((Below.refl _ _).alloc (Nat.le_refl _) _)).grown stays_PTab hg10 HGR.out
          have HI10 : Hid (∀ iv ∈ ivs ++ [(w1.heap.size, w9.heap.size)], w.heap.size ≤ iv.1 ∧ iv.2 ≤ w10.heap.size ∧ ∀ g, Value.ownBlock (.slice (some ⟨g10, 0, none⟩) (k + 1) cap10) = some g → ¬ (iv.1 ≤ g ∧ g < iv.2)) := by
            have h9 := HZ9.out
            intro iv hiv
            have hbd : w.heap.size ≤ iv.1 ∧ iv.2 ≤ w9.heap.size := by
              rw [List.mem_append, List.mem_singleton] at hiv
              rcases hiv with hiv | rfl
              · have := HI.out iv hiv; exact ⟨this.1, by omega⟩
              · exact ⟨HSZ.out, Nat.le_refl _⟩
            refine ⟨hbd.1, by omega, fun g hg => ?_⟩
            simp only [Value.ownBlock, Option.some.injEq] at hg
            subst hg
            rcases hat10 with h | h
            · exact HGR.out iv hiv _ h
            · omega
          clear hown10 hg10 hat10 hlt10 hz10
          go_roundw
          case rel => exact ⟨k + 1, _, _, by omega, by go_num, HO10.out, HL10.out, HI10.out, HB10.out⟩
          case measure => simp [intOf]; omega
    · have hkt : k = ts.length := by omega
      subst hkt
      have HL3 : Hid (LList 1 PTab wr xs ts ivs) := by have := HL.out; rw [List.take_length] at this; exact this
      have HSZ : Hid (w.heap.size ≤ wr.heap.size) := HB.out.size
      clear HL
      have HZ : Hid (Box (wr.alloc (.cells #[.int .i64 (-77), .int .i64 0, .slice none 0 0, .slice none 0 0, .slice none 0 0] 67)) wr.heap.size #[.int .i64 (-77), .int .i64 0, .slice none 0 0, .slice none 0 0, .slice none 0 0] 67) := Box.new _ _ _
      have HS2 : Hid ((wr.alloc (.cells #[.int .i64 (-77), .int .i64 0, .slice none 0 0, .slice none 0 0, .slice none 0 0] 67)).heap.size = wr.heap.size + 1) := by unfold Hid; simp
      have HOG : Hid (((wr.alloc (.cells #[.int .i64 (-77), .int .i64 0, .slice none 0 0, .slice none 0 0, .slice none 0 0] 67)).alloc (.cells #[.slice (some ⟨wr.heap.size, 0, none⟩) 1 1] 57)).ownsRow w.heap.size 57 1 u3 ts.length xs) := (HO.out.alloc _).alloc _
      have HNW : Hid (∀ j u, ([.slice (some ⟨wr.heap.size, 0, none⟩) 1 1] : List Value)[j]? = some u → ((wr.alloc (.cells #[.int .i64 (-77), .int .i64 0, .slice none 0 0, .slice none 0 0, .slice none 0 0] 67)).alloc (.cells #[.slice (some ⟨wr.heap.size, 0, none⟩) 1 1] 57)).cell? ⟨wr.heap.size + 1, j, none⟩ = some u) := fun j u hu => by
        have := (Box.new (wr.alloc (.cells #[.int .i64 (-77), .int .i64 0, .slice none 0 0, .slice none 0 0, .slice none 0 0] 67)) #[.slice (some ⟨wr.heap.size, 0, none⟩) 1 1] 57).rules.1 j
        rw [HS2.out] at this
        rw [this, ← Array.getElem?_toList]; exact hu
      have HS0 : Hid (((wr.alloc (.cells #[.int .i64 (-77), .int .i64 0, .slice none 0 0, .slice none 0 0, .slice none 0 0] 67)).alloc (.cells #[.slice (some ⟨wr.heap.size, 0, none⟩) 1 1] 57)).heap.size = wr.heap.size + 2) := by unfold Hid; simp
      have HS1 : Hid (w.heap.size ≤ ((wr.alloc (.cells #[.int .i64 (-77), .int .i64 0, .slice none 0 0, .slice none 0 0, .slice none 0 0] 67)).alloc (.cells #[.slice (some ⟨wr.heap.size, 0, none⟩) 1 1] 57)).heap.size) := by have := HSZ.out; unfold Hid; simp; omega
      have HON : Hid (∀ u ∈ ([.slice (some ⟨wr.heap.size, 0, none⟩) 1 1] : List Value), u.oneCell' = true) := by intro u hu; simp at hu; subst hu; rfl
      have HBA : Hid (Below wr.heap.size wr ((wr.alloc (.cells #[.int .i64 (-77), .int .i64 0, .slice none 0 0, .slice none 0 0, .slice none 0 0] 67)).alloc (.cells #[.slice (some ⟨wr.heap.size, 0, none⟩) 1 1] 57))) := ((Below.refl _ _).alloc (Nat.le_refl _) _).alloc (by simp) _
      go_upto_region 17 with (at_builtin; refine app_one elem_tab _ (by rfl) _ _ (by rfl) w.heap.size u3 ts.length xs (by rfl) HOG.out (wr.heap.size + 1) 1 1 [.slice (some ⟨wr.heap.size, 0, none⟩) 1 1] (by rfl) rfl HNW.out HON.out (by omega) (by omega) (by omega) HS1.out (wr.heap.size + 2) HS0.out ?_; intro g9 cap9 w9 hown9 hg9 hat9 hlt9)
      have hz9 := hg9.size
      rw [HS0.out] at hz9
      have HB9 : Hid (Below w.heap.size w w9) := (HB.out.trans (HBA.out.mono HSZ.out)).grown hg9 HS1.out (fun g hg => (HO.out.lt g hg).1)
      have HR9 : Hid (LRow 57 1 PTab w9 w.heap.size w9.heap.size (.slice (some ⟨g9, 0, none⟩) ts.length cap9) ts [.slice (some ⟨wr.heap.size, 0, none⟩) 1 1]) := by
        refine LRow.owns hown9 ((HL3.out.call stays_PTab HBA.out).grown stays_PTab hg9 (fun iv hiv => (HI.out iv hiv).2.2)) (Nat.le_refl _) (fun iv hiv => ?_)
        have := HI.out iv hiv
        refine ⟨this.1, by omega, ?_⟩
        rcases hat9 with h | h
        · exact this.2.2 _ h
        · omega
      have HZ9 : Hid (Box w9 wr.heap.size #[.int .i64 (-77), .int .i64 0, .slice none 0 0, .slice none 0 0, .slice none 0 0] 67) := (HZ.out.alloc _).grown hg9 (fun g hg => by have := (HO.out.lt g hg).2; omega)
      have hcap9 : ts.length ≤ cap9 := by
        obtain ⟨_, _, _, _, _, hv, _, _, _, h, _⟩ := HR9.out
        simp only [Value.slice.injEq, true_and] at hv
        omega
      clear hown9 hg9 hat9 hlt9 hz9 HNW HS0 HS1 HON HOG HL3 HO HI HB HZ HBA
      go_wp2_with fail
      go_ret
      exact ⟨_, rfl, ⟨wr.heap.size, 1, _, HR9.out, HZ9.out, rfl⟩, HB9.out⟩

end Go.Proofs.YtekkicgbloidkaaGreatDoor
/- The contracts of the small functions of the package typing. -/
namespace Go.Proofs.YtekkicgbloidkaaGreatDoor
open Go Go.RowKit

def scFits (s : Int) : Bool := decide (0 ≤ s) && decide (s ≤ 6)
def tNum (t : Int × Int) : Bool := t.1 == 1 || t.1 == 2

set_option maxHeartbeats 400000 in
theorem scaleFits_any (a : Int) (w : World) :
    Calls Tryz.prog 112 #[.int .i64 a] w fun e w' => e = .returned (.bool (scFits a)) ∧ w' = w := by
  unfold scFits
  go_enter Tryz.func112, Tryz.ntmps112
  go_wp2
  all_goals (go_ret; refine ⟨?_, rfl⟩; simp [*] <;> omega)

set_option maxHeartbeats 400000 in
theorem within_any (a b c : Int) (w : World) :
    Calls Tryz.prog 103 #[.int .i64 a, .int .i64 b, .int .i64 c] w fun e w' => e = .returned (.bool (decide (b ≤ a) && decide (a ≤ c))) ∧ w' = w := by
  go_enter Tryz.func103, Tryz.ntmps103
  go_wp2
  all_goals (go_ret; refine ⟨?_, rfl⟩; simp [*] <;> omega)

set_option maxHeartbeats 400000 in
theorem number_any (t : Int × Int) (w : World) :
    Calls Tryz.prog 117 #[tyV t] w fun e w' => e = .returned (.bool (tNum t)) ∧ Below w.heap.size w w' := by
  obtain ⟨k, s⟩ := t
  unfold tNum
  go_enter Tryz.func117, Tryz.ntmps117
  go_wp2
  all_goals (go_ret; refine ⟨?_, (Below.refl _ _).alloc (Nat.le_refl _) _⟩; simp [*])

set_option maxHeartbeats 400000 in
theorem decimal_any (s : Int) (w : World) :
    Calls Tryz.prog 131 #[.int .i64 s] w fun e w' => e = .returned (.tuple #[tyV (2, s), .bool (scFits s)]) ∧ Below w.heap.size w w' := by
  go_enter Tryz.func131, Tryz.ntmps131
  go_wp2_with (go_at_call 112; refine (scaleFits_any _ _).mono ?_; rintro e w' ⟨rfl, rfl⟩)
  exact bodyPost_ret (v := .tuple #[tyV (2, s), .bool (scFits s)]) (by simp [results, Tryz.results131, go_sem]) rfl ⟨rfl, (Below.refl _ _).alloc (Nat.le_refl _) _⟩

set_option maxHeartbeats 400000 in
theorem whole_any (w : World) :
    Calls Tryz.prog 116 #[] w fun e w' => e = .returned (tyV (1, 0)) ∧ Below w.heap.size w w' := by
  go_enter Tryz.func116, Tryz.ntmps116
  go_wp2
  exact bodyPost_ret (v := tyV (1, 0)) (by simp [results, Tryz.results116, go_sem]) rfl ⟨rfl, (Below.refl _ _).alloc (Nat.le_refl _) _⟩

set_option maxHeartbeats 400000 in
theorem text_any (w : World) :
    Calls Tryz.prog 132 #[] w fun e w' => e = .returned (tyV (3, 0)) ∧ Below w.heap.size w w' := by
  go_enter Tryz.func132, Tryz.ntmps132
  go_wp2
  exact bodyPost_ret (v := tyV (3, 0)) (by simp [results, Tryz.results132, go_sem]) rfl ⟨rfl, (Below.refl _ _).alloc (Nat.le_refl _) _⟩

set_option maxHeartbeats 400000 in
theorem truth_any (w : World) :
    Calls Tryz.prog 133 #[] w fun e w' => e = .returned (tyV (4, 0)) ∧ Below w.heap.size w w' := by
  go_enter Tryz.func133, Tryz.ntmps133
  go_wp2
  exact bodyPost_ret (v := tyV (4, 0)) (by simp [results, Tryz.results133, go_sem]) rfl ⟨rfl, (Below.refl _ _).alloc (Nat.le_refl _) _⟩

def storable (t : Int × Int) : Bool := if t.1 = 1 ∨ t.1 = 3 then t.2 == 0 else if t.1 = 2 then scFits t.2 else false

set_option maxHeartbeats 400000 in
theorem storable_any (t : Int × Int) (w : World) :
    Calls Tryz.prog 100 #[tyV t] w fun e w' => e = .returned (.bool (storable t)) ∧ Below w.heap.size w w' := by
  obtain ⟨k, s⟩ := t
  go_enter Tryz.func100, Tryz.ntmps100
  go_wp2_with (go_at_call 112; refine (scaleFits_any _ _).mono ?_; rintro e w' ⟨rfl, rfl⟩)
  all_goals (go_ret; refine ⟨?_, (Below.refl _ _).alloc (Nat.le_refl _) _⟩; go_light; simp_all [storable])

set_option maxHeartbeats 400000 in
theorem columnType_any (k s : Int) (vi vs vn : Value) (w : World) :
    Calls Tryz.prog 99 #[.agg #[.int .i64 k, .int .i64 s, vi, vs, vn]] w fun e w' => e = .returned (tyV (k, s)) ∧ Below w.heap.size w w' := by
  go_enter Tryz.func99, Tryz.ntmps99
  go_wp2
  exact bodyPost_ret (v := tyV (k, s)) (by simp [results, Tryz.results99, go_sem]) rfl ⟨rfl, ((Below.refl _ _).alloc (Nat.le_refl _) _).alloc (by simp) _⟩

def operands (op : Int) : Int × Bool :=
  if op = 1 ∨ op = 2 ∨ op = 3 ∨ op = 4 then (0, true) else if op = 8 ∨ op = 14 ∨ op = 15 then (1, true)
  else if op = 5 ∨ op = 6 ∨ op = 7 ∨ op = 9 ∨ op = 10 ∨ op = 11 ∨ op = 12 ∨ op = 13 then (2, true) else (0, false)

set_option maxHeartbeats 1000000 in
theorem operands_any (op : Int) (w : World) :
    Calls Tryz.prog 113 #[.int .i64 op] w fun e w' => e = .returned (.tuple #[.int .i64 (operands op).1, .bool (operands op).2]) ∧ w' = w := by
  go_enter Tryz.func113, Tryz.ntmps113
  go_wp2
  all_goals (go_ret2; refine ⟨?_, rfl⟩; go_light; simp_all [operands])

end Go.Proofs.YtekkicgbloidkaaGreatDoor
/- The contracts of the functions that look tables over. -/
namespace Go.Proofs.YtekkicgbloidkaaGreatDoor
open Go Go.RowKit

def textsFit (l : List ByteArray) : Bool := l.all fun s => decide (s.size ≤ 16)

theorem textsFit_take {l : List ByteArray} {k : Nat} (hk : k < l.length) (h : textsFit (l.take k) = true) (hs : l[k].size ≤ 16) : textsFit (l.take (k + 1)) = true := by
  unfold textsFit at *
  rw [List.take_succ_eq_append_getElem hk, List.all_append, h]
  simp [hs]
theorem textsFit_no {l : List ByteArray} {k : Nat} (hk : k < l.length) (hs : ¬ l[k].size ≤ 16) : textsFit l = false := by
  unfold textsFit
  rw [List.all_eq_false]
  exact ⟨l[k], List.getElem_mem hk, by simpa using hs⟩

set_option maxHeartbeats 1000000 in
theorem textsFit_any (l : List ByteArray) (v : Value) (w : World) (hv : RStrs w v l) :
    Calls Tryz.prog 101 #[v] w fun e w' => e = .returned (.bool (textsFit l)) ∧ w' = w := by
  obtain ⟨ao, cap, rfl, hl, hel⟩ := hv
  go_enter Tryz.func101, Tryz.ntmps101
  go_wp2
  go_loop [4, 7] (fun _ i => ∃ k : Nat, k ≤ l.length ∧ i = .int .i64 k ∧ textsFit (l.take k) = true) (fun _ i => l.length - (intOf i).toNat)
  case atStart => exact ⟨0, Nat.zero_le _, rfl, rfl⟩
  case round =>
    obtain ⟨k, hk, rfl, ht⟩ := hrel
    have HT : Hid _ := ht
    clear ht
    by_cases hlt : k < l.length
    · obtain ⟨b, off, rfl, hc, hs⟩ := hel k hlt
      simp only [Nat.mul_one, Nat.add_zero] at hc
      by_cases h16 : l[k].size ≤ 16
      · go_wp2
        go_round
        case rel => exact ⟨k + 1, by omega, by go_num, textsFit_take hlt HT.out h16⟩
        case measure => simp [intOf]; omega
      · go_wp2
        go_ret
        exact ⟨by rw [textsFit_no hlt h16]; rfl, rfl⟩
    · go_wp2
      go_ret
      refine ⟨?_, rfl⟩
      have e : textsFit l = true := by
        have := HT.out
        rwa [List.take_of_length_le (by omega)] at this
      rw [e]; rfl

def rightColN (k s : Int) (ni ns nn : Nat) (fit : Bool) (rows : Int) : Bool :=
  storable (k, s) && ((nn : Int) == rows && ((ni : Int) == (if k = 3 then 0 else rows) && (ns : Int) == (if k = 3 then rows else 0))) && fit
def rightCol (c : DCol) (rows : Int) : Bool := rightColN c.kind c.scale c.ints.length c.strs.length c.nulls.length (textsFit c.strs) rows

abbrev colV (c : DCol) (vi vs vn : Value) : Value := .agg #[.int .i64 c.kind, .int .i64 c.scale, vi, vs, vn]

set_option maxHeartbeats 1000000 in
theorem rightColumnN_any (k s : Int) (ai az an : Option Addr) (ni ns nn ci cz cn : Nat) (strs : List ByteArray) (rows : Int) (w : World) (_hns : ns ≤ 9223372036854775807) (hss : RStrs w (.slice az ns cz) strs) :
    Calls Tryz.prog 80 #[.agg #[.int .i64 k, .int .i64 s, .slice ai ni ci, .slice az ns cz, .slice an nn cn], .int .i64 rows] w fun e w' => e = .returned (.bool (rightColN k s ni ns nn (textsFit strs) rows)) ∧ Below w.heap.size w w' := by
  go_enter Tryz.func80, Tryz.ntmps80
  go_wp2_with fail
  refine (columnType_any k s _ _ _ _).mono ?_
  rintro e w1 ⟨rfl, hb1⟩
  have bx := (Box.new w #[.int .i64 k, .int .i64 s, .slice ai ni ci, .slice az ns cz, .slice an nn cn] 67).call hb1
  have hB1 : Below w.heap.size w w1 := Below.step hb1 ((Below.refl _ _).alloc (by simp) _) (by simp)
  clear hb1
  go_wp2_with fail
  refine (storable_any (k, s) _).mono ?_
  rintro e w2 ⟨rfl, hb2⟩
  have bx2 := bx.call hb2
  obtain ⟨hcb, hfb, hlb⟩ := bx2.all
  have hB2 : Below w.heap.size w w2 := Below.step hb2 hB1 (by have := hB1.size; omega)
  have hs2 := hss.mono mono_RStr (Keeps.of_below hB2)
  clear hb2 bx bx2 hss
  by_cases hst : storable (k, s) = true
  · go_wp2_with (go_at_call 101; refine (textsFit_any strs _ _ hs2).mono ?_; rintro e w3 ⟨rfl, rfl⟩)
    all_goals (go_ret; refine ⟨?_, hB2⟩; go_light; clear hcb hfb hs2; simp_all [rightColN])
  · go_wp2
    go_ret
    exact ⟨by simp [rightColN, hst], hB2⟩

theorem rightColumn_any (c : DCol) (vi vs vn : Value) (rows : Int) (w : World) (hc : ColIs w vi vs vn c) :
    Calls Tryz.prog 80 #[colV c vi vs vn, .int .i64 rows] w fun e w' => e = .returned (.bool (rightCol c rows)) ∧ Below w.heap.size w w' := by
  obtain ⟨h1, h2, h3⟩ := hc
  have h2' := h2
  obtain ⟨ai, ci, rfl, hli, -⟩ := h1
  obtain ⟨az, cz, rfl, hls, -⟩ := h2
  obtain ⟨an, cn, rfl, hln, -⟩ := h3
  exact rightColumnN_any _ _ _ _ _ _ _ _ _ _ _ c.strs rows w hls h2'

end Go.Proofs.YtekkicgbloidkaaGreatDoor
/- The first number of which something does not hold. Plain facts. -/
namespace Go.Proofs.YtekkicgbloidkaaGreatDoor
open Go

def firstBad (ok : Nat → Bool) (n : Nat) : Option Nat := (List.range n).find? (fun i => !ok i)

theorem firstBad_none {ok : Nat → Bool} {n : Nat} (h : ∀ j, j < n → ok j = true) : firstBad ok n = none := by
  unfold firstBad
  rw [List.find?_eq_none]
  intro x hx
  simp [h x (List.mem_range.1 hx)]

theorem firstBad_some {ok : Nat → Bool} {n k : Nat} (hk : k < n) (h : ∀ j, j < k → ok j = true) (hb : ok k = false) : firstBad ok n = some k := by
  unfold firstBad
  rw [show n = k + (1 + (n - k - 1)) by omega, List.range_add, List.find?_append]
  have e : (List.range k).find? (fun i => !ok i) = none := by
    rw [List.find?_eq_none]
    intro x hx
    simp [h x (List.mem_range.1 hx)]
  rw [e]
  simp [List.range_add, hb]

/-- What is told: the place, and whether there is one. -/
def told (o : Option Nat) : Int × Bool := match o with | some k => ((k : Int), true) | none => (0, false)
theorem told_some (k : Nat) : told (some k) = ((k : Int), true) := rfl
theorem told_none : told none = (0, false) := rfl

end Go.Proofs.YtekkicgbloidkaaGreatDoor
/- The contracts of the functions that look whole tables over. -/
namespace Go.Proofs.YtekkicgbloidkaaGreatDoor
open Go Go.RowKit

def nullsOf (t : List DCol) : Nat := match t with | [] => 0 | c :: _ => c.nulls.length
def rightTab (t : List DCol) : Bool := decide (1 ≤ t.length) && decide (t.length ≤ 8) && decide (nullsOf t ≤ 40) && t.all (fun c => rightCol c (nullsOf t))

theorem allRight_take {t : List DCol} {n : Int} {k : Nat} (hk : k < t.length) (h : ((t.take k).all (fun c => rightCol c n)) = true) (hs : rightCol t[k] n = true) : ((t.take (k + 1)).all (fun c => rightCol c n)) = true := by
  rw [List.take_succ_eq_append_getElem hk, List.all_append, h]
  simp [hs]
theorem allRight_no {t : List DCol} {n : Int} {k : Nat} (hk : k < t.length) (hs : rightCol t[k] n = false) : (t.all (fun c => rightCol c n)) = false := by
  rw [List.all_eq_false]
  exact ⟨t[k], List.getElem_mem hk, by simpa using hs⟩
theorem nullsOf_eq {t : List DCol} (h : 0 < t.length) : nullsOf t = t[0].nulls.length := by
  cases t with
  | nil => simp at h
  | cons c r => rfl

set_option maxHeartbeats 1000000 in
theorem rightTable_any (t : List DCol) (v : Value) (w : World) (hv : RCols w v t) :
    Calls Tryz.prog 68 #[.agg #[v]] w fun e w' => e = .returned (.bool (rightTab t)) ∧ Below w.heap.size w w' := by
  obtain ⟨ao, cap, rfl, hl, hel⟩ := hv
  by_cases h1 : t.length < 1
  · have e : Hid (rightTab t = false) := by unfold Hid; simp [rightTab]; omega
    go_enter Tryz.func68, Tryz.ntmps68
    go_wp2
    go_ret
    exact ⟨by rw [e.out]; rfl, (Below.refl _ _).alloc (Nat.le_refl _) _⟩
  by_cases h8 : 8 < t.length
  · have e : Hid (rightTab t = false) := by unfold Hid; simp [rightTab]; omega
    go_enter Tryz.func68, Tryz.ntmps68
    go_wp2
    go_ret
    exact ⟨by rw [e.out]; rfl, (Below.refl _ _).alloc (Nat.le_refl _) _⟩
  have h0 : 0 < t.length := by omega
  obtain ⟨b, off, rfl, vi, vs, vn, c0, c1, c2, c3, c4, hc⟩ := hel 0 h0
  simp only [Nat.zero_mul, Nat.add_zero] at c0 c1 c2 c3 c4
  have hN := nullsOf_eq h0
  obtain ⟨an, cn, rfl, hln, -⟩ := hc.nulls
  rw [← hN] at c4 hln
  clear hc c0 c1 c2 c3
  generalize hNN : nullsOf t = N at *
  have HN : Hid (nullsOf t = N) := hNN
  clear hNN hN
  have hbl := cell_lt c4
  by_cases h40 : 40 < N
  · have e : Hid (rightTab t = false) := by have := HN.out; unfold Hid; simp [rightTab]; omega
    go_enter Tryz.func68, Tryz.ntmps68
    go_wp2
    go_ret
    exact ⟨by rw [e.out]; rfl, (Below.refl _ _).alloc (Nat.le_refl _) _⟩
  go_enter Tryz.func68, Tryz.ntmps68
  go_wp2
  go_loopw [27] (fun i W => ∃ k : Nat, k ≤ t.length ∧ i = .int .i64 k ∧ ((t.take k).all (fun c => rightCol c N)) = true ∧ Below w.heap.size w W) (fun i _ => t.length - (intOf i).toNat)
  case atStart => exact ⟨0, Nat.zero_le _, rfl, rfl, (Below.refl _ _).alloc (Nat.le_refl _) _⟩
  case round =>
    obtain ⟨k, hk, rfl, ha, hB⟩ := hrel
    have HA : Hid _ := ha
    have HB : Hid _ := hB
    clear ha hB
    by_cases hlt : k < t.length
    · obtain ⟨b', off', hba, vi', vs', vn', d0, d1, d2, d3, d4, hcol⟩ := hel k hlt
      simp only [Option.some.injEq, Addr.mk.injEq, and_true] at hba
      obtain ⟨rfl, rfl⟩ := hba
      simp only [Nat.add_zero] at d0
      have kp := Keeps.of_below HB.out
      have e0 := kp _ _ _ d0
      have e1 := kp _ _ _ d1
      have e2 := kp _ _ _ d2
      have e3 := kp _ _ _ d3
      have e4 := kp _ _ _ d4
      have hbw := cell_lt e0
      have hcw := (hcol.mono kp).mono ((Keeps.refl _).alloc (.cells #[.int .i64 t[k].kind, .int .i64 t[k].scale, vi', vs', vn'] 67))
      clear kp d0 d1 d2 d3 d4 c4
      obtain ⟨ai, ci, az, cz, an', cn', rfl, rfl, rfl⟩ := hcol.shape
      clear hcol
      go_wp2_with fail
      refine (rightColumn_any t[k] _ _ _ N _ hcw).mono ?_
      rintro e w1 ⟨rfl, hb1⟩
      have hB1 : Below w.heap.size w w1 := Below.step hb1 (HB.out.alloc (by have := HB.out.size; omega) _) (by have := HB.out.size; simp; omega)
      have HB1 : Hid _ := hB1
      clear hB1 hb1 hcw
      by_cases hr : rightCol t[k] N = true
      · go_wp2
        go_roundw
        case rel => exact ⟨k + 1, by omega, by go_num, allRight_take hlt HA.out hr, HB1.out⟩
        case measure => simp [intOf]; omega
      · have hr' : rightCol t[k] N = false := by simpa using hr
        clear hr
        go_wp2
        go_ret
        refine ⟨?_, HB1.out⟩
        have e : rightTab t = false := by
          unfold rightTab; rw [HN.out, allRight_no hlt hr']; simp
        rw [e]; rfl
    · go_wp2
      go_ret
      refine ⟨?_, HB.out⟩
      have e : rightTab t = true := by
        have := HA.out
        rw [List.take_of_length_le (by omega)] at this
        unfold rightTab; rw [HN.out, this]; simp; omega
      rw [e]; rfl

def tabOk (ts : List (List DCol)) (i : Nat) : Bool := decide (i < 4) && rightTab (ts.getD i [])

theorem tabs_at {w : World} {ao : Option Addr} {n : Nat} {ts : List (List DCol)} (hel : ∀ i (h : i < ts.length), ∃ b off, ao = some ⟨b, off, none⟩ ∧ RTab w (fun j => w.cell? ⟨b, off + i * 1 + j, none⟩) ts[i]) (hn : n < ts.length) :
    ∃ b off v, ao = some ⟨b, off, none⟩ ∧ w.cell? ⟨b, off + n, none⟩ = some v ∧ RCols w v ts[n] := by
  obtain ⟨b, off, ha, v, h0, hv⟩ := hel n hn
  simp only [Nat.mul_one, Nat.add_zero] at h0
  exact ⟨b, off, v, ha, h0, hv⟩

set_option maxHeartbeats 1000000 in
theorem wrongTable_any (ts : List (List DCol)) (v : Value) (w : World) (hv : RTabs w v ts) :
    Calls Tryz.prog 53 #[v] w fun e w' => e = .returned (.tuple #[.int .i64 (told (firstBad (tabOk ts) ts.length)).1, .bool (told (firstBad (tabOk ts) ts.length)).2]) ∧ Below w.heap.size w w' := by
  obtain ⟨ao, cap, rfl, hl, hel⟩ := hv
  go_enter Tryz.func53, Tryz.ntmps53
  go_wp2
  go_loopw [8] (fun i W => ∃ k : Nat, k ≤ ts.length ∧ i = .int .i64 k ∧ (∀ j, j < k → tabOk ts j = true) ∧ Below w.heap.size w W) (fun i _ => ts.length - (intOf i).toNat)
  case atStart => exact ⟨0, Nat.zero_le _, rfl, fun j h => absurd h (Nat.not_lt_zero _), Below.refl _ _⟩
  case round =>
    obtain ⟨k, hk, rfl, ha, hB⟩ := hrel
    have HA : Hid _ := ha
    have HB : Hid _ := hB
    clear ha hB
    by_cases hlt : k < ts.length
    · obtain ⟨b, off, vt, rfl, d0, hcols⟩ := tabs_at hel hlt
      have kp := Keeps.of_below HB.out
      have e0 := kp _ _ _ d0
      have hbw := cell_lt e0
      have hcw := hcols.mono mono_RCol (kp.alloc (.cells #[vt] 57))
      obtain ⟨at', ct, rfl, -, -⟩ := hcols
      clear kp d0
      by_cases h4 : k < 4
      · go_wp2_with fail
        refine (rightTable_any ts[k] _ _ hcw).mono ?_
        rintro e w1 ⟨rfl, hb1⟩
        have HB1 : Hid (Below w.heap.size w w1) := Below.step hb1 (HB.out.alloc (by have := HB.out.size; omega) _) (by have := HB.out.size; simp; omega)
        clear hb1 hcw
        have hok : Hid (tabOk ts k = rightTab ts[k]) := by unfold Hid; simp [tabOk, h4, hlt]
        by_cases hr : rightTab ts[k] = true
        · go_wp2
          go_roundw
          case rel =>
            refine ⟨k + 1, by omega, by go_num, fun j hj => ?_, HB1.out⟩
            rcases Nat.lt_succ_iff_lt_or_eq.1 hj with h | rfl
            · exact HA.out j h
            · rw [hok.out]; exact hr
          case measure => simp [intOf]; omega
        · have hr' : rightTab ts[k] = false := by simpa using hr
          clear hr
          go_wp2
          go_ret2
          refine ⟨?_, HB1.out⟩
          rw [firstBad_some hlt HA.out (by rw [hok.out]; exact hr')]
          rfl
      · have hok : Hid (tabOk ts k = false) := by unfold Hid; simp [tabOk, h4]
        clear hcw
        go_wp2
        go_ret2
        refine ⟨?_, HB.out.alloc (by have := HB.out.size; omega) _⟩
        rw [firstBad_some hlt HA.out hok.out]
        rfl
    · go_wp2
      go_ret2
      refine ⟨?_, HB.out⟩
      rw [firstBad_none (fun j hj => HA.out j (by omega))]
      rfl

end Go.Proofs.YtekkicgbloidkaaGreatDoor
/- What is known of a plan whose first nodes have been looked at; the contracts of the functions that ask it. -/
namespace Go.Proofs.YtekkicgbloidkaaGreatDoor
open Go Go.RowKit

def RTyl (w : World) (rd : Nat → Option Value) (x : List (Int × Int)) : Prop := ∃ v, rd 0 = some v ∧ RTys w v x
theorem mono_RTyl : Mono RTyl := fun _ _ _ _ _ hk hr ⟨v, h0, h⟩ => ⟨v, hr _ _ h0, h.mono mono_RTy hk⟩
abbrev RTyss (w : World) := RSl w 1 RTyl

/-- The four cells of what is known of a plan. -/
structure Surv (w : World) (bs : Nat) (vt vn vy vk : Value) (ts : List (List DCol)) (ns : List DNode) (tys : List (List (Int × Int))) (tk : List Bool) : Prop where
  c0 : w.cell? ⟨bs, 0, none⟩ = some vt
  c1 : w.cell? ⟨bs, 1, none⟩ = some vn
  c2 : w.cell? ⟨bs, 2, none⟩ = some vy
  c3 : w.cell? ⟨bs, 3, none⟩ = some vk
  tabs : RTabs w vt ts
  nodes : RNodes w vn ns
  types : RTyss w vy tys
  taken : RBools w vk tk

theorem Surv.mono {w w' : World} (hk : Keeps w w') {bs : Nat} {vt vn vy vk : Value} {ts : List (List DCol)} {ns : List DNode} {tys : List (List (Int × Int))} {tk : List Bool} (h : Surv w bs vt vn vy vk ts ns tys tk) : Surv w' bs vt vn vy vk ts ns tys tk :=
  ⟨hk _ _ _ h.c0, hk _ _ _ h.c1, hk _ _ _ h.c2, hk _ _ _ h.c3, h.tabs.mono mono_RTab hk, h.nodes.mono mono_RNode hk, h.types.mono mono_RTyl hk, h.taken.mono mono_RBool hk⟩

def freeB (tk : List Bool) (p : Int) : Bool := decide (0 ≤ p) && decide (p < tk.length) && !(tk.getD p.toNat true)

set_option maxHeartbeats 1000000 in
theorem free_any (bs : Nat) (vk : Value) (tk : List Bool) (p : Int) (w : World) (h3 : w.cell? ⟨bs, 3, none⟩ = some vk) (hk : RBools w vk tk) :
    Calls Tryz.prog 102 #[.pointer (some ⟨bs, 0, none⟩), .int .i64 p] w fun e w' => e = .returned (.bool (freeB tk p)) ∧ w' = w := by
  obtain ⟨ao, cap, rfl, hl, hel⟩ := hk
  by_cases h : 0 ≤ p ∧ p < tk.length
  · obtain ⟨h1, h2⟩ := h
    obtain ⟨q, rfl⟩ := Int.eq_ofNat_of_zero_le h1
    have hq : q < tk.length := by omega
    obtain ⟨b, off, rfl, hr⟩ := hel q hq
    simp only [RBool, Nat.mul_one, Nat.add_zero] at hr
    have HP : Hid (freeB tk q = !tk[q]) := by unfold Hid freeB; simp [hq]
    go_enter Tryz.func102, Tryz.ntmps102
    go_wp2
    go_ret
    exact ⟨by rw [HP.out]; simp, rfl⟩
  · have HP : Hid (freeB tk p = false) := by unfold Hid freeB; simp; omega
    by_cases h1 : p < 0
    · have hd : decide (0 ≤ p) = false := by simp; omega
      go_enter Tryz.func102, Tryz.ntmps102
      go_wp2
      go_ret
      exact ⟨by rw [HP.out]; rfl, rfl⟩
    · have h1' : 0 ≤ p := by omega
      have h2 : (tk.length : Int) ≤ p := by omega
      obtain ⟨q, rfl⟩ := Int.eq_ofNat_of_zero_le h1'
      have h3 : tk.length ≤ q := by omega
      clear h h1
      go_enter Tryz.func102, Tryz.ntmps102
      go_wp2
      go_ret
      exact ⟨by rw [HP.out]; rfl, rfl⟩

abbrev nodeV (n : DNode) (ve vk vo va : Value) : Value := .agg #[.int .i64 n.op, .int .i64 n.a, .int .i64 n.b, ve, vk, vo, va]

def countsN (op : Int) (le lk lo la : Nat) : Bool :=
  if op = 2 then (le : Int) == 1 else if op = 3 then decide ((1 : Int) ≤ le) && decide ((le : Int) ≤ 8)
  else if op = 4 then decide ((1 : Int) ≤ lk) && decide ((lk : Int) ≤ 4) && ((lo : Int) == lk)
  else if op = 5 then decide ((lk : Int) ≤ 4) && decide ((la : Int) ≤ 6) else true
def countsFit (n : DNode) : Bool := countsN n.op n.exprs.length n.keys.length n.others.length n.aggs.length

set_option maxHeartbeats 1000000 in
theorem countsN_any (op a b : Int) (ae ak ao aa : Option Addr) (le lk lo la ce ck co ca : Nat) (w : World) :
    Calls Tryz.prog 82 #[.agg #[.int .i64 op, .int .i64 a, .int .i64 b, .slice ae le ce, .slice ak lk ck, .slice ao lo co, .slice aa la ca]] w fun e w' => e = .returned (.bool (countsN op le lk lo la)) ∧ Below w.heap.size w w' := by
  go_enter Tryz.func82, Tryz.ntmps82
  go_wp2_with (go_at_call 103; refine (within_any _ _ _ _).mono ?_; rintro e w3 ⟨rfl, rfl⟩)
  all_goals (go_ret; refine ⟨?_, (Below.refl _ _).alloc (Nat.le_refl _) _⟩; go_light; simp_all [countsN] <;> omega)

theorem countsFit_any (n : DNode) (ve vk vo va : Value) (w : World) (h : NodeIs w ve vk vo va n) :
    Calls Tryz.prog 82 #[nodeV n ve vk vo va] w fun e w' => e = .returned (.bool (countsFit n)) ∧ Below w.heap.size w w' := by
  obtain ⟨ae, ce, ak, ck, ao, co, aa, ca, rfl, rfl, rfl, rfl⟩ := h.shape
  exact countsN_any _ _ _ _ _ _ _ _ _ _ _ _ _ _ _ w

end Go.Proofs.YtekkicgbloidkaaGreatDoor
