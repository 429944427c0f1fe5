/- A column that was lent is looked at, and written over. -/
import Derived.Test.YtekkicgbloidkaaGreatDoorSvF
import Derived.Test.YtekkicgbloidkaaGreatDoorSvJ
import Derived.Deep.DeepCutAuto
import Derived.Deep.CutBlock
namespace Go.Proofs.YtekkicgbloidkaaGreatDoor
open Go Go.RowKit
attribute [local go_sem] run_eql_slice_nil

theorem Only.drewN {S : Nat → Prop} {a w : World} (h : Only S a w) (n : Nat) : Only S a (w.drewN n) := h.trans (Only.below (below_drewN (Below.refl _ _) n))
theorem Box.drewN {w : World} {b : Nat} {cs : Array Value} {T : TypeId} (h : Box w b cs T) (n : Nat) : Box (w.drewN n) b cs T := h.call (below_drewN (Below.refl _ _) n)
/-- Another list of one's own stays where one block of another element type is written. -/
theorem Lent.other {w w' : World} {T T' : TypeId} {sz lo hi : Nat} {v0 v : Value} {n g : Nat} {cells : List Value} {cur : Array Value} (h : Lent w T sz lo hi v0 v n cells) (hg : Box w g cur T') (hne : T ≠ T') (ho : Only (fun b => b = g) w w') : Lent w' T sz lo hi v0 v n cells := by
  rcases h with h | ⟨h1, g', cap, cu, hv, hlo, hhi, hb, rest⟩
  · exact .inl h
  · exact .inr ⟨h1, g', cap, cu, hv, hlo, hhi, hb.only ho (hb.ne hg hne), rest⟩
theorem RSl.cellAt {α : Type} {sz : Nat} {R : World → (Nat → Option Value) → α → Prop} {w : World} {ao : Option Addr} {cap : Nat} {l : List α} (h : RSl w sz R (.slice ao l.length cap) l) {k : Nat} (hk : k < l.length) : ∃ b off, ao = some ⟨b, off, none⟩ ∧ R w (fun j => w.cell? ⟨b, off + k * sz + j, none⟩) l[k] := by
  obtain ⟨ao', cap', hv, -, hel⟩ := h
  simp only [Value.slice.injEq, true_and] at hv
  obtain ⟨rfl, rfl⟩ := hv
  exact hel k hk

set_option maxRecDepth 20000 in
set_option maxHeartbeats 16000000 in
theorem spareColumn_any (C : DCol) (vi vs vn vi0 vs0 vn0 wi ws wn : Value) (w0 w : World) (lo hi : Nat) (hlo : w0.heap.size ≤ lo) (_hhi : hi ≤ w.heap.size) (hB : Below w0.heap.size w0 w) (hc : ColIs w0 wi ws wn C) (hsm : ColSm C)
    (l1 : Lent w 2 1 lo hi vi0 vi C.ints.length (C.ints.flatMap flInt ++ [.int .i64 (-77)])) (l2 : Lent w 9 1 lo hi vs0 vs C.strs.length (C.strs.flatMap flStr ++ [.string ⟨#[115, 112, 97, 114, 101]⟩])) (l3 : Lent w 4 1 lo hi vn0 vn C.nulls.length (C.nulls.flatMap flBool ++ [.bool true])) :
    Calls Tryz.prog 36 #[colV C vi vs vn, colV C wi ws wn] w fun e w' => e = .returned (.bool true) ∧ Only (fun b => lo ≤ b ∧ b < hi) w w' := by
  obtain ⟨ai, ci, rfl⟩ := l1.shape
  obtain ⟨az, cz, rfl⟩ := l2.shape
  obtain ⟨an, cn, rfl⟩ := l3.shape
  obtain ⟨bi, di, bz, dz, bn, dn, rfl, rfl, rfl⟩ := hc.shape
  have hB1 : Below w.heap.size w ((w.alloc (.cells #[.int .i64 C.kind, .int .i64 C.scale, .slice ai C.ints.length ci, .slice az C.strs.length cz, .slice an C.nulls.length cn] 67)).alloc (.cells #[.int .i64 C.kind, .int .i64 C.scale, .slice bi C.ints.length di, .slice bz C.strs.length dz, .slice bn C.nulls.length dn] 67)) := ((Below.refl _ _).alloc (Nat.le_refl _) _).alloc (by simp) _
  have HC : Hid (ColIs w0 (.slice bi C.ints.length di) (.slice bz C.strs.length dz) (.slice bn C.nulls.length dn) C) := hc
  have HS1 : Hid (C.ints.length ≤ 2000000) := hsm.ints
  have HS2 : Hid (C.strs.length ≤ 2000000) := hsm.strs
  have HS3 : Hid (C.nulls.length ≤ 2000000) := hsm.nulls
  have hsz := hB.size
  have HB0 : Hid (Below w0.heap.size w0 ((w.alloc (.cells #[.int .i64 C.kind, .int .i64 C.scale, .slice ai C.ints.length ci, .slice az C.strs.length cz, .slice an C.nulls.length cn] 67)).alloc (.cells #[.int .i64 C.kind, .int .i64 C.scale, .slice bi C.ints.length di, .slice bz C.strs.length dz, .slice bn C.nulls.length dn] 67))) := hB.trans (hB1.mono hsz)
  have HL1 : Hid (Lent ((w.alloc (.cells #[.int .i64 C.kind, .int .i64 C.scale, .slice ai C.ints.length ci, .slice az C.strs.length cz, .slice an C.nulls.length cn] 67)).alloc (.cells #[.int .i64 C.kind, .int .i64 C.scale, .slice bi C.ints.length di, .slice bz C.strs.length dz, .slice bn C.nulls.length dn] 67)) 2 1 lo hi vi0 (.slice ai C.ints.length ci) C.ints.length (C.ints.flatMap flInt ++ [.int .i64 (-77)])) := l1.only (S := fun _ => False) (Only.below hB1) (fun _ _ _ => id)
  have HL2 : Hid (Lent ((w.alloc (.cells #[.int .i64 C.kind, .int .i64 C.scale, .slice ai C.ints.length ci, .slice az C.strs.length cz, .slice an C.nulls.length cn] 67)).alloc (.cells #[.int .i64 C.kind, .int .i64 C.scale, .slice bi C.ints.length di, .slice bz C.strs.length dz, .slice bn C.nulls.length dn] 67)) 9 1 lo hi vs0 (.slice az C.strs.length cz) C.strs.length (C.strs.flatMap flStr ++ [.string ⟨#[115, 112, 97, 114, 101]⟩])) := l2.only (S := fun _ => False) (Only.below hB1) (fun _ _ _ => id)
  have HL3 : Hid (Lent ((w.alloc (.cells #[.int .i64 C.kind, .int .i64 C.scale, .slice ai C.ints.length ci, .slice az C.strs.length cz, .slice an C.nulls.length cn] 67)).alloc (.cells #[.int .i64 C.kind, .int .i64 C.scale, .slice bi C.ints.length di, .slice bz C.strs.length dz, .slice bn C.nulls.length dn] 67)) 4 1 lo hi vn0 (.slice an C.nulls.length cn) C.nulls.length (C.nulls.flatMap flBool ++ [.bool true])) := l3.only (S := fun _ => False) (Only.below hB1) (fun _ _ _ => id)
  have HBC : Hid (Box ((w.alloc (.cells #[.int .i64 C.kind, .int .i64 C.scale, .slice ai C.ints.length ci, .slice az C.strs.length cz, .slice an C.nulls.length cn] 67)).alloc (.cells #[.int .i64 C.kind, .int .i64 C.scale, .slice bi C.ints.length di, .slice bz C.strs.length dz, .slice bn C.nulls.length dn] 67)) w.heap.size #[.int .i64 C.kind, .int .i64 C.scale, .slice ai C.ints.length ci, .slice az C.strs.length cz, .slice an C.nulls.length cn] 67) := (Box.new _ _ _).alloc _
  have HBL : Hid (Box ((w.alloc (.cells #[.int .i64 C.kind, .int .i64 C.scale, .slice ai C.ints.length ci, .slice az C.strs.length cz, .slice an C.nulls.length cn] 67)).alloc (.cells #[.int .i64 C.kind, .int .i64 C.scale, .slice bi C.ints.length di, .slice bz C.strs.length dz, .slice bn C.nulls.length dn] 67)) (w.heap.size + 1) #[.int .i64 C.kind, .int .i64 C.scale, .slice bi C.ints.length di, .slice bz C.strs.length dz, .slice bn C.nulls.length dn] 67) := by
    have := Box.new (w.alloc (.cells #[.int .i64 C.kind, .int .i64 C.scale, .slice ai C.ints.length ci, .slice az C.strs.length cz, .slice an C.nulls.length cn] 67)) #[.int .i64 C.kind, .int .i64 C.scale, .slice bi C.ints.length di, .slice bz C.strs.length dz, .slice bn C.nulls.length dn] 67
    unfold Hid; simpa using this
  have HO0 : Hid (Only (fun b => lo ≤ b ∧ b < hi) w ((w.alloc (.cells #[.int .i64 C.kind, .int .i64 C.scale, .slice ai C.ints.length ci, .slice az C.strs.length cz, .slice an C.nulls.length cn] 67)).alloc (.cells #[.int .i64 C.kind, .int .i64 C.scale, .slice bi C.ints.length di, .slice bz C.strs.length dz, .slice bn C.nulls.length dn] 67))) := Only.below hB1
  clear l1 l2 l3 hc hsm hB hB1
  go_enter Tryz.func36, Tryz.ntmps36
  go_upto_if 55 with fail
  generalize ((w.alloc (.cells #[.int .i64 C.kind, .int .i64 C.scale, .slice ai C.ints.length ci, .slice az C.strs.length cz, .slice an C.nulls.length cn] 67)).alloc (.cells #[.int .i64 C.kind, .int .i64 C.scale, .slice bi C.ints.length di, .slice bz C.strs.length dz, .slice bn C.nulls.length dn] 67)) = wA at *
  go_cut [5] (fun ok W => ok = .bool true ∧ Only (fun b => lo ≤ b ∧ b < hi) w W ∧ Below w0.heap.size w0 W ∧ Box W w.heap.size #[.int .i64 C.kind, .int .i64 C.scale, .slice ai C.ints.length ci, .slice az C.strs.length cz, .slice an C.nulls.length cn] 67 ∧ Box W (w.heap.size + 1) #[.int .i64 C.kind, .int .i64 C.scale, .slice bi C.ints.length di, .slice bz C.strs.length dz, .slice bn C.nulls.length dn] 67 ∧ Lent W 9 1 lo hi vs0 (.slice az C.strs.length cz) C.strs.length (C.strs.flatMap flStr ++ [.string ⟨#[115, 112, 97, 114, 101]⟩]) ∧ Lent W 4 1 lo hi vn0 (.slice an C.nulls.length cn) C.nulls.length (C.nulls.flatMap flBool ++ [.bool true]))
  case first =>
    obtain ⟨hcc, hfc, hsc⟩ := HBC.out.all
    obtain ⟨hcl, hfl, hsl⟩ := HBL.out.all
    rcases HL1.out with ⟨-, hv, hn⟩ | ⟨-, g, cap, cur, hv, h1, h2, hb, hcap, hm, hs, ht⟩
    · simp only [Value.slice.injEq] at hv
      obtain ⟨rfl, -, -⟩ := hv
      go_wp2_with fail
      go_meet
      case rel => exact ⟨rfl, HO0.out, HB0.out, HBC.out, HBL.out, HL2.out, HL3.out⟩
    · simp only [Value.slice.injEq, true_and] at hv
      obtain ⟨rfl, rfl⟩ := hv
      have HX : Hid (Box wA g cur 2) := hb
      have hfl2 : (C.ints.flatMap flInt).length = C.ints.length := by rw [flat_length flInt 1 (fun _ => rfl)]; omega
      have z1 : wA.cell? ⟨g, C.ints.length, none⟩ = some (.int .i64 (-77)) := box_at hb ht (by
        rw [List.getElem?_append_right (by omega), hfl2]; simp)
      have HZ : Hid _ := z1
      have HCL : Hid (∀ i (h : i < C.ints.length), cur[i]? = (flInt C.ints[i])[0]?) := fun i h => by
        have e1 : (C.ints.flatMap flInt ++ [.int .i64 (-77)])[i]? = (flInt C.ints[i])[0]? := by
          rw [List.getElem?_append_left (by omega)]
          have := flat_get flInt 1 (fun _ => rfl) C.ints i h 0 (by omega)
          simpa using this
        rw [← e1, ← ht, List.getElem?_take, if_pos (by omega), Array.getElem?_toList]
      have HCS : Hid (cur.size = ci) := by unfold Hid; rw [hs]; omega
      have hgl := hb.lt
      have hlen := HS1.out
      have hci : ((C.ints.length : Int) + 1) ≤ (ci : Int) := by omega
      have HGC : Hid (g ≠ w.heap.size ∧ g ≠ w.heap.size + 1) := ⟨hb.ne HBC.out (by decide), hb.ne HBL.out (by decide)⟩
      clear hb ht hs hfl2
      go_wp2_with fail
      go_loopw [5, 7] (fun ok i W => ∃ (k : Nat) (cu : Array Value), k ≤ C.ints.length + 1 ∧ ok = .bool true ∧ i = .int .i64 k ∧ Box W g cu 2 ∧ cu.size = ci ∧ (∀ j, k ≤ j → cu[j]? = cur[j]?) ∧ Only (fun b => b = g) wA W) (fun _ i _ => C.ints.length + 1 - (intOf i).toNat)
      case atStart => exact ⟨0, cur, Nat.zero_le _, rfl, rfl, HX.out, HCS.out, fun _ _ => rfl, Only.refl _ _⟩
      case round =>
        obtain ⟨k, cu, hk, rfl, rfl, hbx, hcs, hsame, hon⟩ := hrel
        have HXk : Hid (Box wr g cu 2) := hbx
        have HOn : Hid (Only (fun b => b = g) wA wr) := hon
        have HCK : Hid (cu.size = ci) := hcs
        have HSM : Hid (∀ j, k ≤ j → cu[j]? = cur[j]?) := hsame
        clear hbx hon hcs hsame hcc hfc hsc hcl hfl hsl z1 hgl
        have HOX : Hid (Only (fun b => lo ≤ b ∧ b < hi) wA wr) := HOn.out.mono (fun b _ e => by subst e; exact ⟨h1, h2⟩)
        have HBCk : Hid (Box wr w.heap.size _ 67) := HBC.out.only HOn.out (fun e => HGC.out.1 e.symm)
        have HBLk : Hid (Box wr (w.heap.size + 1) _ 67) := HBL.out.only HOn.out (fun e => HGC.out.2 e.symm)
        have HBk : Hid (Below w0.heap.size w0 wr) := HB0.out.trans (HOX.out.toBelow (by have := HB0.out.size; omega) (fun b hb => by omega))
        obtain ⟨hcc, hfc, hsc⟩ := HBCk.out.all
        obtain ⟨hcl, hfl, hsl⟩ := HBLk.out.all
        have hgl := HXk.out.lt
        have hff := HXk.out.rules.2
        by_cases hlt : k < C.ints.length
        · obtain ⟨b, off, hab, hr⟩ := RSl.cellAt HC.out.ints hlt
          subst hab
          simp only [RI64, Nat.mul_one, Nat.add_zero] at hr
          skip
          have e1 := (Keeps.of_below HBk.out) _ _ _ hr
          have hbl := cell_lt e1
          have e2 : wr.cell? ⟨g, k, none⟩ = (flInt C.ints[k])[0]? := by rw [HXk.out.rules.1, HSM.out k (Nat.le_refl _)]; exact HCL.out k hlt
          have e3 : wr.cell? ⟨g, k, none⟩ = some (.int .i64 C.ints[k]) := e2
          have hi1 : (k : Int) < (C.ints.length : Int) + 1 := by omega
          have hi2 : (k : Int) < (C.ints.length : Int) := by omega
          have hi3 : (k : Int) < ((C.ints.length + 1 : Nat) : Int) := by omega
          have hkn : ((k : Int) == (C.ints.length : Int)) = false := by simp; omega
          generalize C.ints[k] = X at *
          clear e2 hr
          go_upto_region 10 with fail
          go_quiet (fail)
          go_wp2_with fail
          go_roundw
          case rel =>
            refine ⟨k + 1, _, by omega, by first | rfl | simp, by go_num, (HXk.out.drewN _).set _ _, by simp; exact HCK.out, fun j hj => ?_, (HOn.out.drewN _).setCell (p := ⟨g, k, none⟩) rfl _⟩
            rw [Array.getElem?_setIfInBounds, if_neg (by omega)]; exact HSM.out j (by omega)
          case measure => simp [intOf]; omega
        · by_cases hlt2 : k < C.ints.length + 1
          · have hkk : k = C.ints.length := by omega
            subst hkk
            obtain ⟨y, e3⟩ : ∃ y, wr.cell? ⟨g, C.ints.length, none⟩ = some (y) := ⟨cu[C.ints.length]'(by have := HCK.out; omega), by rw [HXk.out.rules.1]; simp⟩
            have hi3 : ((C.ints.length : Nat) : Int) < ((C.ints.length + 1 : Nat) : Int) := by omega
            go_upto_region 10 with fail
            go_quiet (fail)
            go_wp2_with fail
            go_roundw
            case rel =>
              refine ⟨C.ints.length + 1, _, by omega, by first | rfl | simp, by go_num, (HXk.out.drewN _).set _ _, by simp; exact HCK.out, fun j hj => ?_, (HOn.out.drewN _).setCell (p := ⟨g, _, none⟩) rfl _⟩
              rw [Array.getElem?_setIfInBounds, if_neg (by omega)]; exact HSM.out j (by omega)
            case measure => simp [intOf]
          · go_wp2_with fail
            go_meet
            case rel => exact ⟨rfl, HO0.out.trans HOX.out, HBk.out, HBCk.out, HBLk.out, HL2.out.other HX.out (by decide) HOn.out, HL3.out.other HX.out (by decide) HOn.out⟩
  case rest =>
    obtain ⟨rfl, kO, kB, kC, kL, kHL2, kHL3⟩ := hcut
    have KO : Hid (Only (fun b => lo ≤ b ∧ b < hi) w wc) := kO
    have KB : Hid (Below w0.heap.size w0 wc) := kB
    have KC : Hid (Box wc w.heap.size #[.int .i64 C.kind, .int .i64 C.scale, .slice ai C.ints.length ci, .slice az C.strs.length cz, .slice an C.nulls.length cn] 67) := kC
    have KL : Hid (Box wc (w.heap.size + 1) #[.int .i64 C.kind, .int .i64 C.scale, .slice bi C.ints.length di, .slice bz C.strs.length dz, .slice bn C.nulls.length dn] 67) := kL
    have KHL2 : Hid (Lent wc 9 1 lo hi vs0 (.slice az C.strs.length cz) C.strs.length (C.strs.flatMap flStr ++ [.string ⟨#[115, 112, 97, 114, 101]⟩])) := kHL2
    have KHL3 : Hid (Lent wc 4 1 lo hi vn0 (.slice an C.nulls.length cn) C.nulls.length (C.nulls.flatMap flBool ++ [.bool true])) := kHL3
    clear HO0 HB0 HBC HBL HL1 HL2 HL3
    have HO0 := KO
    have HB0 := KB
    have HBC := KC
    have HBL := KL
    have HL2 := KHL2
    have HL3 := KHL3
    clear KO KB KC KL
    obtain ⟨hcc, hfc, hsc⟩ := HBC.out.all
    obtain ⟨hcl, hfl, hsl⟩ := HBL.out.all
    go_upto_if 104 with fail
    clear hcc hfc hsc hcl hfl hsl
    obtain ⟨wB, rfl⟩ : ∃ x : World, x = wc := ⟨wc, rfl⟩
    go_cut [5] (fun ok W => ok = .bool true ∧ Only (fun b => lo ≤ b ∧ b < hi) w W ∧ Below w0.heap.size w0 W ∧ Box W w.heap.size #[.int .i64 C.kind, .int .i64 C.scale, .slice ai C.ints.length ci, .slice az C.strs.length cz, .slice an C.nulls.length cn] 67 ∧ Box W (w.heap.size + 1) #[.int .i64 C.kind, .int .i64 C.scale, .slice bi C.ints.length di, .slice bz C.strs.length dz, .slice bn C.nulls.length dn] 67 ∧ Lent W 4 1 lo hi vn0 (.slice an C.nulls.length cn) C.nulls.length (C.nulls.flatMap flBool ++ [.bool true]))
    case first =>
      obtain ⟨hcc, hfc, hsc⟩ := HBC.out.all
      obtain ⟨hcl, hfl, hsl⟩ := HBL.out.all
      rcases HL2.out with ⟨-, hv, hn⟩ | ⟨-, g, cap, cur, hv, h1, h2, hb, hcap, hm, hs, ht⟩
      · simp only [Value.slice.injEq] at hv
        obtain ⟨rfl, -, -⟩ := hv
        go_wp2_with fail
        go_meet
        case rel => exact ⟨rfl, HO0.out, HB0.out, HBC.out, HBL.out, HL3.out⟩
      · simp only [Value.slice.injEq, true_and] at hv
        obtain ⟨rfl, rfl⟩ := hv
        have HX : Hid (Box wB g cur 9) := hb
        have hfl2 : (C.strs.flatMap flStr).length = C.strs.length := by rw [flat_length flStr 1 (fun _ => rfl)]; omega
        have z1 : wB.cell? ⟨g, C.strs.length, none⟩ = some (.string ⟨#[115, 112, 97, 114, 101]⟩) := box_at hb ht (by
          rw [List.getElem?_append_right (by omega), hfl2]; simp)
        have HZ : Hid _ := z1
        have HCL : Hid (∀ i (h : i < C.strs.length), cur[i]? = (flStr C.strs[i])[0]?) := fun i h => by
          have e1 : (C.strs.flatMap flStr ++ [.string ⟨#[115, 112, 97, 114, 101]⟩])[i]? = (flStr C.strs[i])[0]? := by
            rw [List.getElem?_append_left (by omega)]
            have := flat_get flStr 1 (fun _ => rfl) C.strs i h 0 (by omega)
            simpa using this
          rw [← e1, ← ht, List.getElem?_take, if_pos (by omega), Array.getElem?_toList]
        have HCS : Hid (cur.size = cz) := by unfold Hid; rw [hs]; omega
        have hgl := hb.lt
        have hlen := HS2.out
        have hci : ((C.strs.length : Int) + 1) ≤ (cz : Int) := by omega
        have HGC : Hid (g ≠ w.heap.size ∧ g ≠ w.heap.size + 1) := ⟨hb.ne HBC.out (by decide), hb.ne HBL.out (by decide)⟩
        clear hb ht hs hfl2
        go_wp2_with fail
        go_loopw [5, 9] (fun ok i W => ∃ (k : Nat) (cu : Array Value), k ≤ C.strs.length + 1 ∧ ok = .bool true ∧ i = .int .i64 k ∧ Box W g cu 9 ∧ cu.size = cz ∧ (∀ j, k ≤ j → cu[j]? = cur[j]?) ∧ Only (fun b => b = g) wB W) (fun _ i _ => C.strs.length + 1 - (intOf i).toNat)
        case atStart => exact ⟨0, cur, Nat.zero_le _, rfl, rfl, HX.out, HCS.out, fun _ _ => rfl, Only.refl _ _⟩
        case round =>
          obtain ⟨k, cu, hk, rfl, rfl, hbx, hcs, hsame, hon⟩ := hrel
          have HXk : Hid (Box wr g cu 9) := hbx
          have HOn : Hid (Only (fun b => b = g) wB wr) := hon
          have HCK : Hid (cu.size = cz) := hcs
          have HSM : Hid (∀ j, k ≤ j → cu[j]? = cur[j]?) := hsame
          clear hbx hon hcs hsame hcc hfc hsc hcl hfl hsl z1 hgl
          have HOX : Hid (Only (fun b => lo ≤ b ∧ b < hi) wB wr) := HOn.out.mono (fun b _ e => by subst e; exact ⟨h1, h2⟩)
          have HBCk : Hid (Box wr w.heap.size _ 67) := HBC.out.only HOn.out (fun e => HGC.out.1 e.symm)
          have HBLk : Hid (Box wr (w.heap.size + 1) _ 67) := HBL.out.only HOn.out (fun e => HGC.out.2 e.symm)
          have HBk : Hid (Below w0.heap.size w0 wr) := HB0.out.trans (HOX.out.toBelow (by have := HB0.out.size; omega) (fun b hb => by omega))
          obtain ⟨hcc, hfc, hsc⟩ := HBCk.out.all
          obtain ⟨hcl, hfl, hsl⟩ := HBLk.out.all
          have hgl := HXk.out.lt
          have hff := HXk.out.rules.2
          by_cases hlt : k < C.strs.length
          · obtain ⟨b, off, hab, hr⟩ := RSl.cellAt HC.out.strs hlt
            subst hab
            simp only [RStr, Nat.mul_one, Nat.add_zero] at hr
            obtain ⟨hr, -⟩ := hr
            have e1 := (Keeps.of_below HBk.out) _ _ _ hr
            have hbl := cell_lt e1
            have e2 : wr.cell? ⟨g, k, none⟩ = (flStr C.strs[k])[0]? := by rw [HXk.out.rules.1, HSM.out k (Nat.le_refl _)]; exact HCL.out k hlt
            have e3 : wr.cell? ⟨g, k, none⟩ = some (.string C.strs[k]) := e2
            have hi1 : (k : Int) < (C.strs.length : Int) + 1 := by omega
            have hi2 : (k : Int) < (C.strs.length : Int) := by omega
            have hi3 : (k : Int) < ((C.strs.length + 1 : Nat) : Int) := by omega
            have hkn : ((k : Int) == (C.strs.length : Int)) = false := by simp; omega
            generalize C.strs[k] = X at *
            clear e2 hr
            go_upto_region 18 with fail
            go_quiet (fail)
            go_wp2_with fail
            go_roundw
            case rel =>
              refine ⟨k + 1, _, by omega, by first | rfl | simp, by go_num, (HXk.out.drewN _).set _ _, by simp; exact HCK.out, fun j hj => ?_, (HOn.out.drewN _).setCell (p := ⟨g, k, none⟩) rfl _⟩
              rw [Array.getElem?_setIfInBounds, if_neg (by omega)]; exact HSM.out j (by omega)
            case measure => simp [intOf]; omega
          · by_cases hlt2 : k < C.strs.length + 1
            · have hkk : k = C.strs.length := by omega
              subst hkk
              obtain ⟨y, e3⟩ : ∃ y, wr.cell? ⟨g, C.strs.length, none⟩ = some (y) := ⟨cu[C.strs.length]'(by have := HCK.out; omega), by rw [HXk.out.rules.1]; simp⟩
              have hi3 : ((C.strs.length : Nat) : Int) < ((C.strs.length + 1 : Nat) : Int) := by omega
              go_upto_region 18 with fail
              go_quiet (fail)
              go_wp2_with fail
              go_roundw
              case rel =>
                refine ⟨C.strs.length + 1, _, by omega, by first | rfl | simp, by go_num, (HXk.out.drewN _).set _ _, by simp; exact HCK.out, fun j hj => ?_, (HOn.out.drewN _).setCell (p := ⟨g, _, none⟩) rfl _⟩
                rw [Array.getElem?_setIfInBounds, if_neg (by omega)]; exact HSM.out j (by omega)
              case measure => simp [intOf]
            · go_wp2_with fail
              go_meet
              case rel => exact ⟨rfl, HO0.out.trans HOX.out, HBk.out, HBCk.out, HBLk.out, HL3.out.other HX.out (by decide) HOn.out⟩
    case rest =>
      obtain ⟨rfl, kO, kB, kC, kL, kHL3⟩ := hcut
      have KO : Hid (Only (fun b => lo ≤ b ∧ b < hi) w wc) := kO
      have KB : Hid (Below w0.heap.size w0 wc) := kB
      have KC : Hid (Box wc w.heap.size #[.int .i64 C.kind, .int .i64 C.scale, .slice ai C.ints.length ci, .slice az C.strs.length cz, .slice an C.nulls.length cn] 67) := kC
      have KL : Hid (Box wc (w.heap.size + 1) #[.int .i64 C.kind, .int .i64 C.scale, .slice bi C.ints.length di, .slice bz C.strs.length dz, .slice bn C.nulls.length dn] 67) := kL
      have KHL3 : Hid (Lent wc 4 1 lo hi vn0 (.slice an C.nulls.length cn) C.nulls.length (C.nulls.flatMap flBool ++ [.bool true])) := kHL3
      clear HO0 HB0 HBC HBL HL2 HL3
      have HO0 := KO
      have HB0 := KB
      have HBC := KC
      have HBL := KL
      have HL3 := KHL3
      clear KO KB KC KL
      obtain ⟨hcc, hfc, hsc⟩ := HBC.out.all
      obtain ⟨hcl, hfl, hsl⟩ := HBL.out.all
      go_upto_if 153 with fail
      clear hcc hfc hsc hcl hfl hsl
      obtain ⟨wC, rfl⟩ : ∃ x : World, x = wc := ⟨wc, rfl⟩
      go_cut [5] (fun ok W => ok = .bool true ∧ Only (fun b => lo ≤ b ∧ b < hi) w W ∧ Below w0.heap.size w0 W ∧ Box W w.heap.size #[.int .i64 C.kind, .int .i64 C.scale, .slice ai C.ints.length ci, .slice az C.strs.length cz, .slice an C.nulls.length cn] 67 ∧ Box W (w.heap.size + 1) #[.int .i64 C.kind, .int .i64 C.scale, .slice bi C.ints.length di, .slice bz C.strs.length dz, .slice bn C.nulls.length dn] 67)
      case first =>
        obtain ⟨hcc, hfc, hsc⟩ := HBC.out.all
        obtain ⟨hcl, hfl, hsl⟩ := HBL.out.all
        rcases HL3.out with ⟨-, hv, hn⟩ | ⟨-, g, cap, cur, hv, h1, h2, hb, hcap, hm, hs, ht⟩
        · simp only [Value.slice.injEq] at hv
          obtain ⟨rfl, -, -⟩ := hv
          go_wp2_with fail
          go_meet
          case rel => exact ⟨rfl, HO0.out, HB0.out, HBC.out, HBL.out⟩
        · simp only [Value.slice.injEq, true_and] at hv
          obtain ⟨rfl, rfl⟩ := hv
          have HX : Hid (Box wC g cur 4) := hb
          have hfl2 : (C.nulls.flatMap flBool).length = C.nulls.length := by rw [flat_length flBool 1 (fun _ => rfl)]; omega
          have z1 : wC.cell? ⟨g, C.nulls.length, none⟩ = some (.bool true) := box_at hb ht (by
            rw [List.getElem?_append_right (by omega), hfl2]; simp)
          have HZ : Hid _ := z1
          have HCL : Hid (∀ i (h : i < C.nulls.length), cur[i]? = (flBool C.nulls[i])[0]?) := fun i h => by
            have e1 : (C.nulls.flatMap flBool ++ [.bool true])[i]? = (flBool C.nulls[i])[0]? := by
              rw [List.getElem?_append_left (by omega)]
              have := flat_get flBool 1 (fun _ => rfl) C.nulls i h 0 (by omega)
              simpa using this
            rw [← e1, ← ht, List.getElem?_take, if_pos (by omega), Array.getElem?_toList]
          have HCS : Hid (cur.size = cn) := by unfold Hid; rw [hs]; omega
          have hgl := hb.lt
          have hlen := HS3.out
          have hci : ((C.nulls.length : Int) + 1) ≤ (cn : Int) := by omega
          have HGC : Hid (g ≠ w.heap.size ∧ g ≠ w.heap.size + 1) := ⟨hb.ne HBC.out (by decide), hb.ne HBL.out (by decide)⟩
          clear hb ht hs hfl2
          go_wp2_with fail
          go_loopw [5, 11] (fun ok i W => ∃ (k : Nat) (cu : Array Value), k ≤ C.nulls.length + 1 ∧ ok = .bool true ∧ i = .int .i64 k ∧ Box W g cu 4 ∧ cu.size = cn ∧ (∀ j, k ≤ j → cu[j]? = cur[j]?) ∧ Only (fun b => b = g) wC W) (fun _ i _ => C.nulls.length + 1 - (intOf i).toNat)
          case atStart => exact ⟨0, cur, Nat.zero_le _, rfl, rfl, HX.out, HCS.out, fun _ _ => rfl, Only.refl _ _⟩
          case round =>
            obtain ⟨k, cu, hk, rfl, rfl, hbx, hcs, hsame, hon⟩ := hrel
            have HXk : Hid (Box wr g cu 4) := hbx
            have HOn : Hid (Only (fun b => b = g) wC wr) := hon
            have HCK : Hid (cu.size = cn) := hcs
            have HSM : Hid (∀ j, k ≤ j → cu[j]? = cur[j]?) := hsame
            clear hbx hon hcs hsame hcc hfc hsc hcl hfl hsl z1 hgl
            have HOX : Hid (Only (fun b => lo ≤ b ∧ b < hi) wC wr) := HOn.out.mono (fun b _ e => by subst e; exact ⟨h1, h2⟩)
            have HBCk : Hid (Box wr w.heap.size _ 67) := HBC.out.only HOn.out (fun e => HGC.out.1 e.symm)
            have HBLk : Hid (Box wr (w.heap.size + 1) _ 67) := HBL.out.only HOn.out (fun e => HGC.out.2 e.symm)
            have HBk : Hid (Below w0.heap.size w0 wr) := HB0.out.trans (HOX.out.toBelow (by have := HB0.out.size; omega) (fun b hb => by omega))
            obtain ⟨hcc, hfc, hsc⟩ := HBCk.out.all
            obtain ⟨hcl, hfl, hsl⟩ := HBLk.out.all
            have hgl := HXk.out.lt
            have hff := HXk.out.rules.2
            by_cases hlt : k < C.nulls.length
            · obtain ⟨b, off, hab, hr⟩ := RSl.cellAt HC.out.nulls hlt
              subst hab
              simp only [RBool, Nat.mul_one, Nat.add_zero] at hr
              skip
              have e1 := (Keeps.of_below HBk.out) _ _ _ hr
              have hbl := cell_lt e1
              have e2 : wr.cell? ⟨g, k, none⟩ = (flBool C.nulls[k])[0]? := by rw [HXk.out.rules.1, HSM.out k (Nat.le_refl _)]; exact HCL.out k hlt
              have e3 : wr.cell? ⟨g, k, none⟩ = some (.bool C.nulls[k]) := e2
              have hi1 : (k : Int) < (C.nulls.length : Int) + 1 := by omega
              have hi2 : (k : Int) < (C.nulls.length : Int) := by omega
              have hi3 : (k : Int) < ((C.nulls.length + 1 : Nat) : Int) := by omega
              have hkn : ((k : Int) == (C.nulls.length : Int)) = false := by simp; omega
              generalize C.nulls[k] = X at *
              clear e2 hr
              go_upto_region 26 with fail
              go_quiet (fail)
              go_wp2_with fail
              go_roundw
              case rel =>
                refine ⟨k + 1, _, by omega, by first | rfl | simp, by go_num, (HXk.out.drewN _).set _ _, by simp; exact HCK.out, fun j hj => ?_, (HOn.out.drewN _).setCell (p := ⟨g, k, none⟩) rfl _⟩
                rw [Array.getElem?_setIfInBounds, if_neg (by omega)]; exact HSM.out j (by omega)
              case measure => simp [intOf]; omega
            · by_cases hlt2 : k < C.nulls.length + 1
              · have hkk : k = C.nulls.length := by omega
                subst hkk
                obtain ⟨y, e3⟩ : ∃ y, wr.cell? ⟨g, C.nulls.length, none⟩ = some (.bool y) := ⟨true, by rw [HXk.out.rules.1, HSM.out _ (Nat.le_refl _)]; rw [← HX.out.rules.1]; exact HZ.out⟩
                have hi3 : ((C.nulls.length : Nat) : Int) < ((C.nulls.length + 1 : Nat) : Int) := by omega
                go_upto_region 26 with fail
                go_quiet (fail)
                go_wp2_with fail
                go_roundw
                case rel =>
                  refine ⟨C.nulls.length + 1, _, by omega, by first | rfl | simp, by go_num, (HXk.out.drewN _).set _ _, by simp; exact HCK.out, fun j hj => ?_, (HOn.out.drewN _).setCell (p := ⟨g, _, none⟩) rfl _⟩
                  rw [Array.getElem?_setIfInBounds, if_neg (by omega)]; exact HSM.out j (by omega)
                case measure => simp [intOf]
              · go_wp2_with fail
                go_meet
                case rel => exact ⟨rfl, HO0.out.trans HOX.out, HBk.out, HBCk.out, HBLk.out⟩
      case rest =>
        obtain ⟨rfl, kO, kB, kC, kL⟩ := hcut
        have KO : Hid (Only (fun b => lo ≤ b ∧ b < hi) w wc) := kO
        have KB : Hid (Below w0.heap.size w0 wc) := kB
        have KC : Hid (Box wc w.heap.size #[.int .i64 C.kind, .int .i64 C.scale, .slice ai C.ints.length ci, .slice az C.strs.length cz, .slice an C.nulls.length cn] 67) := kC
        have KL : Hid (Box wc (w.heap.size + 1) #[.int .i64 C.kind, .int .i64 C.scale, .slice bi C.ints.length di, .slice bz C.strs.length dz, .slice bn C.nulls.length dn] 67) := kL
        clear HO0 HB0 HBC HBL HL3
        have HO0 := KO
        have HB0 := KB
        have HBC := KC
        have HBL := KL
        clear KO KB KC KL
        obtain ⟨hcc, hfc, hsc⟩ := HBC.out.all
        obtain ⟨hcl, hfl, hsl⟩ := HBL.out.all
        go_wp2_with fail
        go_ret
        exact ⟨rfl, HO0.out⟩

end Go.Proofs.YtekkicgbloidkaaGreatDoor
