/- The type of an expression: the walk over its terms. -/
import Derived.Test.YtekkicgbloidkaaGreatDoorTyH
import Derived.Test.YtekkicgbloidkaaGreatDoorGrow
import Derived.Deep.DeepCutAuto
namespace Go.Proofs.YtekkicgbloidkaaGreatDoor
open Go Go.RowKit
attribute [local go_sem ↓] Go.wp_at_zero Go.wp_at_succ

def exprStep (cols : List (Int × Int)) (st : List (Int × Int)) (t : DTerm) : Option (List (Int × Int)) :=
  if (operands t.op).2 = true ∧ (operands t.op).1.toNat ≤ st.length then
    (if (apTy t (st.drop (st.length - (operands t.op).1.toNat)) cols).2 = true then some (st.take (st.length - (operands t.op).1.toNat) ++ [(apTy t (st.drop (st.length - (operands t.op).1.toNat)) cols).1]) else none)
  else none
def exprRun (cols : List (Int × Int)) : List DTerm → List (Int × Int) → Option (List (Int × Int))
  | [], st => some st
  | t :: r, st => (exprStep cols st t).bind (exprRun cols r)
def exprTy (e : List DTerm) (cols : List (Int × Int)) : (Int × Int) × Bool :=
  if e.length < 1 ∨ 20 < e.length then ((0, 0), false)
  else match exprRun cols e [] with
    | some [t] => (t, true)
    | _ => ((0, 0), false)

theorem exprRun_snoc (cols : List (Int × Int)) (l : List DTerm) (t : DTerm) (st : List (Int × Int)) : exprRun cols (l ++ [t]) st = (exprRun cols l st).bind (fun s => exprStep cols s t) := by
  induction l generalizing st with
  | nil => simp only [List.nil_append, exprRun, Option.bind_some]; cases exprStep cols st t <;> rfl
  | cons a r ih =>
    simp only [List.cons_append, exprRun]
    cases exprStep cols st a with
    | none => rfl
    | some s => simp only [Option.bind_some]; exact ih s
theorem exprRun_none (cols : List (Int × Int)) (l r : List DTerm) (st : List (Int × Int)) (h : exprRun cols l st = none) : exprRun cols (l ++ r) st = none := by
  induction l generalizing st with
  | nil => simp [exprRun] at h
  | cons a l ih =>
    simp only [List.cons_append, exprRun] at *
    cases hs : exprStep cols st a with
    | none => rfl
    | some s => rw [hs] at h; simp only [Option.bind_some] at *; exact ih s h
theorem exprRun_stop {cols : List (Int × Int)} {e : List DTerm} {k : Nat} (hk : k < e.length) {st : List (Int × Int)} (h : exprRun cols (e.take k) [] = some st) (hs : exprStep cols st e[k] = none) : exprRun cols e [] = none := by
  have h1 : exprRun cols (e.take (k + 1)) [] = none := by
    rw [List.take_succ_eq_append_getElem hk, exprRun_snoc, h]; exact hs
  have := exprRun_none cols (e.take (k + 1)) (e.drop (k + 1)) [] h1
  rwa [List.take_append_drop] at this
theorem exprRun_go {cols : List (Int × Int)} {e : List DTerm} {k : Nat} (hk : k < e.length) {st st' : List (Int × Int)} (h : exprRun cols (e.take k) [] = some st) (hs : exprStep cols st e[k] = some st') : exprRun cols (e.take (k + 1)) [] = some st' := by
  rw [List.take_succ_eq_append_getElem hk, exprRun_snoc, h]; exact hs
theorem exprTy_none {cols : List (Int × Int)} {e : List DTerm} (h : exprRun cols e [] = none) : exprTy e cols = ((0, 0), false) := by
  unfold exprTy; rw [h]; split <;> rfl

theorem term_at {w : World} {ao : Option Addr} {e : List DTerm} (hel : ∀ i (h : i < e.length), ∃ b off, ao = some ⟨b, off, none⟩ ∧ RTerm w (fun j => w.cell? ⟨b, off + i * 4 + j, none⟩) e[i]) {k : Nat} (hk : k < e.length) :
    ∃ b off, ao = some ⟨b, off, none⟩ ∧ w.cell? ⟨b, off + k * 4, none⟩ = some (.int .i64 e[k].op) ∧ w.cell? ⟨b, off + k * 4 + 1, none⟩ = some (.int .i64 e[k].a) ∧ w.cell? ⟨b, off + k * 4 + 2, none⟩ = some (.int .i64 e[k].v) ∧ w.cell? ⟨b, off + k * 4 + 3, none⟩ = some (.string e[k].s) ∧ e[k].s.size ≤ 9223372036854775807 := by
  obtain ⟨b, off, ha, h0, h1, h2, h3, h4⟩ := hel k hk
  exact ⟨b, off, ha, h0, h1, h2, h3, h4⟩

theorem apply_any (t : DTerm) (ht : t.s.size ≤ 9223372036854775807) (tk cols : List (Int × Int)) (hl : tk.length ≤ 2) (vt vc : Value) (w : World) (hv : RTys w vc cols) (hk : RTys w vt tk) :
    Calls Tryz.prog 114 #[termV t, vt, vc] w fun e w' => e = .returned (.tuple #[tyV (apTy t tk cols).1, .bool (apTy t tk cols).2]) ∧ Below w.heap.size w w' := by
  obtain ⟨ao, cap, rfl, -, hel⟩ := hk
  match tk, hl with
  | [], _ => exact apply0_any t ht cols ao cap vc w hv
  | [o], _ =>
    obtain ⟨b, off, rfl, h0, h1⟩ := hel 0 (by simp)
    simp only [Nat.zero_mul, Nat.add_zero] at h0 h1
    exact apply1_any t o b off cap vc w h0 h1
  | [l, r], _ =>
    obtain ⟨b, off, rfl, h0, h1⟩ := hel 0 (by simp)
    obtain ⟨b', off', hba, h2, h3⟩ := hel 1 (by simp)
    simp only [Option.some.injEq, Addr.mk.injEq, and_true] at hba
    obtain ⟨rfl, rfl⟩ := hba
    simp only [Nat.zero_mul, Nat.one_mul, Nat.add_zero] at h0 h1 h2 h3
    exact apply2_any t l r b off cap vc w h0 h1 h2 h3

/-- The end of a row of types that is owned reads as its last types. -/
theorem RTys.tail {w : World} {base : Nat} {e : TypeId} {ao : Option Addr} {cap : Nat} {st : List (Int × Int)} (h : w.ownsRow base e 2 (.slice ao st.length cap) st.length (flatTy st)) (hl : st.length ≤ 9223372036854775807) (m : Nat) (hm : m ≤ st.length) :
    RTys w (.slice (if cap = m then ao else ao.map (·.add (m * 2))) (st.length - m) (cap - m)) (st.drop m) := by
  refine ⟨_, _, by rw [List.length_drop], by rw [List.length_drop]; omega, fun i hi => ?_⟩
  rw [List.length_drop] at hi
  have hr := RTys.owns h hl
  obtain ⟨ao', cap', hv, -, hel⟩ := hr
  simp only [Value.slice.injEq, true_and] at hv
  obtain ⟨rfl, rfl⟩ := hv
  obtain ⟨b, off, rfl, h0, h1⟩ := hel (m + i) (by omega)
  have hc : ¬ cap = m := by
    rcases h.2 with ⟨hn, h0⟩ | ⟨g, c, cur, hvv, _, _, hnc, _⟩
    · omega
    · simp only [Value.slice.injEq] at hvv; omega
  rw [if_neg hc]
  refine ⟨b, off + m * 2, by simp [Addr.add_lit], ?_, ?_⟩
  · rw [List.getElem_drop]
    have : off + m * 2 + i * 2 + 0 = off + (m + i) * 2 + 0 := by omega
    simp only [this]; exact h0
  · rw [List.getElem_drop]
    have : off + m * 2 + i * 2 + 1 = off + (m + i) * 2 + 1 := by omega
    simp only [this]; exact h1

theorem operands_nat (op : Int) : ∃ m : Nat, m ≤ 2 ∧ (operands op).1 = m := by
  unfold operands
  split
  · exact ⟨0, by omega, rfl⟩
  split
  · exact ⟨1, by omega, rfl⟩
  split
  · exact ⟨2, by omega, rfl⟩
  · exact ⟨0, by omega, rfl⟩

theorem exprStep_no {cols st : List (Int × Int)} {t : DTerm} {m : Nat} (hm : (operands t.op).1 = m) (h : ¬ ((operands t.op).2 = true ∧ m ≤ st.length)) : exprStep cols st t = none := by
  unfold exprStep; rw [hm, Int.toNat_natCast, if_neg h]
theorem exprStep_yes {cols st : List (Int × Int)} {t : DTerm} {m : Nat} (hm : (operands t.op).1 = m) (h1 : (operands t.op).2 = true) (h2 : m ≤ st.length) :
    exprStep cols st t = if (apTy t (st.drop (st.length - m)) cols).2 = true then some (st.take (st.length - m) ++ [(apTy t (st.drop (st.length - m)) cols).1]) else none := by
  unfold exprStep; rw [hm, Int.toNat_natCast, if_pos ⟨h1, h2⟩]

set_option maxHeartbeats 2000000 in
theorem expr_any (e : List DTerm) (cols : List (Int × Int)) (ve vc : Value) (w : World) (he : RTerms w ve e) (hv : RTys w vc cols) :
    Calls Tryz.prog 104 #[ve, vc] w fun en w' => en = .returned (.tuple #[tyV (exprTy e cols).1, .bool (exprTy e cols).2]) ∧ Below w.heap.size w w' := by
  obtain ⟨ao, cap, rfl, hl, hel⟩ := he
  by_cases hs : e.length < 1 ∨ 20 < e.length
  · have HE : Hid (exprTy e cols = ((0, 0), false)) := by unfold Hid exprTy; rw [if_pos hs]
    rcases hs with hs | hs
    all_goals
      go_enter Tryz.func104, Tryz.ntmps104
      go_wp2
      exact bodyPost_ret (v := .tuple #[tyV (0, 0), .bool false]) (by simp [results, Tryz.results104, go_sem]) rfl ⟨by rw [HE.out], (Below.refl _ _).alloc (Nat.le_refl _) _⟩
  have h1 : 1 ≤ e.length := by omega
  have h20 : e.length ≤ 20 := by omega
  have HS : Hid _ := hs
  clear hs
  go_enter Tryz.func104, Tryz.ntmps104
  go_wp2
  go_loopw [6, 25] (fun v i W => ∃ (k : Nat) (st : List (Int × Int)), k ≤ e.length ∧ i = .int .i64 k ∧ exprRun cols (e.take k) [] = some st ∧ st.length ≤ k ∧ (∃ a c, v = .slice a st.length c) ∧ W.ownsRow (w.heap.size + 1) 103 2 v st.length (flatTy st) ∧ Below w.heap.size w W ∧ Box W w.heap.size #[.int .i64 0, .int .i64 0] 103)
    (fun _ i _ => e.length - (intOf i).toNat)
  case atStart => exact ⟨0, [], Nat.zero_le _, rfl, rfl, by simp, ⟨none, 0, rfl⟩, World.ownsRow_nil _ _ _ _, (Below.refl _ _).alloc (Nat.le_refl _) _, Box.new _ _ _⟩
  case round =>
    obtain ⟨k, st, hk, rfl, hrun, hstk, ⟨a, c, rfl⟩, hown, hB, hbox⟩ := hrel
    have HR : Hid _ := hrun
    have HO : Hid (wr.ownsRow (w.heap.size + 1) 103 2 (.slice a st.length c) st.length (flatTy st)) := hown
    have HB : Hid _ := hB
    have HX : Hid (Box wr w.heap.size #[.int .i64 0, .int .i64 0] 103) := hbox
    clear hrun hown hB hbox
    by_cases hlt : k < e.length
    · obtain ⟨b, off, rfl, d0, d1, d2, d3, d4⟩ := term_at hel hlt
      have kp := Keeps.of_below HB.out
      have e0 := kp _ _ _ d0
      have e1 := kp _ _ _ d1
      have e2 := kp _ _ _ d2
      have e3 := kp _ _ _ d3
      have hbw := cell_lt e0
      clear kp d0 d1 d2 d3
      generalize hT : e[k] = t at *
      have HT : Hid _ := hT
      clear hT
      go_wp2_with fail
      refine (operands_any _ _).mono ?_
      rintro en w1 ⟨rfl, rfl⟩
      obtain ⟨m, hm2, hm⟩ := operands_nat t.op
      have HM : Hid _ := hm
      have hfst : (operands t.op).1 = (m : Int) := hm
      clear hm
      by_cases hkn : (operands t.op).2 = true
      · by_cases hms : m ≤ st.length
        · have hms' : ¬ ((st.length : Int) < (m : Int)) := by omega
          have hbt := (Box.new wr #[.int .i64 t.op, .int .i64 t.a, .int .i64 t.v, .string t.s] 87)
          have HY : Hid _ := exprStep_yes (cols := cols) HM.out hkn hms
          have hv1 := (hv.mono mono_RTy (Keeps.of_below HB.out)).mono mono_RTy ((Keeps.refl wr).alloc (.cells #[.int .i64 t.op, .int .i64 t.a, .int .i64 t.v, .string t.s] 87))
          have htl := RTys.tail (HO.out.alloc (.cells #[.int .i64 t.op, .int .i64 t.a, .int .i64 t.v, .string t.s] 87)) (by omega) (st.length - m) (by omega)
          have hi0 : (0 : Int) ≤ ((st.length - m : Nat) : Int) := by omega
          have hi1 : ((st.length - m : Nat) : Int) ≤ (st.length : Int) := by omega
          have hsub : (st.length : Int) - (m : Int) = ((st.length - m : Nat) : Int) := by omega
          have hdl : (st.drop (st.length - m)).length ≤ 2 := by rw [List.length_drop]; omega
          have k1 := (Keeps.refl (wr.alloc (.cells #[.int .i64 t.op, .int .i64 t.a, .int .i64 t.v, .string t.s] 87))).drew
          have k2 := ((Keeps.refl (wr.alloc (.cells #[.int .i64 t.op, .int .i64 t.a, .int .i64 t.v, .string t.s] 87))).alloc (.cells #[.int .i64 0, .int .i64 0] 103)).drew
          have hvU : Hid (∀ W, Keeps (wr.alloc (.cells #[.int .i64 t.op, .int .i64 t.a, .int .i64 t.v, .string t.s] 87)) W → RTys W vc cols) := fun W hk => hv1.mono mono_RTy hk
          have htU : Hid (∀ W, Keeps (wr.alloc (.cells #[.int .i64 t.op, .int .i64 t.a, .int .i64 t.v, .string t.s] 87)) W → RTys W _ _) := fun W hk => htl.mono mono_RTy hk
          have K1 : Hid _ := k1
          have K2 : Hid _ := k2
          clear hv1 htl k1 k2
          generalize hT2 : (if c = st.length - m then a else a.map (·.add ((st.length - m) * 2))) = aT at htU
          generalize hR : apTy t (st.drop (st.length - m)) cols = R at *
          have HRR : Hid _ := hR
          clear hR
          have bX := (Box.new (wr.alloc (.cells #[.int .i64 t.op, .int .i64 t.a, .int .i64 t.v, .string t.s] 87)) #[.int .i64 0, .int .i64 0] 103).drew
          rw [show (wr.alloc (.cells #[.int .i64 t.op, .int .i64 t.a, .int .i64 t.v, .string t.s] 87)).heap.size = wr.heap.size + 1 by simp] at bX
          go_upto_region 11 with fail
          go_cut [12, 13] (fun p ok W => ∃ B, p = .pointer (some ⟨B, 0, none⟩) ∧ ok = .bool R.2 ∧ Box W B #[.int .i64 R.1.1, .int .i64 R.1.2] 103 ∧ Below wr.heap.size wr W ∧ wr.heap.size ≤ B)
          case first =>
            go_region_held3 (fun W => W.cell? ⟨wr.heap.size, 0, none⟩ = some (.int .i64 t.op) ∧ W.cell? ⟨wr.heap.size, 1, none⟩ = some (.int .i64 t.a) ∧ W.cell? ⟨wr.heap.size, 2, none⟩ = some (.int .i64 t.v) ∧ W.cell? ⟨wr.heap.size, 3, none⟩ = some (.string t.s))
              ((go_split_ands; refine ⟨?_, ?_, ?_, ?_⟩ <;> first | (exact (Keeps.of_below hb2) _ _ _ (by assumption)) | (exact cell_set_ne (cell_set_ne (by assumption) (by omega)) (by omega)) | (exact ((hbt.drew.call hb2).alloc _).rules.1 _) | (go_keep; done)))
              (first | (go_at_call 114; refine (apply_any t d4 _ cols hdl _ vc _ (hvU.out _ K1.out) (htU.out _ K1.out)).mono ?_; rintro en w2 ⟨rfl, hb2⟩) | (go_at_call 114; refine (apply_any t d4 _ cols hdl _ vc _ (hvU.out _ K2.out) (htU.out _ K2.out)).mono ?_; rintro en w2 ⟨rfl, hb2⟩; have bX2 := bX.call hb2; obtain ⟨hcX, hfX, hlX⟩ := bX2.all))
            · go_wp2_with fail
              go_meet
              case rel => exact ⟨_, rfl, by rw [HRR.out], by rw [← HRR.out]; exact Box.new _ _ _, (Below.step hb2 ((Below.refl _ _).alloc (Nat.le_refl _) _).drew (by simp)).alloc (by have := hb2.size; simp at this; omega) _, by have := hb2.size; simp at this; omega⟩
            · go_wp2_with fail
              go_meet
              case rel => exact ⟨_, rfl, by rw [HRR.out], by rw [← HRR.out]; exact (bX2.set 0 _).set 1 _, (((Below.step hb2 (((Below.refl _ _).alloc (Nat.le_refl _) _).alloc (by simp) _).drew (by simp; omega)).setCell (by simp) _).setCell (by simp) _), by omega⟩
          case rest =>
            obtain ⟨B, rfl, rfl, hbB, hBc, hBge⟩ := hcut
            have hX1 : Box wc w.heap.size #[.int .i64 0, .int .i64 0] 103 := HX.out.call hBc
            have HX1 : Hid (Box wc w.heap.size #[.int .i64 0, .int .i64 0] 103) := hX1
            have HO1 : Hid (wc.ownsRow (w.heap.size + 1) 103 2 (.slice a st.length c) st.length (flatTy st)) := owns_call HO.out hBc
            have HB1 : Hid (Below w.heap.size w wc) := HB.out.trans (hBc.mono HB.out.size)
            have HGW : Hid (∀ g, (Value.slice a st.length c).ownBlock = some g → w.heap.size + 1 ≤ g ∧ g < wr.heap.size) := HO.out.lt
            have HBB : Hid (Box wc B #[.int .i64 R.1.1, .int .i64 R.1.2] 103) := hbB
            obtain ⟨hcB, hfB, hlB⟩ := hbB.all
            clear hbB hBc hvU htU K1 K2 bX hbt hT2 e0 e1 e2 e3 hel hX1
            by_cases hR2 : R.2 = true
            · have HG : Hid (exprRun cols (e.take (k + 1)) [] = some (st.take (st.length - m) ++ [R.1])) := exprRun_go hlt HR.out (by rw [HT.out, HY.out, if_pos hR2])
              have hlen : (st.take (st.length - m) ++ [R.1]).length = st.length - m + 1 := by simp [List.length_take]
              have hq : st.length - m ≤ 20 := by omega
              have bN := (Box.new wc #[.int .i64 R.1.1, .int .i64 R.1.2] 103).drew
              have HNW : Hid _ := new_two bN
              have HOW : Hid (∀ g, a = some ⟨g, 0, none⟩ → (wc.alloc (.cells #[.int .i64 R.1.1, .int .i64 R.1.2] 103)).drew.ownsRow (w.heap.size + 1) 103 2 (.slice (some ⟨g, 0, none⟩) (st.length - m) c) (st.length - m) (flatTy (st.take (st.length - m)))) := by
                intro g hg
                have h1 := HO1.out
                rw [hg] at h1
                have h2 := owns_take h1 (st.length - m) (by omega)
                rw [flatTy_take] at h2
                exact (h2.alloc _).drew
              clear bN
              rcases HO1.out.2 with ⟨hv0, hn0⟩ | ⟨g, cap', cur, hv0, hgb, hgg, hnc, -⟩
              · have hst : st = [] := List.eq_nil_of_length_eq_zero hn0
                subst hst
                simp only [List.length_nil, Value.slice.injEq, true_and] at hv0
                obtain ⟨rfl, rfl⟩ := hv0
                have hm0 : m = 0 := by simpa using hms
                subst hm0
                have HOG : Hid _ := World.ownsRow_nil (wc.alloc (.cells #[.int .i64 R.1.1, .int .i64 R.1.2] 103)).drew (w.heap.size + 1) 103 2
                clear HO1 HOW HGW
                have hs0 : (wc.alloc (.cells #[.int .i64 R.1.1, .int .i64 R.1.2] 103)).drew.heap.size = wc.heap.size + 1 := by simp
                have hs1 : w.heap.size + 1 ≤ (wc.alloc (.cells #[.int .i64 R.1.1, .int .i64 R.1.2] 103)).drew.heap.size := by have := HB1.out.size; simp; omega
                have HS0 : Hid _ := hs0
                have HS1 : Hid _ := hs1
                clear hs0 hs1
                go_upto_region 14 with fail
                go_region_held3 (fun W => W.cell? ⟨B, 0, none⟩ = some (.int .i64 R.1.1) ∧ W.cell? ⟨B, 1, none⟩ = some (.int .i64 R.1.2))
                  ((go_split_ands; refine ⟨?_, ?_⟩ <;> first | (exact ((HBB.out.alloc _).drew.grown hg3 (fun g' hh => by simp [Value.ownBlock] at hh)).rules.1 _) | (go_keep; done)))
                  ((refine step_app elem_ty _ (by rfl) _ _ (by rfl) (w.heap.size + 1) _ _ _ (by rfl) HOG.out wc.heap.size 1 1 _ (by rfl) rfl HNW.out (one_two _ _) (by omega) (by omega) (by omega) HS1.out (wc.heap.size + 1) HS0.out ?_; intro g3 cap3 w3 hown3 hg3 hat3 hlt3))
                have hBW := HB1.out.alloc (by have := HB1.out.size; omega) (.cells #[.int .i64 R.1.1, .int .i64 R.1.2] 103)
                have HBF : Hid (Below w.heap.size w w3) := hBW.drew.grown hg3 (by have := HB1.out.size; simp; omega) (fun k' hk' => by simp [Value.ownBlock] at hk')
                have HXF : Hid (Box w3 w.heap.size #[.int .i64 0, .int .i64 0] 103) := (HX1.out.alloc _).drew.grown hg3 (fun g' hh => by simp [Value.ownBlock] at hh)
                have HOF : Hid (w3.ownsRow (w.heap.size + 1) 103 2 (.slice (some ⟨g3, 0, none⟩) 1 cap3) [R.1].length (flatTy [R.1])) := by
                  unfold Hid; simpa [flatTy] using hown3
                clear hBW hg3 hown3 hat3 hlt3
                go_wp2_with fail
                go_roundw
                case rel =>
                  exact ⟨k + 1, [R.1], by omega, by go_num, by simpa using HG.out, by simp, ⟨some ⟨g3, 0, none⟩, cap3, rfl⟩, HOF.out, HBF.out, HXF.out⟩
                case measure => simp [intOf]; omega
              · simp only [Value.slice.injEq, true_and] at hv0
                obtain ⟨rfl, rfl⟩ := hv0
                have HOg := HOW.out g rfl
                have HOG : Hid _ := HOg
                have hgw := HGW.out g rfl
                have hi2 : ((st.length - m : Nat) : Int) ≤ (c : Int) := by omega
                clear HOg hgg HO1 HOW HGW
                have hs0 : (wc.alloc (.cells #[.int .i64 R.1.1, .int .i64 R.1.2] 103)).drew.heap.size = wc.heap.size + 1 := by simp
                have hs1 : w.heap.size + 1 ≤ (wc.alloc (.cells #[.int .i64 R.1.1, .int .i64 R.1.2] 103)).drew.heap.size := by have := HB1.out.size; simp; omega
                have HS0 : Hid _ := hs0
                have HS1 : Hid _ := hs1
                clear hs0 hs1
                go_upto_region 14 with fail
                go_region_held3 (fun W => W.cell? ⟨B, 0, none⟩ = some (.int .i64 R.1.1) ∧ W.cell? ⟨B, 1, none⟩ = some (.int .i64 R.1.2))
                  ((go_split_ands; refine ⟨?_, ?_⟩ <;> first | (exact ((HBB.out.alloc _).drew.grown hg3 (fun g' hh => by simp [Value.ownBlock] at hh; omega)).rules.1 _) | (go_keep; done)))
                  ((refine step_app elem_ty _ (by rfl) _ _ (by rfl) (w.heap.size + 1) _ _ _ (by rfl) HOG.out wc.heap.size 1 1 _ (by rfl) rfl HNW.out (one_two _ _) (by omega) (by omega) (by omega) HS1.out (wc.heap.size + 1) HS0.out ?_; intro g3 cap3 w3 hown3 hg3 hat3 hlt3))
                have hBW := HB1.out.alloc (by have := HB1.out.size; omega) (.cells #[.int .i64 R.1.1, .int .i64 R.1.2] 103)
                have HBF : Hid (Below w.heap.size w w3) := hBW.drew.grown hg3 (by have := HB1.out.size; simp; omega) (fun k' hk' => by simp [Value.ownBlock] at hk'; omega)
                have HXF : Hid (Box w3 w.heap.size #[.int .i64 0, .int .i64 0] 103) := (HX1.out.alloc _).drew.grown hg3 (fun g' hh => by simp [Value.ownBlock] at hh; omega)
                have HOF : Hid (w3.ownsRow (w.heap.size + 1) 103 2 (.slice (some ⟨g3, 0, none⟩) (st.length - m + 1) cap3) (st.take (st.length - m) ++ [R.1]).length (flatTy (st.take (st.length - m) ++ [R.1]))) := by
                  unfold Hid; rw [hlen, ← flatTy_snoc]; exact hown3
                clear hBW hg3 hown3 hat3 hlt3
                go_wp2_with fail
                go_roundw
                case rel =>
                  exact ⟨k + 1, st.take (st.length - m) ++ [R.1], by omega, by go_num, HG.out, by rw [hlen]; omega, ⟨some ⟨g3, 0, none⟩, cap3, by rw [hlen]⟩, HOF.out, HBF.out, HXF.out⟩
                case measure => simp [intOf]; omega
            · have hR2' : R.2 = false := by simpa using hR2
              have HN : Hid (exprTy e cols = ((0, 0), false)) := exprTy_none (exprRun_stop hlt HR.out (by rw [HT.out, HY.out, if_neg hR2]))
              clear hR2
              obtain ⟨hcr, hfr, hlr⟩ := HX1.out.all
              go_wp2_with fail
              exact bodyPost_ret (v := .tuple #[tyV (0, 0), .bool false]) (by simp [results, Tryz.results104, go_sem, hcr]) rfl ⟨by rw [HN.out], (HB1.out.setCell (by simp) _).setCell (by simp) _⟩
        · have HN : Hid (exprTy e cols = ((0, 0), false)) := exprTy_none (exprRun_stop hlt HR.out (by rw [HT.out]; exact exprStep_no HM.out (fun h => hms h.2)))
          obtain ⟨hcr, hfr, hlr⟩ := HX.out.all
          go_wp2_with fail
          exact bodyPost_ret (v := .tuple #[tyV (0, 0), .bool false]) (by simp [results, Tryz.results104, go_sem, hcr, hlr]) rfl ⟨by rw [HN.out], ((HB.out.setCell (by simp) _).setCell (by simp) _).alloc (by have := HB.out.size; simp; omega) _⟩
      · have hkn' : (operands t.op).2 = false := by simpa using hkn
        have HN : Hid (exprTy e cols = ((0, 0), false)) := exprTy_none (exprRun_stop hlt HR.out (by rw [HT.out]; exact exprStep_no HM.out (fun h => hkn h.1)))
        clear hkn
        obtain ⟨hcr, hfr, hlr⟩ := HX.out.all
        go_wp2_with fail
        exact bodyPost_ret (v := .tuple #[tyV (0, 0), .bool false]) (by simp [results, Tryz.results104, go_sem, hcr, hlr]) rfl ⟨by rw [HN.out], ((HB.out.setCell (by simp) _).setCell (by simp) _).alloc (by have := HB.out.size; simp; omega) _⟩
    · have hke : e.take k = e := List.take_of_length_le (by omega)
      have HR' : Hid (exprRun cols e [] = some st) := by have := HR.out; rw [hke] at this; exact this
      obtain ⟨hcr, hfr, hlr⟩ := HX.out.all
      by_cases h1s : st.length = 1
      · obtain ⟨t, rfl⟩ : ∃ t, st = [t] := List.length_eq_one_iff.1 h1s
        have HE : Hid (exprTy e cols = (t, true)) := by
          unfold Hid exprTy; rw [if_neg HS.out, HR'.out]
        rcases HO.out.2 with ⟨-, hn0⟩ | ⟨g, cap', cur, hv0, hgb, hgg, -⟩
        · simp at hn0
        · simp only [Value.slice.injEq, true_and] at hv0
          obtain ⟨rfl, rfl⟩ := hv0
          have hc0 := owns_cell HO.out 0 (.int .i64 t.1) (by simp [flatTy])
          have hc1 := owns_cell HO.out 1 (.int .i64 t.2) (by simp [flatTy])
          clear hgg hke h1s
          go_wp2_with fail
          exact bodyPost_ret (v := .tuple #[tyV t, .bool true]) (by simp [results, Tryz.results104, go_sem, hcr]) rfl ⟨by rw [HE.out], (HB.out.setCell (by simp) _).setCell (by simp) _⟩
      · have HE : Hid (exprTy e cols = ((0, 0), false)) := by
          unfold Hid exprTy; rw [if_neg HS.out, HR'.out]
          match st, h1s with
          | [], _ => rfl
          | [t], h => simp at h
          | _ :: _ :: _, _ => rfl
        have h1i : ((st.length : Int) == 1) = false := by simpa using (by omega : ¬ (st.length : Int) = 1)
        go_wp2_with fail
        exact bodyPost_ret (v := .tuple #[tyV (0, 0), .bool false]) (by simp [results, Tryz.results104, go_sem, hcr]) rfl ⟨by rw [HE.out], (HB.out.setCell (by simp) _).setCell (by simp) _⟩

end Go.Proofs.YtekkicgbloidkaaGreatDoor
