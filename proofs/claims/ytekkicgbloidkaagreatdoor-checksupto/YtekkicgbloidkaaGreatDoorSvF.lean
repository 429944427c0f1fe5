/- The type of an aggregate. -/
import Derived.Test.YtekkicgbloidkaaGreatDoorTyE
import Derived.Deep.RegionHeld3
import Derived.Deep.DrawnRows
import Derived.BigRegion
import Derived.Test.YtekkicgbloidkaaGreatDoorGrow
import Derived.Test.YtekkicgbloidkaaGreatDoorTbB
namespace Go.Proofs.YtekkicgbloidkaaGreatDoor
open Go Go.RowKit
attribute [local go_sem ↓] Go.wp_at_zero Go.wp_at_succ

def aggTy (g : Int × Int) (cols : List (Int × Int)) : (Int × Int) × Bool :=
  if g.1 = 1 ∧ g.2 = -1 then ((1, 0), true) else if g.1 = 1 then ((1, 0), (colAt cols g.2).2)
  else if g.1 = 2 then ((colAt cols g.2).1, (colAt cols g.2).2 && tNum (colAt cols g.2).1) else if g.1 = 3 ∨ g.1 = 4 then colAt cols g.2 else ((0, 0), false)

theorem agg_box (w : World) (k a : Int) :
    Box ((w.alloc (.cells #[.int .i64 k, .int .i64 a] 126)).alloc (.cells #[.int .i64 0, .int .i64 0] 103)) (w.heap.size + 1) #[.int .i64 0, .int .i64 0] 103 ∧
    Box ((w.alloc (.cells #[.int .i64 k, .int .i64 a] 126)).alloc (.cells #[.int .i64 0, .int .i64 0] 103)) w.heap.size #[.int .i64 k, .int .i64 a] 126 ∧
    Below w.heap.size w ((w.alloc (.cells #[.int .i64 k, .int .i64 a] 126)).alloc (.cells #[.int .i64 0, .int .i64 0] 103)) := by
  refine ⟨?_, (Box.new w _ _).alloc _, ((Below.refl _ _).alloc (by simp) _).alloc (by simp) _⟩
  have := Box.new (w.alloc (.cells #[.int .i64 k, .int .i64 a] 126)) #[.int .i64 0, .int .i64 0] 103
  rwa [show (w.alloc (.cells #[.int .i64 k, .int .i64 a] 126)).heap.size = w.heap.size + 1 by simp] at this

set_option maxHeartbeats 1000000 in
theorem aggregate0_any (vc : Value) (w : World) :
    Calls Tryz.prog 107 #[.agg #[.int .i64 1, .int .i64 (-1)], vc] w fun e w' => e = .returned (.tuple #[tyV (1, 0), .bool true]) ∧ Below w.heap.size w w' := by
  obtain ⟨br0, ba0, hB0⟩ := agg_box w 1 (-1)
  go_enter Tryz.func107, Tryz.ntmps107
  go_wp2_with fail
  refine (whole_any _).mono ?_
  rintro e w1 ⟨rfl, hb1⟩
  have hB1 : Below w.heap.size w w1 := Below.step hb1 hB0 (by simp <;> omega)
  obtain ⟨hcr, hfr, hlr⟩ := (br0.call hb1).all
  go_wp2_with fail
  exact bodyPost_ret (v := .tuple #[tyV (1, 0), .bool true]) (by simp [results, Tryz.results107, go_sem, hcr]) rfl ⟨rfl, (hB1.setCell (by simp) _).setCell (by simp) _⟩

set_option maxHeartbeats 2000000 in
theorem aggregateN_any (k a : Int) (hka : ¬ (k = 1 ∧ a = -1)) (cols : List (Int × Int)) (vc : Value) (w : World) (hv : RTys w vc cols) :
    Calls Tryz.prog 107 #[.agg #[.int .i64 k, .int .i64 a], vc] w fun e w' => e = .returned (.tuple #[tyV (aggTy (k, a) cols).1, .bool (aggTy (k, a) cols).2]) ∧ Below w.heap.size w w' := by
  obtain ⟨br0, ba0, hB0⟩ := agg_box w k a
  have hv0 := hv.mono mono_RTy (Keeps.of_below hB0)
  have HC : Hid (aggTy (k, a) cols = if k = 1 then ((1, 0), (colAt cols a).2) else if k = 2 then ((colAt cols a).1, (colAt cols a).2 && tNum (colAt cols a).1) else if k = 3 ∨ k = 4 then colAt cols a else ((0, 0), false)) := by
    unfold Hid aggTy; rw [if_neg hka]
  have hg : (decide (k = 1) && decide (a = -1)) = false := by simpa using hka
  have hgo : ∀ (P : Prop), P → P := fun _ h => h
  clear hgo
  have hgk : ((k == 1) && (a == -1)) = false := by simpa using hka
  by_cases hk1 : k = 1
  · subst hk1
    have ha : (a == -1) = false := by simpa using hgk
    have HE : Hid (aggTy (1, a) cols = ((1, 0), (colAt cols a).2)) := by unfold Hid; rw [HC.out, if_pos rfl]
    clear hg hgk hka
    go_enter Tryz.func107, Tryz.ntmps107
    go_wp2_with fail
    refine (column_any cols vc a _ hv0).mono ?_
    rintro e w1 ⟨rfl, hb1⟩
    have hB1 : Below w.heap.size w w1 := Below.step hb1 hB0 (by simp <;> omega)
    have br1 := br0.call hb1
    have ba1 := ba0.call hb1
    obtain ⟨hcr, hfr, hlr⟩ := br1.all
    obtain ⟨hca, hfa, hla⟩ := ba1.all
    go_wp2_with fail
    refine (whole_any _).mono ?_
    rintro e w2 ⟨rfl, hb2⟩
    have hB2 : Below w.heap.size w w2 := Below.step hb2 (hB1.alloc (by omega) _) (by simp <;> omega)
    obtain ⟨hcr2, hfr2, hlr2⟩ := ((br1.alloc _).call hb2).all
    go_wp2_with fail
    exact bodyPost_ret (v := .tuple #[tyV (1, 0), .bool (colAt cols a).2]) (by simp [results, Tryz.results107, go_sem, hcr2]) rfl ⟨by rw [HE.out], (hB2.setCell (by simp) _).setCell (by simp) _⟩
  have hk1' : (k == 1) = false := by simpa using hk1
  clear hg hgk hka
  by_cases hk2 : k = 2
  · subst hk2
    have HE : Hid (aggTy (2, a) cols = ((colAt cols a).1, (colAt cols a).2 && tNum (colAt cols a).1)) := by unfold Hid; rw [HC.out, if_neg hk1, if_pos rfl]
    go_enter Tryz.func107, Tryz.ntmps107
    go_wp2_with fail
    refine (column_any cols vc a _ hv0).mono ?_
    rintro e w1 ⟨rfl, hb1⟩
    have hB1 : Below w.heap.size w w1 := Below.step hb1 hB0 (by simp <;> omega)
    have br1 := br0.call hb1
    obtain ⟨hcr, hfr, hlr⟩ := br1.all
    obtain ⟨hca, hfa, hla⟩ := (ba0.call hb1).all
    by_cases hok : (colAt cols a).2 = true
    · go_wp2_with fail
      go_region_held3 (fun W => W.cell? ⟨w1.heap.size, 0, none⟩ = some (.int .i64 (colAt cols a).1.1) ∧ W.cell? ⟨w1.heap.size, 1, none⟩ = some (.int .i64 (colAt cols a).1.2))
        ((go_split_ands; refine ⟨?_, ?_⟩ <;> first | (exact (Keeps.of_below hb2) _ _ _ (by assumption)) | (exact cell_set_ne (cell_set_ne (by assumption) (by omega)) (by omega)) | (go_keep; done)))
        (first | (go_at_call 117; refine (number_any (colAt cols a).1 _).mono ?_; rintro e w2 ⟨rfl, hb2⟩; have br2 := (br1.alloc _).drew.call hb2; obtain ⟨hcr2, hfr2, hlr2⟩ := br2.all))
      have hB2 : Below w.heap.size w w2 := Below.step hb2 (hB1.alloc (by omega) _).drew (by simp <;> omega)
      go_wp2_with fail
      exact bodyPost_ret (v := .tuple #[tyV (colAt cols a).1, .bool ((colAt cols a).2 && tNum (colAt cols a).1)]) (by simp [results, Tryz.results107, go_sem, hcr2, hok]) rfl ⟨by rw [HE.out], (hB2.setCell (by simp) _).setCell (by simp) _⟩
    · have hok' : (colAt cols a).2 = false := by simpa using hok
      clear hok
      go_wp2_with fail
      go_region
      go_wp2_with fail
      exact bodyPost_ret (v := .tuple #[tyV (colAt cols a).1, .bool ((colAt cols a).2 && tNum (colAt cols a).1)]) (by simp [results, Tryz.results107, go_sem, hcr, hlr, hok']) rfl ⟨by rw [HE.out], (((hB1.setCell (by simp) _).setCell (by simp) _).alloc (by simp; omega) _).drew⟩
  have hk2' : (k == 2) = false := by simpa using hk2
  by_cases hk3 : k = 3 ∨ k = 4
  · have HE : Hid (aggTy (k, a) cols = colAt cols a) := by unfold Hid; rw [HC.out, if_neg hk1, if_neg hk2, if_pos hk3]
    rcases hk3 with rfl | rfl
    all_goals
      go_enter Tryz.func107, Tryz.ntmps107
      go_wp2_with fail
      refine (column_any cols vc a _ hv0).mono ?_
      rintro e w1 ⟨rfl, hb1⟩
      have hB1 : Below w.heap.size w w1 := Below.step hb1 hB0 (by simp <;> omega)
      have br1 := br0.call hb1
      obtain ⟨hcr, hfr, hlr⟩ := br1.all
      obtain ⟨hca, hfa, hla⟩ := (ba0.call hb1).all
      go_wp2_with fail
      exact bodyPost_ret (v := .tuple #[tyV (colAt cols a).1, .bool (colAt cols a).2]) (by simp [results, Tryz.results107, go_sem, hcr, hlr]) rfl ⟨by rw [HE.out], ((hB1.setCell (by simp) _).setCell (by simp) _).alloc (by simp; omega) _⟩
  have HE : Hid (aggTy (k, a) cols = ((0, 0), false)) := by unfold Hid; rw [HC.out, if_neg hk1, if_neg hk2, if_neg hk3]
  have hk3' : (k == 3) = false := by simp; omega
  have hk4' : (k == 4) = false := by simp; omega
  go_enter Tryz.func107, Tryz.ntmps107
  go_wp2_with fail
  refine (column_any cols vc a _ hv0).mono ?_
  rintro e w1 ⟨rfl, hb1⟩
  have hB1 : Below w.heap.size w w1 := Below.step hb1 hB0 (by simp <;> omega)
  have br1 := br0.call hb1
  obtain ⟨hcr, hfr, hlr⟩ := br1.all
  obtain ⟨hca, hfa, hla⟩ := (ba0.call hb1).all
  go_wp2_with fail
  exact bodyPost_ret (v := .tuple #[tyV (0, 0), .bool false]) (by simp [results, Tryz.results107, go_sem, hcr, hlr]) rfl ⟨by rw [HE.out], ((hB1.setCell (by simp) _).setCell (by simp) _).alloc (by simp; omega) _⟩

theorem aggregate_any (g : Int × Int) (cols : List (Int × Int)) (vc : Value) (w : World) (hv : RTys w vc cols) :
    Calls Tryz.prog 107 #[tyV g, vc] w fun e w' => e = .returned (.tuple #[tyV (aggTy g cols).1, .bool (aggTy g cols).2]) ∧ Below w.heap.size w w' := by
  obtain ⟨k, a⟩ := g
  by_cases h : k = 1 ∧ a = -1
  · obtain ⟨rfl, rfl⟩ := h; exact aggregate0_any vc w
  · exact aggregateN_any k a h cols vc w hv

end Go.Proofs.YtekkicgbloidkaaGreatDoor
/- A list is gone through, and each must be right. Plain facts. -/
namespace Go.Proofs.YtekkicgbloidkaaGreatDoor
open Go

def mapOk {α β : Type} (f : α → β × Bool) : List α → Option (List β)
  | [] => some []
  | e :: r => if (f e).2 = true then (mapOk f r).map ((f e).1 :: ·) else none
theorem mapOk_snoc {α β : Type} (f : α → β × Bool) (l : List α) (e : α) : mapOk f (l ++ [e]) = (mapOk f l).bind (fun s => if (f e).2 = true then some (s ++ [(f e).1]) else none) := by
  induction l with
  | nil => simp only [List.nil_append, mapOk, Option.bind_some]; split <;> simp
  | cons a r ih =>
    simp only [List.cons_append, mapOk]
    split
    · rw [ih]; cases mapOk f r with
      | none => rfl
      | some s => simp only [Option.bind_some, Option.map_some]; split <;> simp
    · rfl
theorem mapOk_none {α β : Type} (f : α → β × Bool) (l r : List α) (h : mapOk f l = none) : mapOk f (l ++ r) = none := by
  induction l with
  | nil => simp [mapOk] at h
  | cons a l ih =>
    simp only [List.cons_append, mapOk] at *
    split
    · rename_i hc; rw [if_pos hc] at h
      cases hp : mapOk f l with
      | none => rw [ih hp]; rfl
      | some s => rw [hp] at h; simp at h
    · rfl
theorem mapOk_stop {α β : Type} {f : α → β × Bool} {es : List α} {k : Nat} (hk : k < es.length) {st : List β} (h : mapOk f (es.take k) = some st) (hs : (f es[k]).2 = false) : mapOk f es = none := by
  have h1 : mapOk f (es.take (k + 1)) = none := by
    rw [List.take_succ_eq_append_getElem hk, mapOk_snoc, h, Option.bind_some, if_neg (by simp [hs])]
  have := mapOk_none f (es.take (k + 1)) (es.drop (k + 1)) h1
  rwa [List.take_append_drop] at this
theorem mapOk_go {α β : Type} {f : α → β × Bool} {es : List α} {k : Nat} (hk : k < es.length) {st : List β} (h : mapOk f (es.take k) = some st) (hs : (f es[k]).2 = true) : mapOk f (es.take (k + 1)) = some (st ++ [(f es[k]).1]) := by
  rw [List.take_succ_eq_append_getElem hk, mapOk_snoc, h, Option.bind_some, if_pos hs]
theorem mapOk_length {α β : Type} {f : α → β × Bool} {es : List α} {st : List β} (h : mapOk f es = some st) : st.length = es.length := by
  induction es generalizing st with
  | nil => simp only [mapOk, Option.some.injEq] at h; subst h; rfl
  | cons a r ih =>
    simp only [mapOk] at h
    split at h
    · cases hp : mapOk f r with
      | none => rw [hp] at h; simp at h
      | some s => rw [hp] at h; simp only [Option.map_some, Option.some.injEq] at h; subst h; simp [ih hp]
    · simp at h

end Go.Proofs.YtekkicgbloidkaaGreatDoor
/- The types of what a Group gives. -/
namespace Go.Proofs.YtekkicgbloidkaaGreatDoor
open Go Go.RowKit
attribute [local go_sem ↓] Go.wp_at_zero Go.wp_at_succ

theorem ints_at {w : World} {v : Value} {l : List Int} (h : RInts w v l) {k : Nat} (hk : k < l.length) :
    ∃ b off cap, v = .slice (some ⟨b, off, none⟩) l.length cap ∧ b < w.heap.size ∧ w.cell? ⟨b, off + k, none⟩ = some (.int .i64 l[k]) := by
  obtain ⟨ao, cap, rfl, hl, hel⟩ := h
  obtain ⟨b, off, rfl, h0⟩ := hel k hk
  simp only [RI64, Nat.mul_one, Nat.add_zero] at h0
  exact ⟨b, off, cap, rfl, cell_lt h0, h0⟩
theorem aggs_at {w : World} {v : Value} {l : List (Int × Int)} (h : RAggs w v l) {k : Nat} (hk : k < l.length) :
    ∃ b off cap, v = .slice (some ⟨b, off, none⟩) l.length cap ∧ b < w.heap.size ∧ w.cell? ⟨b, off + k * 2, none⟩ = some (.int .i64 l[k].1) ∧ w.cell? ⟨b, off + k * 2 + 1, none⟩ = some (.int .i64 l[k].2) := by
  obtain ⟨ao, cap, rfl, hl, hel⟩ := h
  obtain ⟨b, off, rfl, h0, h1⟩ := hel k hk
  simp only [Nat.add_zero] at h0
  exact ⟨b, off, cap, rfl, cell_lt h0, h0, h1⟩

def groupRun (n : DNode) (cols : List (Int × Int)) : Option (List (Int × Int)) :=
  match mapOk (colAt cols) n.keys with
  | none => none
  | some a => match mapOk (fun g => aggTy g cols) n.aggs with
    | none => none
    | some b => if 1 ≤ (a ++ b).length ∧ (a ++ b).length ≤ 8 then some (a ++ b) else none

set_option maxHeartbeats 4000000 in
theorem grouped_any (n : DNode) (ve vk vo va vc : Value) (cols : List (Int × Int)) (w : World) (hn : NodeIs w ve vk vo va n) (h4 : n.keys.length ≤ 4) (h6 : n.aggs.length ≤ 6) (hv : RTys w vc cols) :
    Calls Tryz.prog 87 #[nodeV n ve vk vo va, vc] w fun e w' => TysRet w' e (groupRun n cols) ∧ Below w.heap.size w w' := by
  have hkeys := hn.keys
  have haggs := hn.aggs
  obtain ⟨ae, ce, ak, ck, ao, co, aa, ca, rfl, rfl, rfl, rfl⟩ := hn.shape
  clear hn
  have bn := Box.new w #[.int .i64 n.op, .int .i64 n.a, .int .i64 n.b, .slice ae n.exprs.length ce, .slice ak n.keys.length ck, .slice ao n.others.length co, .slice aa n.aggs.length ca] 71
  go_enter Tryz.func87, Tryz.ntmps87
  go_wp2
  go_loopw [6, 18] (fun v i W => ∃ (k : Nat) (st : List (Int × Int)), k ≤ n.keys.length ∧ i = .int .i64 k ∧ mapOk (colAt cols) (n.keys.take k) = some st ∧ st.length = k ∧ W.ownsRow (w.heap.size + 1) 103 2 v st.length (flatTy st) ∧ Below (w.heap.size + 1) (w.alloc (.cells #[.int .i64 n.op, .int .i64 n.a, .int .i64 n.b, .slice ae n.exprs.length ce, .slice ak n.keys.length ck, .slice ao n.others.length co, .slice aa n.aggs.length ca] 71)) W)
    (fun _ i _ => n.keys.length - (intOf i).toNat)
  case atStart => exact ⟨0, [], Nat.zero_le _, rfl, rfl, rfl, World.ownsRow_nil _ _ _ _, Below.refl _ _⟩
  case round =>
    obtain ⟨k, st, hk, rfl, hrun, hstk, hown, hBn⟩ := hrel
    have HR : Hid _ := hrun
    have HBN : Hid (Below (w.heap.size + 1) (w.alloc (.cells #[.int .i64 n.op, .int .i64 n.a, .int .i64 n.b, .slice ae n.exprs.length ce, .slice ak n.keys.length ck, .slice ao n.others.length co, .slice aa n.aggs.length ca] 71)) wr) := hBn
    have hwz : w.heap.size + 1 ≤ wr.heap.size := by have := hBn.size; simpa using this
    have HB : Hid (Below w.heap.size w wr) := ((Below.refl _ _).alloc (Nat.le_refl _) _).trans (hBn.mono (by omega))
    have HSK : Hid _ := hstk
    by_cases hlt : k < n.keys.length
    · obtain ⟨b, off, cap, hvv, hb, d0⟩ := ints_at hkeys hlt
      simp only [Value.slice.injEq, true_and] at hvv
      obtain ⟨rfl, rfl⟩ := hvv
      have kp := Keeps.of_below HB.out
      have e0 := kp _ _ _ d0
      have hbw := cell_lt e0
      have hv' := RSl.mono mono_RTy kp hv
      have HO : Hid (wr.ownsRow (w.heap.size + 1) 103 2 u6 st.length (flatTy st)) := hown
      clear hrun hstk hown hBn kp d0
      go_wp2_with fail
      refine (column_any cols vc n.keys[k] _ hv').mono ?_
      rintro e w1 ⟨rfl, hb1⟩
      have HO1 : Hid (w1.ownsRow (w.heap.size + 1) 103 2 u6 st.length (flatTy st)) := owns_call HO.out hb1
      have HB1 : Hid (Below w.heap.size w w1) := Below.step hb1 HB.out HB.out.size
      have HBN1 : Hid (Below (w.heap.size + 1) (w.alloc (.cells #[.int .i64 n.op, .int .i64 n.a, .int .i64 n.b, .slice ae n.exprs.length ce, .slice (some ⟨b, off, none⟩) n.keys.length ck, .slice ao n.others.length co, .slice aa n.aggs.length ca] 71)) w1) := Below.step hb1 HBN.out hwz
      have hwz1 : w.heap.size + 1 ≤ w1.heap.size := by have := hb1.size; omega
      clear hb1 hv' e0
      generalize hR : colAt cols n.keys[k] = R at *
      have HRR : Hid _ := hR
      clear hR
      by_cases hR2 : R.2 = true
      · have HG : Hid (mapOk (colAt cols) (n.keys.take (k + 1)) = some (st ++ [R.1])) := by
          have := mapOk_go hlt HR.out (by rw [HRR.out]; exact hR2)
          rw [HRR.out] at this; exact this
        have bN := (Box.new (w1.alloc (.cells #[.int .i64 R.1.1, .int .i64 R.1.2] 103)) #[.int .i64 R.1.1, .int .i64 R.1.2] 103)
        rw [show (w1.alloc (.cells #[.int .i64 R.1.1, .int .i64 R.1.2] 103)).heap.size = w1.heap.size + 1 by simp] at bN
        have HNW : Hid _ := new_two bN
        have HOG : Hid _ := (HO1.out.alloc (.cells #[.int .i64 R.1.1, .int .i64 R.1.2] 103)).alloc (.cells #[.int .i64 R.1.1, .int .i64 R.1.2] 103)
        have HS0 : Hid (((w1.alloc (.cells #[.int .i64 R.1.1, .int .i64 R.1.2] 103)).alloc (.cells #[.int .i64 R.1.1, .int .i64 R.1.2] 103)).heap.size = w1.heap.size + 1 + 1) := by unfold Hid; simp
        have HS1 : Hid (w.heap.size + 1 ≤ ((w1.alloc (.cells #[.int .i64 R.1.1, .int .i64 R.1.2] 103)).alloc (.cells #[.int .i64 R.1.1, .int .i64 R.1.2] 103)).heap.size) := by unfold Hid; simp; omega
        have HL : Hid (st.length ≤ 8) := by have := HSK.out; unfold Hid; omega
        have HGW : Hid (∀ g, u6.ownBlock = some g → w.heap.size + 1 ≤ g) := fun g hg => (HO1.out.lt g hg).1
        clear bN
        go_wp2_with (at_builtin; refine app_one elem_ty _ (by rfl) _ _ (by rfl) (w.heap.size + 1) u6 st.length (flatTy st) (by rfl) HOG.out (w1.heap.size + 1) 1 1 _ (by rfl) rfl HNW.out (one_two _ _) (by omega) (by have := HL.out; omega) (by have := HL.out; omega) HS1.out (w1.heap.size + 1 + 1) HS0.out ?_; intro g3 cap3 w3 hown3 hg3 hat3 hlt3)
        have hBW := (HBN1.out.alloc (by omega) (.cells #[.int .i64 R.1.1, .int .i64 R.1.2] 103)).alloc (by simp; omega) (.cells #[.int .i64 R.1.1, .int .i64 R.1.2] 103)
        have HBF : Hid (Below (w.heap.size + 1) (w.alloc (.cells #[.int .i64 n.op, .int .i64 n.a, .int .i64 n.b, .slice ae n.exprs.length ce, .slice (some ⟨b, off, none⟩) n.keys.length ck, .slice ao n.others.length co, .slice aa n.aggs.length ca] 71)) w3) := hBW.grown hg3 (by simp; omega) (fun k' hk' => by have := HGW.out k' hk'; omega)
        have hlen : (st ++ [R.1]).length = st.length + 1 := by simp
        have HOF : Hid (w3.ownsRow (w.heap.size + 1) 103 2 (.slice (some ⟨g3, 0, none⟩) (st.length + 1) cap3) (st ++ [R.1]).length (flatTy (st ++ [R.1]))) := by
          unfold Hid; rw [hlen, ← flatTy_snoc]; exact hown3
        clear hBW hg3 hown3 hat3 hlt3
        go_roundw
        case rel => exact ⟨k + 1, st ++ [R.1], by omega, by go_num, HG.out, by rw [hlen, HSK.out], HOF.out, HBF.out⟩
        case measure => simp [intOf]; omega
      · have hR2' : R.2 = false := by simpa using hR2
        have HN : Hid (groupRun n cols = none) := by unfold Hid groupRun; rw [mapOk_stop hlt HR.out (by rw [HRR.out]; exact hR2')]
        clear hR2
        go_wp2_with fail
        go_ret2
        exact ⟨by rw [HN.out]; exact ⟨_, rfl⟩, HB1.out.alloc (by have := HB1.out.size; omega) _⟩
    · have hke : n.keys.take k = n.keys := List.take_of_length_le (by omega)
      have HE : Hid (mapOk (colAt cols) n.keys = some st) := by have := HR.out; rw [hke] at this; exact this
      have HO : Hid (wr.ownsRow (w.heap.size + 1) 103 2 u6 st.length (flatTy st)) := hown
      obtain ⟨hcb, hfb, hlb⟩ := (bn.below HBN.out (by omega)).all
      clear hrun hown hBn hke bn
      have HSL : Hid (st.length ≤ 4) := by have := HSK.out; unfold Hid; omega
      clear HSK hstk
      go_wp2_with fail
      go_loopw [6, 38] (fun v i W => ∃ (k2 : Nat) (st2 : List (Int × Int)), k2 ≤ n.aggs.length ∧ i = .int .i64 k2 ∧ mapOk (fun g => aggTy g cols) (n.aggs.take k2) = some st2 ∧ st2.length = k2 ∧ W.ownsRow (w.heap.size + 1) 103 2 v (st ++ st2).length (flatTy (st ++ st2)) ∧ Below w.heap.size w W ∧ w.heap.size + 1 ≤ W.heap.size)
        (fun _ i _ => n.aggs.length - (intOf i).toNat)
      case atStart => exact ⟨0, [], Nat.zero_le _, rfl, rfl, rfl, by simpa using HO.out, HB.out, hwz⟩
      case round =>
        obtain ⟨k2, st2, hk2, rfl, hrun2, hstk2, hown2, hB2, hwz2⟩ := hrel
        have HR2 : Hid _ := hrun2
        have HBB : Hid (Below w.heap.size w wr) := hB2
        have HSK2 : Hid _ := hstk2
        have HO2 : Hid (wr.ownsRow (w.heap.size + 1) 103 2 u6 (st ++ st2).length (flatTy (st ++ st2))) := hown2
        have HL : Hid ((st ++ st2).length ≤ 10) := by have := HSL.out; unfold Hid; simp; omega
        clear hrun2 hstk2 hown2 hB2 hcb hfb hlb hkeys
        by_cases hlt2 : k2 < n.aggs.length
        · obtain ⟨b, off, cap, hvv, hb, d0, d1⟩ := aggs_at haggs hlt2
          simp only [Value.slice.injEq, true_and] at hvv
          obtain ⟨rfl, rfl⟩ := hvv
          have kp := Keeps.of_below HBB.out
          have e0 := kp _ _ _ d0
          have e1 := kp _ _ _ d1
          have hbw := cell_lt e0
          have hv' := (RSl.mono mono_RTy kp hv).mono mono_RTy ((Keeps.refl wr).alloc (.cells #[.int .i64 n.aggs[k2].1, .int .i64 n.aggs[k2].2] 126))
          clear kp d0 d1
          go_wp2_with fail
          refine (aggregate_any n.aggs[k2] cols vc _ hv').mono ?_
          rintro e w1 ⟨rfl, hb1⟩
          have HO1 : Hid (w1.ownsRow (w.heap.size + 1) 103 2 u6 (st ++ st2).length (flatTy (st ++ st2))) := owns_call (HO2.out.alloc _) hb1
          have hwz1 : w.heap.size + 1 ≤ w1.heap.size := by have := hb1.size; simp at this; omega
          have HB1 : Hid (Below w.heap.size w w1) := Below.step hb1 (HBB.out.alloc (by omega) _) (by simp; omega)
          clear hb1 hv' e0 e1
          generalize hR : aggTy n.aggs[k2] cols = R at *
          have HRR : Hid _ := hR
          clear hR
          by_cases hR2 : R.2 = true
          · have HG : Hid (mapOk (fun g => aggTy g cols) (n.aggs.take (k2 + 1)) = some (st2 ++ [R.1])) := by
              have := mapOk_go (f := fun g => aggTy g cols) hlt2 HR2.out (by rw [HRR.out]; exact hR2)
              rw [HRR.out] at this; exact this
            have bN := (Box.new (w1.alloc (.cells #[.int .i64 R.1.1, .int .i64 R.1.2] 103)) #[.int .i64 R.1.1, .int .i64 R.1.2] 103)
            rw [show (w1.alloc (.cells #[.int .i64 R.1.1, .int .i64 R.1.2] 103)).heap.size = w1.heap.size + 1 by simp] at bN
            have HNW : Hid _ := new_two bN
            have HOG : Hid _ := (HO1.out.alloc (.cells #[.int .i64 R.1.1, .int .i64 R.1.2] 103)).alloc (.cells #[.int .i64 R.1.1, .int .i64 R.1.2] 103)
            have HS0 : Hid (((w1.alloc (.cells #[.int .i64 R.1.1, .int .i64 R.1.2] 103)).alloc (.cells #[.int .i64 R.1.1, .int .i64 R.1.2] 103)).heap.size = w1.heap.size + 1 + 1) := by unfold Hid; simp
            have HS1 : Hid (w.heap.size + 1 ≤ ((w1.alloc (.cells #[.int .i64 R.1.1, .int .i64 R.1.2] 103)).alloc (.cells #[.int .i64 R.1.1, .int .i64 R.1.2] 103)).heap.size) := by unfold Hid; simp; omega
            have HGW : Hid (∀ g, u6.ownBlock = some g → w.heap.size + 1 ≤ g) := fun g hg => (HO1.out.lt g hg).1
            clear bN
            generalize hq : (st ++ st2).length = q at *
            have HQ : Hid _ := hq
            clear hq
            go_wp2_with (at_builtin; refine app_one elem_ty _ (by rfl) _ _ (by rfl) (w.heap.size + 1) u6 q (flatTy (st ++ st2)) (by rfl) HOG.out (w1.heap.size + 1) 1 1 _ (by rfl) rfl HNW.out (one_two _ _) (by omega) (by have := HL.out; omega) (by have := HL.out; omega) HS1.out (w1.heap.size + 1 + 1) HS0.out ?_; intro g3 cap3 w3 hown3 hg3 hat3 hlt3)
            have hBW := (HB1.out.alloc (by omega) (.cells #[.int .i64 R.1.1, .int .i64 R.1.2] 103)).alloc (by simp; omega) (.cells #[.int .i64 R.1.1, .int .i64 R.1.2] 103)
            have HBF : Hid (Below w.heap.size w w3) := hBW.grown hg3 (by simp; omega) (fun k' hk' => by have := HGW.out k' hk'; omega)
            have hw3 : w.heap.size + 1 ≤ w3.heap.size := by have := hg3.size; simp at this; omega
            have hlen : (st ++ (st2 ++ [R.1])).length = q + 1 := by rw [← HQ.out]; simp; omega
            have HOF : Hid (w3.ownsRow (w.heap.size + 1) 103 2 (.slice (some ⟨g3, 0, none⟩) (q + 1) cap3) (st ++ (st2 ++ [R.1])).length (flatTy (st ++ (st2 ++ [R.1])))) := by
              unfold Hid; rw [hlen, ← List.append_assoc, ← flatTy_snoc]; exact hown3
            clear hBW hg3 hown3 hat3 hlt3
            go_roundw
            case rel => exact ⟨k2 + 1, st2 ++ [R.1], by omega, by go_num, HG.out, by simp; exact HSK2.out, HOF.out, HBF.out, hw3⟩
            case measure => simp [intOf]; omega
          · have hR2' : R.2 = false := by simpa using hR2
            have HN : Hid (groupRun n cols = none) := by unfold Hid groupRun; rw [HE.out, mapOk_stop (f := fun g => aggTy g cols) hlt2 HR2.out (by rw [HRR.out]; exact hR2')]
            clear hR2
            go_wp2_with fail
            go_ret2
            exact ⟨by rw [HN.out]; exact ⟨_, rfl⟩, HB1.out.alloc (by omega) _⟩
        · have hke2 : n.aggs.take k2 = n.aggs := List.take_of_length_le (by omega)
          have HE2 : Hid (mapOk (fun g => aggTy g cols) n.aggs = some st2) := by have := HR2.out; rw [hke2] at this; exact this
          have HT : Hid (RTys wr u6 (st ++ st2) ∧ BlkOf 103 wr u6) := ⟨RTys.owns HO2.out (by have := HL.out; omega), BlkOf.owns HO2.out⟩
          obtain ⟨az, cz, rfl⟩ := owns_shape HO2.out
          have HEX : Hid (groupRun n cols = if 1 ≤ (st ++ st2).length ∧ (st ++ st2).length ≤ 8 then some (st ++ st2) else none) := by unfold Hid groupRun; rw [HE.out]; simp only []; rw [HE2.out]
          clear hke2
          generalize hq : (st ++ st2).length = q at *
          have HQ : Hid _ := hq
          clear hq
          go_wp2_with (go_at_call 103; refine (within_any _ _ _ _).mono ?_; rintro e w3 ⟨rfl, rfl⟩)
          go_ret2
          refine ⟨?_, HBB.out⟩
          rw [HEX.out]
          by_cases hq : 1 ≤ q ∧ q ≤ 8
          · rw [if_pos hq]
            refine ⟨_, ?_, HT.out⟩
            simp; omega
          · rw [if_neg hq]
            refine ⟨.slice az q cz, ?_⟩
            simp; omega

end Go.Proofs.YtekkicgbloidkaaGreatDoor
/- Lists that were lent are looked at, and written over: numbers. -/
namespace Go.Proofs.YtekkicgbloidkaaGreatDoor
open Go Go.RowKit
attribute [local go_sem] run_eql_slice_nil

set_option maxRecDepth 20000 in
set_option maxHeartbeats 2000000 in
theorem sameInts_any (l : List Int) (va vb : Value) (w : World) (ha : RInts w va l) (hb : RInts w vb l) :
    Calls Tryz.prog 41 #[va, vb] w fun e w' => e = .returned (.bool true) ∧ Below w.heap.size w w' := by
  obtain ⟨aa, ca, rfl, hla⟩ := ha.shape
  obtain ⟨ab, cb, rfl, -⟩ := hb.shape
  have HA : Hid (RInts w (.slice aa l.length ca) l) := ha
  have HB : Hid (RInts w (.slice ab l.length cb) l) := hb
  clear ha hb
  go_enter Tryz.func41, Tryz.ntmps41
  go_wp2
  go_loopw [5] (fun i W => ∃ k : Nat, k ≤ l.length ∧ i = .int .i64 k ∧ Below w.heap.size w W) (fun i _ => l.length - (intOf i).toNat)
  case atStart => exact ⟨0, Nat.zero_le _, rfl, Below.refl _ _⟩
  case round =>
    obtain ⟨k, hk, rfl, hB⟩ := hrel
    have HBW : Hid (Below w.heap.size w wr) := hB
    clear hB
    by_cases hlt : k < l.length
    · obtain ⟨b1, o1, c1, hv1, -, d1⟩ := ints_at HA.out hlt
      obtain ⟨b2, o2, c2, hv2, -, d2⟩ := ints_at HB.out hlt
      simp only [Value.slice.injEq, true_and] at hv1 hv2
      obtain ⟨rfl, rfl⟩ := hv1
      obtain ⟨rfl, rfl⟩ := hv2
      have kp := Keeps.of_below HBW.out
      have e1 := kp _ _ _ d1
      have e2 := kp _ _ _ d2
      have hl1 := cell_lt e1
      have hl2 := cell_lt e2
      have hi1 : (k : Int) < (l.length : Int) := by omega
      generalize l[k] = X at *
      clear kp d1 d2
      go_upto_region 6 with fail
      go_quiet (fail)
      go_wp2_with fail
      go_roundw
      case rel => exact ⟨k + 1, by omega, by go_num, below_drewN HBW.out _⟩
      case measure => simp [intOf]; omega
    · go_wp2_with fail
      go_ret
      exact ⟨rfl, HBW.out⟩

theorem box_at {w : World} {g : Nat} {cur : Array Value} {T : TypeId} {n : Nat} {cells : List Value} (hb : Box w g cur T) (ht : cur.toList.take n = cells) {j : Nat} {u : Value} (hj : cells[j]? = some u) : w.cell? ⟨g, j, none⟩ = some u := by
  rw [hb.rules.1, ← Array.getElem?_toList]
  rw [← ht, List.getElem?_take] at hj
  split at hj
  · exact hj
  · simp at hj

set_option maxRecDepth 20000 in
set_option maxHeartbeats 4000000 in
theorem spareInts_any (l : List Int) (v0 v : Value) (w : World) (lo hi : Nat) (hl : Lent w 3 1 lo hi v0 v l.length (l.flatMap flInt ++ [.int .i64 (-77)])) (h0 : RInts w v0 l) (h63 : l.length ≤ 2000000) :
    Calls Tryz.prog 38 #[v, v0] w fun e w' => e = .returned (.bool true) ∧ Only (fun b => lo ≤ b ∧ b < hi) w w' := by
  have hrd : RInts w v l := hl.reads flat_int (fun _ _ => trivial)
  rcases hl with ⟨⟨c, rfl⟩, rfl, hn⟩ | ⟨⟨a, c, rfl⟩, g, cap, cur, rfl, h1, h2, hb, hc, hm, hs, ht⟩
  · clear hrd h0
    go_enter Tryz.func38, Tryz.ntmps38
    go_wp2
    go_ret
    exact ⟨rfl, Only.refl _ _⟩
  · have HX : Hid (Box w g cur 3) := hb
    have HZ : Hid (w.cell? ⟨g, l.length, none⟩ = some (.int .i64 (-77))) := box_at hb ht (by
      have hfl : (l.flatMap flInt).length = l.length := by rw [flat_length flInt 1 (fun _ => rfl)]; omega
      rw [List.getElem?_append_right (by omega), hfl]; simp)
    have HR : Hid (RInts w (.slice (some ⟨g, 0, none⟩) l.length cap) l) := hrd
    have H0 : Hid (RInts w (.slice (some a) l.length c) l) := h0
    have HS : Hid (cur.size = cap) := by rw [hs]; unfold Hid; omega
    clear hrd h0 hb ht hs
    go_enter Tryz.func38, Tryz.ntmps38
    go_wp2_with fail
    refine (sameInts_any l _ _ w HR.out H0.out).mono ?_
    rintro e w1 ⟨rfl, hb1⟩
    have HB1 : Hid (Below w.heap.size w w1) := hb1
    have HX1 : Hid (Box w1 g cur 3) := HX.out.call hb1
    have z1 := (Keeps.of_below hb1) _ _ _ HZ.out
    have hg1 := HX1.out.lt
    have hc1 : l.length + 1 ≤ cap := hc
    have hci : ((l.length : Int) + 1) ≤ (cap : Int) := by omega
    clear hb1
    go_wp2_with fail
    go_loopw [7] (fun i W => ∃ (k : Nat) (cu : Array Value), k ≤ l.length + 1 ∧ i = .int .i64 k ∧ Box W g cu 3 ∧ cu.size = cap ∧ Only (fun b => lo ≤ b ∧ b < hi) w W) (fun i _ => l.length + 1 - (intOf i).toNat)
    case atStart => exact ⟨0, cur, Nat.zero_le _, rfl, HX1.out, HS.out, Only.below HB1.out⟩
    case round =>
      obtain ⟨k, cu, hk, rfl, hbx, hcs, hon⟩ := hrel
      have HXk : Hid (Box wr g cu 3) := hbx
      have HOn : Hid (Only (fun b => lo ≤ b ∧ b < hi) w wr) := hon
      have HCS : Hid (cu.size = cap) := hcs
      clear hbx hon hcs
      by_cases hlt : k < l.length + 1
      · have hr := HXk.out.rules.1
        have hff := HXk.out.rules.2
        have hgl := HXk.out.lt
        have hk0 : wr.cell? ⟨g, k, none⟩ = some (cu[k]'(by have := HCS.out; omega)) := by rw [hr]; simp
        have hi1 : (k : Int) < (l.length : Int) + 1 := by omega
        have hi2 : (k : Int) < ((l.length + 1 : Nat) : Int) := by omega
        clear hr
        go_wp2_with fail
        go_roundw
        case rel => exact ⟨k + 1, _, by omega, by go_num, HXk.out.set _ _, by simp; exact HCS.out, HOn.out.setCell (p := ⟨g, k, none⟩) ⟨h1, h2⟩ _⟩
        case measure => simp [intOf]; omega
      · go_wp2_with fail
        go_ret
        exact ⟨rfl, HOn.out⟩

end Go.Proofs.YtekkicgbloidkaaGreatDoor
/- Lists that were lent are looked at, and written over: aggregates and terms. -/
namespace Go.Proofs.YtekkicgbloidkaaGreatDoor
open Go Go.RowKit
attribute [local go_sem] run_eql_slice_nil

set_option maxRecDepth 20000 in
set_option maxHeartbeats 8000000 in
theorem spareAggs_any (l : List (Int × Int)) (v0 v : Value) (w : World) (lo hi : Nat) (hl : Lent w 126 2 lo hi v0 v l.length (l.flatMap flTy ++ [.int .i64 (-77), .int .i64 0])) (h0 : RSl w 2 RTy v0 l) (h63 : l.length ≤ 2000000) :
    Calls Tryz.prog 39 #[v, v0] w fun e w' => e = .returned (.bool true) ∧ Only (fun b => lo ≤ b ∧ b < hi) w w' := by
  rcases hl with ⟨⟨c, rfl⟩, rfl, hn⟩ | ⟨⟨a, c, rfl⟩, g, cap, cur, rfl, h1, h2, hb, hc, hm, hs, ht⟩
  · clear h0
    go_enter Tryz.func39, Tryz.ntmps39
    go_wp2
    go_ret
    exact ⟨rfl, Only.refl _ _⟩
  · have HX : Hid (Box w g cur 126) := hb
    have hfl : (l.flatMap flTy).length = l.length * 2 := flat_length flTy 2 (fun _ => rfl) l
    have z1 : w.cell? ⟨g, l.length * 2, none⟩ = some (.int .i64 (-77)) := box_at hb ht (by
      rw [List.getElem?_append_right (by omega), hfl]; simp)
    have HC : Hid (∀ i (h : i < l.length) j u, j < 2 → (flTy l[i])[j]? = some u → w.cell? ⟨g, i * 2 + j, none⟩ = some u) := fun i h j u hj hu => box_at hb ht (by
      rw [List.getElem?_append_left (by rw [hfl]; have : (i + 1) * 2 ≤ l.length * 2 := Nat.mul_le_mul_right _ h; omega), flat_get flTy 2 (fun _ => rfl) l i h j hj]; exact hu)
    have H0 : Hid (RSl w 2 RTy (.slice (some a) l.length c) l) := h0
    have HS : Hid (cur.size = cap * 2) := hs
    have hg1 := hb.lt
    have hc1 : l.length + 1 ≤ cap := hc
    have hci : ((l.length : Int) + 1) ≤ (cap : Int) := by omega
    clear h0 hb ht hs hfl
    go_enter Tryz.func39, Tryz.ntmps39
    go_wp2_with fail
    go_loopw [6, 7] (fun ok i W => ∃ (k : Nat), k ≤ l.length ∧ ok = .bool true ∧ i = .int .i64 k ∧ Below w.heap.size w W) (fun _ i _ => l.length - (intOf i).toNat)
    case atStart => exact ⟨0, Nat.zero_le _, rfl, rfl, Below.refl _ _⟩
    case round =>
      obtain ⟨k, hk, rfl, rfl, hB⟩ := hrel
      have HB : Hid (Below w.heap.size w wr) := hB
      clear hB
      by_cases hlt : k < l.length
      · have kp := Keeps.of_below HB.out
        obtain ⟨ao, cp, hv, -, hel⟩ := H0.out
        simp only [Value.slice.injEq, true_and] at hv
        obtain ⟨rfl, rfl⟩ := hv
        obtain ⟨b, off, hab, hr⟩ := hel k hlt
        simp only [Option.some.injEq] at hab
        subst hab
        obtain ⟨r0, r1⟩ := hr
        simp only [Nat.add_zero] at r0
        have o0 := kp _ _ _ r0
        have c0 : wr.cell? ⟨g, k * 2, none⟩ = _ := kp _ _ _ (HC.out k hlt 0 _ (by omega) rfl)
        have o1 := kp _ _ _ r1
        have c1 : wr.cell? ⟨g, k * 2 + 1, none⟩ = _ := kp _ _ _ (HC.out k hlt 1 _ (by omega) rfl)
        have hgl := HX.out.call HB.out |>.lt
        have hbl := cell_lt o0
        have hi1 : (k : Int) < (l.length : Int) := by omega
        have hi2 : (k : Int) < ((l.length + 1 : Nat) : Int) := by omega
        generalize l[k] = X at *
        clear kp hel r0 r1
        go_upto_region 8 with fail
        go_quiet (fail)
        go_wp2_with fail
        go_roundw
        case rel => exact ⟨k + 1, by omega, by first | rfl | simp, by go_num, below_drewN HB.out _⟩
        case measure => simp [intOf]; omega
      · have HX1 : Hid (Box wr g cur 126) := HX.out.call HB.out
        clear z1 hg1
        go_wp2_with fail
        go_loopw [8] (fun i W => ∃ (k : Nat) (cu : Array Value), k ≤ l.length + 1 ∧ i = .int .i64 k ∧ Box W g cu 126 ∧ cu.size = cap * 2 ∧ Only (fun b => lo ≤ b ∧ b < hi) w W) (fun i _ => l.length + 1 - (intOf i).toNat)
        case atStart => exact ⟨0, cur, Nat.zero_le _, rfl, HX1.out, HS.out, Only.below HB.out⟩
        case round =>
          obtain ⟨k2, cu, hk2, rfl, hbx, hcs, hon⟩ := hrel
          have HXk : Hid (Box wr g cu 126) := hbx
          have HOn : Hid (Only (fun b => lo ≤ b ∧ b < hi) w wr) := hon
          have HCS : Hid (cu.size = cap * 2) := hcs
          clear hbx hon hcs
          by_cases hlt2 : k2 < l.length + 1
          · have hr := HXk.out.rules.1
            have hff := HXk.out.rules.2
            have hgl := HXk.out.lt
            have hle : (k2 + 1) * 2 ≤ cap * 2 := Nat.mul_le_mul_right _ (by omega)
            obtain ⟨y0, hk0⟩ : ∃ y, wr.cell? ⟨g, k2 * 2, none⟩ = some y := ⟨cu[k2 * 2]'(by have := HCS.out; omega), by rw [hr]; simp⟩
            obtain ⟨y1, hk1⟩ : ∃ y, wr.cell? ⟨g, k2 * 2 + 1, none⟩ = some y := ⟨cu[k2 * 2 + 1]'(by have := HCS.out; omega), by rw [hr]; simp⟩
            have hi1 : (k2 : Int) < (l.length : Int) + 1 := by omega
            have hi2 : (k2 : Int) < ((l.length + 1 : Nat) : Int) := by omega
            clear hr hle
            go_wp2_with fail
            go_roundw
            case rel => exact ⟨k2 + 1, _, by omega, by go_num, ((HXk.out.set _ _).set _ _), by simp; exact HCS.out, ((HOn.out.setCell ⟨h1, h2⟩ _).setCell ⟨h1, h2⟩ _)⟩
            case measure => simp [intOf]; omega
          · go_wp2_with fail
            go_ret
            exact ⟨rfl, HOn.out⟩

set_option maxRecDepth 20000 in
set_option maxHeartbeats 8000000 in
theorem spareTerms_any (l : List DTerm) (v0 v : Value) (w : World) (lo hi : Nat) (hl : Lent w 87 4 lo hi v0 v l.length (l.flatMap flTerm ++ zTerm)) (h0 : RSl w 4 RTerm v0 l) (h63 : l.length ≤ 2000000) :
    Calls Tryz.prog 37 #[v, v0] w fun e w' => e = .returned (.bool true) ∧ Only (fun b => lo ≤ b ∧ b < hi) w w' := by
  rcases hl with ⟨⟨c, rfl⟩, rfl, hn⟩ | ⟨⟨a, c, rfl⟩, g, cap, cur, rfl, h1, h2, hb, hc, hm, hs, ht⟩
  · clear h0
    go_enter Tryz.func37, Tryz.ntmps37
    go_wp2
    go_ret
    exact ⟨rfl, Only.refl _ _⟩
  · have HX : Hid (Box w g cur 87) := hb
    have hfl : (l.flatMap flTerm).length = l.length * 4 := flat_length flTerm 4 (fun _ => rfl) l
    have z1 : w.cell? ⟨g, l.length * 4, none⟩ = some (.int .i64 (-77)) := box_at hb ht (by
      rw [List.getElem?_append_right (by omega), hfl]; simp)
    have HC : Hid (∀ i (h : i < l.length) j u, j < 4 → (flTerm l[i])[j]? = some u → w.cell? ⟨g, i * 4 + j, none⟩ = some u) := fun i h j u hj hu => box_at hb ht (by
      rw [List.getElem?_append_left (by rw [hfl]; have : (i + 1) * 4 ≤ l.length * 4 := Nat.mul_le_mul_right _ h; omega), flat_get flTerm 4 (fun _ => rfl) l i h j hj]; exact hu)
    have H0 : Hid (RSl w 4 RTerm (.slice (some a) l.length c) l) := h0
    have HS : Hid (cur.size = cap * 4) := hs
    have hg1 := hb.lt
    have hc1 : l.length + 1 ≤ cap := hc
    have hci : ((l.length : Int) + 1) ≤ (cap : Int) := by omega
    clear h0 hb ht hs hfl
    go_enter Tryz.func37, Tryz.ntmps37
    go_wp2_with fail
    go_loopw [6, 7] (fun ok i W => ∃ (k : Nat), k ≤ l.length ∧ ok = .bool true ∧ i = .int .i64 k ∧ Below w.heap.size w W) (fun _ i _ => l.length - (intOf i).toNat)
    case atStart => exact ⟨0, Nat.zero_le _, rfl, rfl, Below.refl _ _⟩
    case round =>
      obtain ⟨k, hk, rfl, rfl, hB⟩ := hrel
      have HB : Hid (Below w.heap.size w wr) := hB
      clear hB
      by_cases hlt : k < l.length
      · have kp := Keeps.of_below HB.out
        obtain ⟨ao, cp, hv, -, hel⟩ := H0.out
        simp only [Value.slice.injEq, true_and] at hv
        obtain ⟨rfl, rfl⟩ := hv
        obtain ⟨b, off, hab, hr⟩ := hel k hlt
        simp only [Option.some.injEq] at hab
        subst hab
        obtain ⟨r0, r1, r2, r3, -⟩ := hr
        simp only [Nat.add_zero] at r0
        have o0 := kp _ _ _ r0
        have c0 : wr.cell? ⟨g, k * 4, none⟩ = _ := kp _ _ _ (HC.out k hlt 0 _ (by omega) rfl)
        have o1 := kp _ _ _ r1
        have c1 : wr.cell? ⟨g, k * 4 + 1, none⟩ = _ := kp _ _ _ (HC.out k hlt 1 _ (by omega) rfl)
        have o2 := kp _ _ _ r2
        have c2 : wr.cell? ⟨g, k * 4 + 2, none⟩ = _ := kp _ _ _ (HC.out k hlt 2 _ (by omega) rfl)
        have o3 := kp _ _ _ r3
        have c3 : wr.cell? ⟨g, k * 4 + 3, none⟩ = _ := kp _ _ _ (HC.out k hlt 3 _ (by omega) rfl)
        have hgl := HX.out.call HB.out |>.lt
        have hbl := cell_lt o0
        have hi1 : (k : Int) < (l.length : Int) := by omega
        have hi2 : (k : Int) < ((l.length + 1 : Nat) : Int) := by omega
        generalize l[k] = X at *
        clear kp hel r0 r1 r2 r3
        go_upto_region 8 with fail
        go_quiet (fail)
        go_wp2_with fail
        go_roundw
        case rel => exact ⟨k + 1, by omega, by first | rfl | simp, by go_num, below_drewN HB.out _⟩
        case measure => simp [intOf]; omega
      · have HX1 : Hid (Box wr g cur 87) := HX.out.call HB.out
        clear z1 hg1
        go_wp2_with fail
        go_loopw [8] (fun i W => ∃ (k : Nat) (cu : Array Value), k ≤ l.length + 1 ∧ i = .int .i64 k ∧ Box W g cu 87 ∧ cu.size = cap * 4 ∧ Only (fun b => lo ≤ b ∧ b < hi) w W) (fun i _ => l.length + 1 - (intOf i).toNat)
        case atStart => exact ⟨0, cur, Nat.zero_le _, rfl, HX1.out, HS.out, Only.below HB.out⟩
        case round =>
          obtain ⟨k2, cu, hk2, rfl, hbx, hcs, hon⟩ := hrel
          have HXk : Hid (Box wr g cu 87) := hbx
          have HOn : Hid (Only (fun b => lo ≤ b ∧ b < hi) w wr) := hon
          have HCS : Hid (cu.size = cap * 4) := hcs
          clear hbx hon hcs
          by_cases hlt2 : k2 < l.length + 1
          · have hr := HXk.out.rules.1
            have hff := HXk.out.rules.2
            have hgl := HXk.out.lt
            have hle : (k2 + 1) * 4 ≤ cap * 4 := Nat.mul_le_mul_right _ (by omega)
            obtain ⟨y0, hk0⟩ : ∃ y, wr.cell? ⟨g, k2 * 4, none⟩ = some y := ⟨cu[k2 * 4]'(by have := HCS.out; omega), by rw [hr]; simp⟩
            obtain ⟨y1, hk1⟩ : ∃ y, wr.cell? ⟨g, k2 * 4 + 1, none⟩ = some y := ⟨cu[k2 * 4 + 1]'(by have := HCS.out; omega), by rw [hr]; simp⟩
            obtain ⟨y2, hk2⟩ : ∃ y, wr.cell? ⟨g, k2 * 4 + 2, none⟩ = some y := ⟨cu[k2 * 4 + 2]'(by have := HCS.out; omega), by rw [hr]; simp⟩
            obtain ⟨y3, hk3⟩ : ∃ y, wr.cell? ⟨g, k2 * 4 + 3, none⟩ = some y := ⟨cu[k2 * 4 + 3]'(by have := HCS.out; omega), by rw [hr]; simp⟩
            have hi1 : (k2 : Int) < (l.length : Int) + 1 := by omega
            have hi2 : (k2 : Int) < ((l.length + 1 : Nat) : Int) := by omega
            clear hr hle
            go_wp2_with fail
            go_roundw
            case rel => exact ⟨k2 + 1, _, by omega, by go_num, ((((HXk.out.set _ _).set _ _).set _ _).set _ _), by simp; exact HCS.out, ((((HOn.out.setCell ⟨h1, h2⟩ _).setCell ⟨h1, h2⟩ _).setCell ⟨h1, h2⟩ _).setCell ⟨h1, h2⟩ _)⟩
            case measure => simp [intOf]; omega
          · go_wp2_with fail
            go_ret
            exact ⟨rfl, HOn.out⟩

end Go.Proofs.YtekkicgbloidkaaGreatDoor
/- The types of what a Join gives. -/
namespace Go.Proofs.YtekkicgbloidkaaGreatDoor
open Go Go.RowKit
attribute [local go_sem ↓] eq_ty ne_ty

def keyOk (a b : List (Int × Int)) (x y : Int) : Bool := (colAt a x).2 && (colAt b y).2 && ((colAt a x).1 == (colAt b y).1)
def keysOk (n : DNode) (a b : List (Int × Int)) : Bool := (List.range n.keys.length).all fun j => keyOk a b (n.keys.getD j 0) (n.others.getD j 0)
def joinRun (n : DNode) (a b : List (Int × Int)) : Option (List (Int × Int)) := if keysOk n a b = true ∧ (a ++ b).length ≤ 8 then some (a ++ b) else none

theorem keysOk_yes {n : DNode} {a b : List (Int × Int)} (h : ∀ j, j < n.keys.length → keyOk a b (n.keys.getD j 0) (n.others.getD j 0) = true) : keysOk n a b = true := by
  unfold keysOk; rw [List.all_eq_true]; intro j hj; exact h j (List.mem_range.1 hj)
theorem keysOk_no {n : DNode} {a b : List (Int × Int)} {j : Nat} (hj : j < n.keys.length) (h : keyOk a b (n.keys.getD j 0) (n.others.getD j 0) = false) : joinRun n a b = none := by
  unfold joinRun
  rw [if_neg]
  rintro ⟨h1, -⟩
  unfold keysOk at h1
  rw [List.all_eq_true] at h1
  have := h1 j (List.mem_range.2 hj)
  rw [h] at this; simp at this

set_option maxHeartbeats 4000000 in
theorem joined_any (n : DNode) (ve vk vo va vx vy : Value) (a b : List (Int × Int)) (w : World) (hn : NodeIs w ve vk vo va n) (h4 : n.keys.length ≤ 4) (hko : n.others.length = n.keys.length) (hx : RTys w vx a) (hy : RTys w vy b) (ha1 : 0 < a.length) (hb1 : 0 < b.length) (ha8 : a.length ≤ 8) (hb8 : b.length ≤ 8) :
    Calls Tryz.prog 86 #[nodeV n ve vk vo va, vx, vy] w fun e w' => TysRet w' e (joinRun n a b) ∧ Below w.heap.size w w' := by
  have hkeys := hn.keys
  have hoth := hn.others
  have HKO : Hid _ := hko
  obtain ⟨ae, ce, ak, ck, ao, co, aa, ca, rfl, rfl, rfl, rfl⟩ := hn.shape
  obtain ⟨ax, cx, rfl, -⟩ := hx.shape
  obtain ⟨ay, cy, rfl, -⟩ := hy.shape
  clear hn hko
  have bn := Box.new w #[.int .i64 n.op, .int .i64 n.a, .int .i64 n.b, .slice ae n.exprs.length ce, .slice ak n.keys.length ck, .slice ao n.others.length co, .slice aa n.aggs.length ca] 71
  go_enter Tryz.func86, Tryz.ntmps86
  go_wp2
  go_loopw [18] (fun i W => ∃ (k : Nat), k ≤ n.keys.length ∧ i = .int .i64 k ∧ (∀ j, j < k → keyOk a b (n.keys.getD j 0) (n.others.getD j 0) = true) ∧ Below (w.heap.size + 1) (w.alloc (.cells #[.int .i64 n.op, .int .i64 n.a, .int .i64 n.b, .slice ae n.exprs.length ce, .slice ak n.keys.length ck, .slice ao n.others.length co, .slice aa n.aggs.length ca] 71)) W)
    (fun i _ => n.keys.length - (intOf i).toNat)
  case atStart => exact ⟨0, Nat.zero_le _, rfl, fun j hj => absurd hj (Nat.not_lt_zero _), Below.refl _ _⟩
  case round =>
    obtain ⟨k, hk, rfl, hall, hBn⟩ := hrel
    have HA : Hid _ := hall
    have HBN : Hid (Below (w.heap.size + 1) (w.alloc (.cells #[.int .i64 n.op, .int .i64 n.a, .int .i64 n.b, .slice ae n.exprs.length ce, .slice ak n.keys.length ck, .slice ao n.others.length co, .slice aa n.aggs.length ca] 71)) wr) := hBn
    have hwz : w.heap.size + 1 ≤ wr.heap.size := by have := hBn.size; simpa using this
    have HB : Hid (Below w.heap.size w wr) := ((Below.refl _ _).alloc (Nat.le_refl _) _).trans (hBn.mono (by omega))
    by_cases hlt : k < n.keys.length
    · have hlo : k < n.others.length := by have := HKO.out; omega
      obtain ⟨b1, o1, c1, hv1, -, d1⟩ := ints_at hkeys hlt
      obtain ⟨b2, o2, c2, hv2, -, d2⟩ := ints_at hoth hlo
      simp only [Value.slice.injEq, true_and] at hv1 hv2
      obtain ⟨rfl, rfl⟩ := hv1
      obtain ⟨rfl, rfl⟩ := hv2
      have kp := Keeps.of_below HB.out
      have e1 := kp _ _ _ d1
      have e2 := kp _ _ _ d2
      have hx' := RSl.mono mono_RTy kp hx
      have hy' := RSl.mono mono_RTy kp hy
      have bnr := bn.below HBN.out (by omega)
      have HK : Hid (keyOk a b (n.keys.getD k 0) (n.others.getD k 0) = ((colAt a n.keys[k]).2 && (colAt b n.others[k]).2 && ((colAt a n.keys[k]).1 == (colAt b n.others[k]).1))) := by
        unfold Hid keyOk; simp [hlt, hlo]
      have hi1 : (k : Int) < (n.others.length : Int) := by omega
      clear hall hBn kp d1 d2 bn
      go_wp2_with fail
      refine (column_any a _ n.keys[k] _ hx').mono ?_
      rintro e w1 ⟨rfl, hbl1⟩
      have hB1 : Below w.heap.size w w1 := Below.step hbl1 HB.out HB.out.size
      have HB1 : Hid _ := hB1
      have bn1 := bnr.call hbl1
      obtain ⟨hcn, hfn, hln⟩ := bn1.all
      have e2' := (Keeps.of_below hbl1) _ _ _ e2
      have hb2l := cell_lt e2'
      have hwz1 : w.heap.size + 1 ≤ w1.heap.size := by have := hbl1.size; omega
      have hy1 := (RSl.mono mono_RTy (Keeps.of_below hbl1) hy').mono mono_RTy ((Keeps.refl w1).alloc (.cells #[.int .i64 (colAt a n.keys[k]).1.1, .int .i64 (colAt a n.keys[k]).1.2] 103))
      have HBN1 : Hid (Below (w.heap.size + 1) (w.alloc (.cells #[.int .i64 n.op, .int .i64 n.a, .int .i64 n.b, .slice ae n.exprs.length ce, .slice (some ⟨b1, o1, none⟩) n.keys.length ck, .slice (some ⟨b2, o2, none⟩) n.others.length co, .slice aa n.aggs.length ca] 71)) w1) := Below.step hbl1 HBN.out hwz
      have bl := Box.new w1 #[.int .i64 (colAt a n.keys[k]).1.1, .int .i64 (colAt a n.keys[k]).1.2] 103
      clear hbl1 e1 e2 hx' hy' bnr hB1
      generalize hL : colAt a n.keys[k] = L at *
      go_wp2_with fail
      refine (column_any b _ n.others[k] _ hy1).mono ?_
      rintro e w2 ⟨rfl, hbl2⟩
      have HB2 : Hid (Below w.heap.size w w2) := Below.step hbl2 (HB1.out.alloc (by omega) _) (by simp; omega)
      have HBN2 : Hid (Below (w.heap.size + 1) (w.alloc (.cells #[.int .i64 n.op, .int .i64 n.a, .int .i64 n.b, .slice ae n.exprs.length ce, .slice (some ⟨b1, o1, none⟩) n.keys.length ck, .slice (some ⟨b2, o2, none⟩) n.others.length co, .slice aa n.aggs.length ca] 71)) w2) := Below.step hbl2 (HBN1.out.alloc (by omega) _) (by simp; omega)
      have hwz2 : w.heap.size + 1 ≤ w2.heap.size := by have := hbl2.size; simp at this; omega
      obtain ⟨hcl, hfl, hll⟩ := (bl.call hbl2).all
      generalize hM : colAt b n.others[k] = M at *
      have HL : Hid _ := hL
      have HM : Hid _ := hM
      clear hbl2 hL hM hcn hfn hln bn1 e2' hy1 bl
      by_cases hL2 : L.2 = true
      · by_cases hM2 : M.2 = true
        · by_cases hE : ((L.1.1, L.1.2) != (M.1.1, M.1.2)) = true
          · have HN : Hid (joinRun n a b = none) := keysOk_no hlt (by rw [HK.out, hL2, hM2]; simpa [bne, Prod.ext_iff] using hE)
            go_wp2_with fail
            go_ret2
            exact ⟨by rw [HN.out]; exact ⟨_, rfl⟩, HB2.out.alloc (by have := HB2.out.size; omega) _⟩
          · have hE' : ((L.1.1, L.1.2) != (M.1.1, M.1.2)) = false := by simpa using hE
            have HY : Hid (keyOk a b (n.keys.getD k 0) (n.others.getD k 0) = true) := by
              unfold Hid; rw [HK.out, hL2, hM2]; simpa [bne, Prod.ext_iff] using hE'
            clear hE
            go_wp2_with fail
            go_roundw
            case rel =>
              refine ⟨k + 1, by omega, by go_num, fun j hj => ?_, HBN2.out.alloc (by omega) _⟩
              rcases Nat.lt_succ_iff_lt_or_eq.1 hj with h | rfl
              · exact HA.out j h
              · exact HY.out
            case measure => simp [intOf]; omega
        · have hM2' : M.2 = false := by simpa using hM2
          have HN : Hid (joinRun n a b = none) := keysOk_no hlt (by rw [HK.out, hL2, hM2']; rfl)
          clear hM2
          go_wp2_with fail
          go_ret2
          exact ⟨by rw [HN.out]; exact ⟨_, rfl⟩, HB2.out.alloc (by have := HB2.out.size; omega) _⟩
      · have hL2' : L.2 = false := by simpa using hL2
        have HN : Hid (joinRun n a b = none) := keysOk_no hlt (by rw [HK.out, hL2']; rfl)
        clear hL2
        by_cases hM2 : M.2 = true
        · go_wp2_with fail
          go_ret2
          exact ⟨by rw [HN.out]; exact ⟨_, rfl⟩, HB2.out.alloc (by have := HB2.out.size; omega) _⟩
        · have hM2' : M.2 = false := by simpa using hM2
          clear hM2
          go_wp2_with fail
          go_ret2
          exact ⟨by rw [HN.out]; exact ⟨_, rfl⟩, HB2.out.alloc (by have := HB2.out.size; omega) _⟩
    · have HKY : Hid (keysOk n a b = true) := keysOk_yes (fun j hj => HA.out j (by omega))
      have kp := (Keeps.of_below HB.out).alloc (.cells #[.slice ax a.length cx, .slice ay b.length cy] 101)
      have hx' := RSl.mono mono_RTy kp hx
      have hy' := RSl.mono mono_RTy kp hy
      have bc := Box.new wr #[.slice ax a.length cx, .slice ay b.length cy] 101
      clear hall hBn kp bn
      go_wp2_with fail
      refine (concat_any a b _ _ wr.heap.size _ _ bc hx' hy' ha1 hb1 (by omega) (by omega)).mono ?_
      rintro e w1 ⟨v, rfl, hv, hbv, hbl1⟩
      have HV : Hid (RTys w1 v (a ++ b) ∧ BlkOf 103 w1 v) := ⟨hv, hbv⟩
      have HB1 : Hid (Below w.heap.size w w1) := Below.step hbl1 (HB.out.alloc (by omega) _) (by simp; omega)
      obtain ⟨av, cv, rfl, -⟩ := hv.shape
      have hlen : (a ++ b).length = a.length + b.length := by simp
      rw [hlen]
      clear hv hbv hbl1 hx' hy' bc
      go_wp2_with fail
      go_ret2
      refine ⟨?_, HB1.out⟩
      unfold joinRun
      by_cases h8 : (a ++ b).length ≤ 8
      · rw [if_pos ⟨HKY.out, h8⟩]
        refine ⟨_, ?_, HV.out⟩
        rw [hlen] at h8 ⊢
        simp; omega
      · rw [if_neg (fun h => h8 h.2)]
        refine ⟨.slice av (a.length + b.length) cv, ?_⟩
        rw [hlen] at h8
        simp; omega

end Go.Proofs.YtekkicgbloidkaaGreatDoor
