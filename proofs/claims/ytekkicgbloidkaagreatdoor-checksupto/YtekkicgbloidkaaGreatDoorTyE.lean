/- Whether a node hangs together. -/
import Derived.Test.YtekkicgbloidkaaGreatDoorSvA
import Derived.Test.YtekkicgbloidkaaGreatDoorGrow
import Derived.Test.YtekkicgbloidkaaGreatDoorProg
import Derived.Deep.RegionHeld3
import Derived.Deep.DrawnRows
import Derived.BigRegion
import Derived.BigQuiet
import Derived.Deep.RegionWith
namespace Go.Proofs.YtekkicgbloidkaaGreatDoor
open Go Go.RowKit

def sourceN (op a b : Int) (nt : Nat) (tk : List Bool) : Bool :=
  if op = 1 then decide (0 ≤ a) && decide (a < nt) else if op = 2 ∨ op = 3 ∨ op = 5 then freeB tk a
  else if op = 4 then freeB tk a && freeB tk b && a != b else false

set_option maxHeartbeats 1000000 in
theorem source1_any (bs : Nat) (a b : Int) (at' ae ak ao aa : Option Addr) (nt ct le lk lo la ce ck co ca : Nat) (w : World) (hc0 : w.cell? ⟨bs, 0, none⟩ = some (.slice at' nt ct)) :
    Calls Tryz.prog 81 #[.pointer (some ⟨bs, 0, none⟩), .agg #[.int .i64 1, .int .i64 a, .int .i64 b, .slice ae le ce, .slice ak lk ck, .slice ao lo co, .slice aa la ca]] w fun e w' => e = .returned (.bool (decide (0 ≤ a) && decide (a < nt))) ∧ Below w.heap.size w w' := by
  have hb := cell_lt hc0
  by_cases h0 : 0 ≤ a
  · go_enter Tryz.func81, Tryz.ntmps81
    go_wp2
    go_quiet (fail)
    go_wp2
    go_ret
    exact ⟨by simp [h0], below_drewN ((Below.refl _ _).alloc (Nat.le_refl _) _) _⟩
  · have hd : decide (0 ≤ a) = false := by simpa using h0
    clear h0
    go_enter Tryz.func81, Tryz.ntmps81
    go_wp2
    go_quiet (fail)
    go_wp2
    go_ret
    exact ⟨by simp [hd], below_drewN ((Below.refl _ _).alloc (Nat.le_refl _) _) _⟩

set_option maxHeartbeats 1000000 in
theorem source2_any (bs : Nat) (op a b : Int) (hop : op = 2 ∨ op = 3 ∨ op = 5) (vk : Value) (tk : List Bool) (ae ak ao aa : Option Addr) (le lk lo la ce ck co ca : Nat) (w : World) (hc3 : w.cell? ⟨bs, 3, none⟩ = some vk) (hk : RBools w vk tk) :
    Calls Tryz.prog 81 #[.pointer (some ⟨bs, 0, none⟩), .agg #[.int .i64 op, .int .i64 a, .int .i64 b, .slice ae le ce, .slice ak lk ck, .slice ao lo co, .slice aa la ca]] w fun e w' => e = .returned (.bool (freeB tk a)) ∧ Below w.heap.size w w' := by
  have kp := (Keeps.refl w).alloc (.cells #[.int .i64 op, .int .i64 a, .int .i64 b, .slice ae le ce, .slice ak lk ck, .slice ao lo co, .slice aa la ca] 71)
  have h3' := kp _ _ _ hc3
  have hk' := hk.mono mono_RBool kp
  clear kp hc3 hk
  rcases hop with rfl | rfl | rfl
  all_goals
    go_enter Tryz.func81, Tryz.ntmps81
    go_wp2_with (go_at_call 102; refine (free_any bs vk tk a _ h3' hk').mono ?_; rintro e w1 ⟨rfl, rfl⟩)
    go_ret
    exact ⟨rfl, (Below.refl _ _).alloc (Nat.le_refl _) _⟩

set_option maxHeartbeats 1000000 in
theorem source4_any (bs : Nat) (a b : Int) (vk : Value) (tk : List Bool) (ae ak ao aa : Option Addr) (le lk lo la ce ck co ca : Nat) (w : World) (hc3 : w.cell? ⟨bs, 3, none⟩ = some vk) (hk : RBools w vk tk) :
    Calls Tryz.prog 81 #[.pointer (some ⟨bs, 0, none⟩), .agg #[.int .i64 4, .int .i64 a, .int .i64 b, .slice ae le ce, .slice ak lk ck, .slice ao lo co, .slice aa la ca]] w fun e w' => e = .returned (.bool (freeB tk a && freeB tk b && a != b)) ∧ Below w.heap.size w w' := by
  have kp := (Keeps.refl w).alloc (.cells #[.int .i64 4, .int .i64 a, .int .i64 b, .slice ae le ce, .slice ak lk ck, .slice ao lo co, .slice aa la ca] 71)
  have h3' := kp _ _ _ hc3
  have hk' := hk.mono mono_RBool kp
  clear kp hc3 hk
  by_cases ha : freeB tk a = true
  · by_cases hb : freeB tk b = true
    · go_enter Tryz.func81, Tryz.ntmps81
      go_wp2_with fail
      refine (free_any bs vk tk a _ h3' hk').mono ?_
      rintro e w1 ⟨rfl, rfl⟩
      go_wp2_with fail
      refine (free_any bs vk tk b _ h3' hk').mono ?_
      rintro e w1 ⟨rfl, rfl⟩
      go_wp2_with fail
      go_ret
      exact ⟨by rw [ha, hb]; rfl, (Below.refl _ _).alloc (Nat.le_refl _) _⟩
    · have hb' : freeB tk b = false := by simpa using hb
      clear hb
      go_enter Tryz.func81, Tryz.ntmps81
      go_wp2_with fail
      refine (free_any bs vk tk a _ h3' hk').mono ?_
      rintro e w1 ⟨rfl, rfl⟩
      go_wp2_with fail
      refine (free_any bs vk tk b _ h3' hk').mono ?_
      rintro e w1 ⟨rfl, rfl⟩
      go_wp2_with fail
      go_ret
      exact ⟨by rw [ha, hb']; rfl, (Below.refl _ _).alloc (Nat.le_refl _) _⟩
  · have ha' : freeB tk a = false := by simpa using ha
    clear ha
    go_enter Tryz.func81, Tryz.ntmps81
    go_wp2_with fail
    refine (free_any bs vk tk a _ h3' hk').mono ?_
    rintro e w1 ⟨rfl, rfl⟩
    go_wp2_with fail
    go_ret
    exact ⟨by rw [ha']; rfl, (Below.refl _ _).alloc (Nat.le_refl _) _⟩

set_option maxHeartbeats 1000000 in
theorem sourceX_any (bs : Nat) (op a b : Int) (ae ak ao aa : Option Addr) (le lk lo la ce ck co ca : Nat) (w : World) (h1 : (op == 1) = false) (h2 : (op == 2) = false) (h3 : (op == 3) = false) (h4 : (op == 4) = false) (h5 : (op == 5) = false) :
    Calls Tryz.prog 81 #[.pointer (some ⟨bs, 0, none⟩), .agg #[.int .i64 op, .int .i64 a, .int .i64 b, .slice ae le ce, .slice ak lk ck, .slice ao lo co, .slice aa la ca]] w fun e w' => e = .returned (.bool false) ∧ Below w.heap.size w w' := by
  go_enter Tryz.func81, Tryz.ntmps81
  go_wp2
  go_ret
  exact ⟨rfl, (Below.refl _ _).alloc (Nat.le_refl _) _⟩

theorem sourceFits_any (bs : Nat) (n : DNode) (vt vk ve vk' vo va : Value) (ts : List (List DCol)) (tk : List Bool) (w : World) (h : NodeIs w ve vk' vo va n) (hc0 : w.cell? ⟨bs, 0, none⟩ = some vt) (ht : RTabs w vt ts) (hc3 : w.cell? ⟨bs, 3, none⟩ = some vk) (hk : RBools w vk tk) :
    Calls Tryz.prog 81 #[.pointer (some ⟨bs, 0, none⟩), nodeV n ve vk' vo va] w fun e w' => e = .returned (.bool (sourceN n.op n.a n.b ts.length tk)) ∧ Below w.heap.size w w' := by
  obtain ⟨ae, ce, ak, ck, ao, co, aa, ca, rfl, rfl, rfl, rfl⟩ := h.shape
  obtain ⟨at', ct, rfl, -, -⟩ := ht
  by_cases h1 : n.op = 1
  · have e : sourceN n.op n.a n.b ts.length tk = (decide (0 ≤ n.a) && decide (n.a < ts.length)) := by simp [sourceN, h1]
    rw [e]; unfold nodeV; rw [h1]; exact source1_any bs n.a n.b _ _ _ _ _ _ _ _ _ _ _ _ _ _ _ w hc0
  by_cases h2 : n.op = 2 ∨ n.op = 3 ∨ n.op = 5
  · have e : sourceN n.op n.a n.b ts.length tk = freeB tk n.a := by unfold sourceN; rw [if_neg h1, if_pos h2]
    rw [e]; exact source2_any bs n.op n.a n.b h2 vk tk _ _ _ _ _ _ _ _ _ _ _ _ w hc3 hk
  by_cases h4 : n.op = 4
  · have e : sourceN n.op n.a n.b ts.length tk = (freeB tk n.a && freeB tk n.b && n.a != n.b) := by unfold sourceN; rw [if_neg h1, if_neg h2, if_pos h4]
    rw [e]; unfold nodeV; rw [h4]; exact source4_any bs n.a n.b vk tk _ _ _ _ _ _ _ _ _ _ _ _ w hc3 hk
  have e : sourceN n.op n.a n.b ts.length tk = false := by unfold sourceN; rw [if_neg h1, if_neg h2, if_neg h4]
  rw [e]
  exact sourceX_any bs n.op n.a n.b _ _ _ _ _ _ _ _ _ _ _ _ w (by simp; omega) (by simp; omega) (by simp; omega) (by simp; omega) (by simp; omega)

end Go.Proofs.YtekkicgbloidkaaGreatDoor
/- Whether the node at a place hangs together; its children. -/
namespace Go.Proofs.YtekkicgbloidkaaGreatDoor
open Go Go.RowKit

theorem node_at {w : World} {vn : Value} {ns : List DNode} (h : RNodes w vn ns) {k : Nat} (hk : k < ns.length) :
    ∃ b off cap ae ce ak ck ao co aa ca, vn = .slice (some ⟨b, off, none⟩) ns.length cap ∧ ns.length ≤ 9223372036854775807 ∧ b < w.heap.size ∧
      w.cell? ⟨b, off + k * 7, none⟩ = some (.int .i64 ns[k].op) ∧ w.cell? ⟨b, off + k * 7 + 1, none⟩ = some (.int .i64 ns[k].a) ∧ w.cell? ⟨b, off + k * 7 + 2, none⟩ = some (.int .i64 ns[k].b) ∧
      w.cell? ⟨b, off + k * 7 + 3, none⟩ = some (.slice ae ns[k].exprs.length ce) ∧ w.cell? ⟨b, off + k * 7 + 4, none⟩ = some (.slice ak ns[k].keys.length ck) ∧ w.cell? ⟨b, off + k * 7 + 5, none⟩ = some (.slice ao ns[k].others.length co) ∧ w.cell? ⟨b, off + k * 7 + 6, none⟩ = some (.slice aa ns[k].aggs.length ca) ∧
      NodeIs w (.slice ae ns[k].exprs.length ce) (.slice ak ns[k].keys.length ck) (.slice ao ns[k].others.length co) (.slice aa ns[k].aggs.length ca) ns[k] := by
  obtain ⟨x, cap, rfl, hl, hel⟩ := h
  obtain ⟨b, off, rfl, ve, vk, vo, va, h0, h1, h2, h3, h4, h5, h6, hn⟩ := hel k hk
  simp only [Nat.add_zero] at h0
  obtain ⟨ae, ce, ak, ck, ao, co, aa, ca, rfl, rfl, rfl, rfl⟩ := hn.shape
  exact ⟨b, off, cap, ae, ce, ak, ck, ao, co, aa, ca, rfl, hl, cell_lt h0, h0, h1, h2, h3, h4, h5, h6, hn⟩

def hangs (n : DNode) (i nt : Nat) (tk : List Bool) : Bool := decide (i < 10) && (sourceN n.op n.a n.b nt tk && countsFit n)

set_option maxHeartbeats 1000000 in
theorem hangs_any (bs i : Nat) (vt vn vy vk : Value) (ts : List (List DCol)) (ns : List DNode) (tys : List (List (Int × Int))) (tk : List Bool) (w : World) (h : Surv w bs vt vn vy vk ts ns tys tk) (hi : i < ns.length) :
    Calls Tryz.prog 69 #[.pointer (some ⟨bs, 0, none⟩), .int .i64 i] w fun e w' => e = .returned (.bool (hangs ns[i] i ts.length tk)) ∧ Below w.heap.size w w' := by
  by_cases h10 : i < 10
  · have HE : Hid (hangs ns[i] i ts.length tk = (sourceN ns[i].op ns[i].a ns[i].b ts.length tk && countsFit ns[i])) := by unfold Hid hangs; simp [h10]
    obtain ⟨b, off, cap, ae, ce, ak, ck, ao, co, aa, ca, rfl, hl, hb, d0, d1, d2, d3, d4, d5, d6, hn⟩ := node_at h.nodes hi
    generalize hN : ns[i] = N at *
    clear hN
    have e1 := h.c1
    have hbs := cell_lt e1
    have kp := (Keeps.refl w).alloc (.cells #[.int .i64 N.op, .int .i64 N.a, .int .i64 N.b, .slice ae N.exprs.length ce, .slice ak N.keys.length ck, .slice ao N.others.length co, .slice aa N.aggs.length ca] 71)
    have h' := h.mono kp
    have hn' := hn.mono kp
    have bx := Box.new w #[.int .i64 N.op, .int .i64 N.a, .int .i64 N.b, .slice ae N.exprs.length ce, .slice ak N.keys.length ck, .slice ao N.others.length co, .slice aa N.aggs.length ca] 71
    clear h kp
    go_enter Tryz.func69, Tryz.ntmps69
    go_wp2_with fail
    refine (sourceFits_any bs N _ _ _ _ _ _ ts tk _ hn' h'.c0 h'.tabs h'.c3 h'.taken).mono ?_
    rintro e w1 ⟨rfl, hb1⟩
    have hB1 : Below w.heap.size w w1 := Below.step hb1 ((Below.refl _ _).alloc (by simp) _) (by simp)
    have HB1 : Hid _ := hB1
    obtain ⟨hcb, hfb, hlb⟩ := (bx.call hb1).all
    have hn1 := hn'.mono (Keeps.of_below hb1)
    clear hB1 hb1 d0 d1 d2 d3 d4 d5 d6 e1
    by_cases hs : sourceN N.op N.a N.b ts.length tk = true
    · go_wp2_with fail
      refine (countsFit_any N _ _ _ _ _ hn1).mono ?_
      rintro e w2 ⟨rfl, hb2⟩
      have HB2 : Hid (Below w.heap.size w w2) := Below.step hb2 HB1.out (by have := HB1.out.size; omega)
      clear hb2
      go_wp2_with fail
      go_ret
      exact ⟨by rw [HE.out, hs]; rfl, HB2.out⟩
    · have hs' : sourceN N.op N.a N.b ts.length tk = false := by simpa using hs
      clear hs
      go_wp2_with fail
      go_ret
      exact ⟨by rw [HE.out, hs']; rfl, HB1.out⟩
  · have HE : Hid (hangs ns[i] i ts.length tk = false) := by unfold Hid hangs; simp [h10]
    go_enter Tryz.func69, Tryz.ntmps69
    go_wp2
    go_ret
    exact ⟨by rw [HE.out]; rfl, Below.refl _ _⟩

theorem RInts.box {w : World} {b : Nat} {cs : Array Value} {T : TypeId} (h : Box w b cs T) (xs : List Int) (cap : Nat) (hl : xs.length ≤ 9223372036854775807) (hx : ∀ i (h : i < xs.length), cs[i]? = some (.int .i64 xs[i])) : RInts w (.slice (some ⟨b, 0, none⟩) xs.length cap) xs :=
  ⟨_, cap, rfl, hl, fun i hi => ⟨b, 0, rfl, by simp only [RI64, Nat.mul_one, Nat.zero_add, Nat.add_zero]; rw [h.rules.1 i]; exact hx i hi⟩⟩

def childrenOf (op a b : Int) : List Int := if op = 2 ∨ op = 3 ∨ op = 5 then [a] else if op = 4 then [a, b] else []

set_option maxHeartbeats 1000000 in
theorem children_any (op a b : Int) (ae ak ao aa : Option Addr) (le lk lo la ce ck co ca : Nat) (w : World) :
    Calls Tryz.prog 71 #[.agg #[.int .i64 op, .int .i64 a, .int .i64 b, .slice ae le ce, .slice ak lk ck, .slice ao lo co, .slice aa la ca]] w fun e w' => ∃ v, e = .returned v ∧ RInts w' v (childrenOf op a b) ∧ BlkOf 3 w' v ∧ Below w.heap.size w w' := by
  by_cases h4 : op = 4
  · subst h4
    go_enter Tryz.func71, Tryz.ntmps71
    go_wp2
    go_ret
    have bx := Box.new (w.alloc (.cells #[.int .i64 4, .int .i64 a, .int .i64 b, .slice ae le ce, .slice ak lk ck, .slice ao lo co, .slice aa la ca] 71)) #[.int .i64 a, .int .i64 b] 3
    rw [show (w.alloc (.cells #[.int .i64 4, .int .i64 a, .int .i64 b, .slice ae le ce, .slice ak lk ck, .slice ao lo co, .slice aa la ca] 71)).heap.size = w.heap.size + 1 by simp] at bx
    exact ⟨_, rfl, RInts.box bx [a, b] 2 (by simp) (fun i hi => by match i, hi with | 0, _ => rfl | 1, _ => rfl), BlkOf.box bx _ _ _, ((Below.refl _ _).alloc (Nat.le_refl _) _).alloc (by simp) _⟩
  by_cases h2 : op = 2 ∨ op = 3 ∨ op = 5
  · have e : Hid (childrenOf op a b = [a]) := by unfold Hid childrenOf; rw [if_pos h2]
    have bx := Box.new (w.alloc (.cells #[.int .i64 op, .int .i64 a, .int .i64 b, .slice ae le ce, .slice ak lk ck, .slice ao lo co, .slice aa la ca] 71)) #[.int .i64 a] 3
    rw [show (w.alloc (.cells #[.int .i64 op, .int .i64 a, .int .i64 b, .slice ae le ce, .slice ak lk ck, .slice ao lo co, .slice aa la ca] 71)).heap.size = w.heap.size + 1 by simp] at bx
    have HX : Hid _ := bx
    clear bx
    rcases h2 with rfl | rfl | rfl
    all_goals
      go_enter Tryz.func71, Tryz.ntmps71
      go_wp2
      go_ret
      exact ⟨_, rfl, by rw [e.out]; exact RInts.box HX.out [a] 1 (by simp) (fun i hi => by match i, hi with | 0, _ => rfl), BlkOf.box HX.out _ _ _, ((Below.refl _ _).alloc (Nat.le_refl _) _).alloc (by simp) _⟩
  have e : Hid (childrenOf op a b = []) := by unfold Hid childrenOf; rw [if_neg h2, if_neg h4]
  have g2 : (op == 2) = false := by simp; omega
  have g3 : (op == 3) = false := by simp; omega
  have g4 : (op == 4) = false := by simp; omega
  have g5 : (op == 5) = false := by simp; omega
  go_enter Tryz.func71, Tryz.ntmps71
  go_wp2
  go_ret
  exact ⟨_, rfl, by rw [e.out]; exact RSl.nil _ _ _, (fun b off n c e => by simp at e), (Below.refl _ _).alloc (Nat.le_refl _) _⟩

end Go.Proofs.YtekkicgbloidkaaGreatDoor
/- More contracts of the package typing: a column's type, the type of a product. -/
namespace Go.Proofs.YtekkicgbloidkaaGreatDoor
open Go Go.RowKit

def prodTy (l r : Int × Int) : (Int × Int) × Bool :=
  if tNum l && tNum r then (if l.1 = 1 ∧ r.1 = 1 then ((1, 0), true) else ((2, wrap64 (l.2 + r.2)), scFits (wrap64 (l.2 + r.2)))) else ((0, 0), false)

set_option maxHeartbeats 1000000 in
theorem product_any (l r : Int × Int) (w : World) :
    Calls Tryz.prog 134 #[tyV l, tyV r] w fun e w' => e = .returned (.tuple #[tyV (prodTy l r).1, .bool (prodTy l r).2]) ∧ Below w.heap.size w w' := by
  obtain ⟨lk, ls⟩ := l
  obtain ⟨rk, rs⟩ := r
  go_enter Tryz.func134, Tryz.ntmps134
  go_wp2_with fail
  refine (number_any (lk, ls) _).mono ?_
  rintro e w1 ⟨rfl, hb1⟩
  have hB1 : Below w.heap.size w w1 := Below.step hb1 ((((Below.refl _ _).alloc (by simp) _).alloc (by simp) _).alloc (by simp <;> omega) _) (by simp <;> omega)
  obtain ⟨hc1, hf1, hz1⟩ := after (w.heap.size + 1 + 1 + 1) hb1 (by simp)
  clear hb1
  by_cases hl : tNum (lk, ls) = true
  · go_wp2_with fail
    refine (number_any (rk, rs) _).mono ?_
    rintro e w2 ⟨rfl, hb2⟩
    have hB2 : Below w.heap.size w w2 := Below.step hb2 hB1 (by omega)
    obtain ⟨hc2, hf2, hz2⟩ := after (w.heap.size + 1 + 1 + 1) hb2 (by omega)
    clear hb2
    by_cases hr : tNum (rk, rs) = true
    · by_cases h1 : lk = 1 ∧ rk = 1
      · obtain ⟨rfl, rfl⟩ := h1
        go_wp2_with fail
        refine (whole_any _).mono ?_
        rintro e w3 ⟨rfl, hb3⟩
        have hB3 : Below w.heap.size w w3 := Below.step hb3 hB2 (by omega)
        obtain ⟨hc3, hf3, hz3⟩ := after (w.heap.size + 1 + 1 + 1) hb3 (by omega)
        go_wp2_with fail
        exact bodyPost_ret (v := .tuple #[tyV (1, 0), .bool true]) (by simp [results, Tryz.results134, go_sem, hc3, hc2, hc1]) rfl ⟨by simp [prodTy, hl, hr], (hB3.setCell (by simp <;> omega) _).setCell (by simp <;> omega) _⟩
      · have hp : prodTy (lk, ls) (rk, rs) = ((2, wrap64 (ls + rs)), scFits (wrap64 (ls + rs))) := by
          unfold prodTy
          rw [if_pos (by simp [hl, hr]), if_neg h1]
        have HP : Hid _ := hp
        clear hp
        by_cases h2 : lk = 1
        all_goals
          simp [h2] at h1
          go_wp2_with fail
          refine (decimal_any _ _).mono ?_
          rintro e w3 ⟨rfl, hb3⟩
          have hB3 : Below w.heap.size w w3 := Below.step hb3 hB2 (by omega)
          obtain ⟨hc3, hf3, hz3⟩ := after (w.heap.size + 1 + 1 + 1) hb3 (by omega)
          go_wp2_with fail
          exact bodyPost_ret (v := .tuple #[tyV (2, wrap64 (ls + rs)), .bool (scFits (wrap64 (ls + rs)))]) (by simp [results, Tryz.results134, go_sem, hc3, hc2, hc1]) rfl ⟨by rw [HP.out], (hB3.setCell (by simp <;> omega) _).setCell (by simp <;> omega) _⟩
    · go_wp2_with fail
      exact bodyPost_ret (v := .tuple #[tyV (0, 0), .bool false]) (by simp [results, Tryz.results134, go_sem, hc2, hc1]) rfl ⟨by simp [prodTy, hl, hr], (hB2.setCell (by simp <;> omega) _).setCell (by simp <;> omega) _⟩
  · go_wp2_with fail
    exact bodyPost_ret (v := .tuple #[tyV (0, 0), .bool false]) (by simp [results, Tryz.results134, go_sem, hc1]) rfl ⟨by simp [prodTy, hl], (hB1.setCell (by simp <;> omega) _).setCell (by simp <;> omega) _⟩

def colAt (cols : List (Int × Int)) (p : Int) : (Int × Int) × Bool :=
  if 0 ≤ p ∧ p < cols.length then (cols.getD p.toNat (0, 0), true) else ((0, 0), false)

set_option maxHeartbeats 1000000 in
theorem column_any (cols : List (Int × Int)) (v : Value) (p : Int) (w : World) (hv : RTys w v cols) :
    Calls Tryz.prog 105 #[v, .int .i64 p] w fun e w' => e = .returned (.tuple #[tyV (colAt cols p).1, .bool (colAt cols p).2]) ∧ Below w.heap.size w w' := by
  obtain ⟨ao, cap, rfl, hl, hel⟩ := hv
  by_cases h : 0 ≤ p ∧ p < cols.length
  · have HP : Hid (colAt cols p = (cols.getD p.toNat (0, 0), true)) := by unfold Hid colAt; rw [if_pos h]
    obtain ⟨h1, h2⟩ := h
    obtain ⟨q, rfl⟩ := Int.eq_ofNat_of_zero_le h1
    have h3 : q < cols.length := by omega
    obtain ⟨b, off, rfl, hr0, hr1⟩ := hel q h3
    simp only [Nat.add_zero] at hr0
    have hb := cell_lt hr0
    go_enter Tryz.func105, Tryz.ntmps105
    go_wp2
    exact bodyPost_ret (v := .tuple #[tyV (cols[q]), .bool true]) (by simp [results, Tryz.results105, go_sem]) rfl ⟨by rw [HP.out]; simp [h3], (Below.refl _ _).alloc (Nat.le_refl _) _⟩
  · have HP : Hid (colAt cols p = ((0, 0), false)) := by unfold Hid colAt; rw [if_neg h]
    by_cases h1 : p < 0
    · go_enter Tryz.func105, Tryz.ntmps105
      go_wp2
      exact bodyPost_ret (v := .tuple #[tyV (0, 0), .bool false]) (by simp [results, Tryz.results105, go_sem]) rfl ⟨by rw [HP.out], (Below.refl _ _).alloc (Nat.le_refl _) _⟩
    · have h1' : 0 ≤ p := by omega
      have h2 : (cols.length : Int) ≤ p := by omega
      obtain ⟨q, rfl⟩ := Int.eq_ofNat_of_zero_le h1'
      have h3 : cols.length ≤ q := by omega
      clear h h1
      go_enter Tryz.func105, Tryz.ntmps105
      go_wp2
      exact bodyPost_ret (v := .tuple #[tyV (0, 0), .bool false]) (by simp [results, Tryz.results105, go_sem]) rfl ⟨by rw [HP.out], (Below.refl _ _).alloc (Nat.le_refl _) _⟩

end Go.Proofs.YtekkicgbloidkaaGreatDoor
/- Two types are compared, of either package. -/
namespace Go.Proofs.YtekkicgbloidkaaGreatDoor
open Go Go.RowKit
theorem eq_ty (a b c d : Int) (w : World) : (binOp .eql 103 (.agg #[.int .i64 a, .int .i64 b]) (.agg #[.int .i64 c, .int .i64 d])).run Tryz.prog w = .ok (.bool ((a, b) == (c, d))) w := by
  by_cases h1 : a = c <;> by_cases h2 : b = d
  all_goals go_simp
  all_goals simp [h1, h2]
theorem ne_ty (a b c d : Int) (w : World) : (binOp .neq 103 (.agg #[.int .i64 a, .int .i64 b]) (.agg #[.int .i64 c, .int .i64 d])).run Tryz.prog w = .ok (.bool ((a, b) != (c, d))) w := by
  by_cases h1 : a = c <;> by_cases h2 : b = d
  all_goals go_simp
  all_goals simp [h1, h2, bne]
theorem eq_rty (a b c d : Int) (w : World) : (binOp .eql 108 (.agg #[.int .i64 a, .int .i64 b]) (.agg #[.int .i64 c, .int .i64 d])).run Tryz.prog w = .ok (.bool ((a, b) == (c, d))) w := by
  by_cases h1 : a = c <;> by_cases h2 : b = d
  all_goals go_simp
  all_goals simp [h1, h2]
theorem ne_rty (a b c d : Int) (w : World) : (binOp .neq 108 (.agg #[.int .i64 a, .int .i64 b]) (.agg #[.int .i64 c, .int .i64 d])).run Tryz.prog w = .ok (.bool ((a, b) != (c, d))) w := by
  by_cases h1 : a = c <;> by_cases h2 : b = d
  all_goals go_simp
  all_goals simp [h1, h2, bne]
end Go.Proofs.YtekkicgbloidkaaGreatDoor
/- The types of leaves, of terms of one and of two values. -/
namespace Go.Proofs.YtekkicgbloidkaaGreatDoor
open Go Go.RowKit
attribute [local go_sem ↓] Go.wp_at_zero Go.wp_at_succ

def leafTy (t : DTerm) (cols : List (Int × Int)) : (Int × Int) × Bool :=
  if t.op = 1 then colAt cols t.a else if t.op = 2 then ((1, 0), true) else if t.op = 3 then ((2, t.a), scFits t.a)
  else if t.op = 4 then ((3, 0), decide ((t.s.size : Int) ≤ 16)) else ((0, 0), false)

abbrev termV (t : DTerm) : Value := .agg #[.int .i64 t.op, .int .i64 t.a, .int .i64 t.v, .string t.s]

set_option maxHeartbeats 1000000 in
theorem leaf1_any (a v : Int) (s : ByteArray) (cols : List (Int × Int)) (vc : Value) (w : World) (hv : RTys w vc cols) :
    Calls Tryz.prog 123 #[.agg #[.int .i64 1, .int .i64 a, .int .i64 v, .string s], vc] w fun e w' => e = .returned (.tuple #[tyV (colAt cols a).1, .bool (colAt cols a).2]) ∧ Below w.heap.size w w' := by
  go_enter Tryz.func123, Tryz.ntmps123
  go_wp2_with fail
  refine (column_any cols vc a _ (hv.mono mono_RTy (((Keeps.refl _).alloc _).alloc _))).mono ?_
  rintro e w1 ⟨rfl, hb1⟩
  have hB1 : Below w.heap.size w w1 := Below.step hb1 (((Below.refl _ _).alloc (by simp) _).alloc (by simp) _) (by simp <;> omega)
  obtain ⟨hc1, hf1, hz1⟩ := after (w.heap.size + 1 + 1) hb1 (by simp)
  go_wp2_with fail
  exact bodyPost_ret (v := .tuple #[tyV (colAt cols a).1, .bool (colAt cols a).2]) (by simp [results, Tryz.results123, go_sem, hc1]) rfl ⟨rfl, (hB1.setCell (by simp) _).setCell (by simp) _⟩

set_option maxHeartbeats 1000000 in
theorem leaf2_any (a v : Int) (s : ByteArray) (vc : Value) (w : World) :
    Calls Tryz.prog 123 #[.agg #[.int .i64 2, .int .i64 a, .int .i64 v, .string s], vc] w fun e w' => e = .returned (.tuple #[tyV (1, 0), .bool true]) ∧ Below w.heap.size w w' := by
  go_enter Tryz.func123, Tryz.ntmps123
  go_wp2_with fail
  refine (whole_any _).mono ?_
  rintro e w1 ⟨rfl, hb1⟩
  have hB1 : Below w.heap.size w w1 := Below.step hb1 (((Below.refl _ _).alloc (by simp) _).alloc (by simp) _) (by simp <;> omega)
  obtain ⟨hc1, hf1, hz1⟩ := after (w.heap.size + 1 + 1) hb1 (by simp)
  go_wp2_with fail
  exact bodyPost_ret (v := .tuple #[tyV (1, 0), .bool true]) (by simp [results, Tryz.results123, go_sem, hc1]) rfl ⟨rfl, (hB1.setCell (by simp) _).setCell (by simp) _⟩

set_option maxHeartbeats 1000000 in
theorem leaf3_any (a v : Int) (s : ByteArray) (vc : Value) (w : World) :
    Calls Tryz.prog 123 #[.agg #[.int .i64 3, .int .i64 a, .int .i64 v, .string s], vc] w fun e w' => e = .returned (.tuple #[tyV (2, a), .bool (scFits a)]) ∧ Below w.heap.size w w' := by
  go_enter Tryz.func123, Tryz.ntmps123
  go_wp2_with fail
  refine (decimal_any _ _).mono ?_
  rintro e w1 ⟨rfl, hb1⟩
  have hB1 : Below w.heap.size w w1 := Below.step hb1 (((Below.refl _ _).alloc (by simp) _).alloc (by simp) _) (by simp <;> omega)
  obtain ⟨hc1, hf1, hz1⟩ := after (w.heap.size + 1 + 1) hb1 (by simp)
  go_wp2_with fail
  exact bodyPost_ret (v := .tuple #[tyV (2, a), .bool (scFits a)]) (by simp [results, Tryz.results123, go_sem, hc1]) rfl ⟨rfl, (hB1.setCell (by simp) _).setCell (by simp) _⟩

set_option maxHeartbeats 1000000 in
theorem leaf4_any (a v : Int) (s : ByteArray) (_hs : s.size ≤ 9223372036854775807) (vc : Value) (w : World) :
    Calls Tryz.prog 123 #[.agg #[.int .i64 4, .int .i64 a, .int .i64 v, .string s], vc] w fun e w' => e = .returned (.tuple #[tyV (3, 0), .bool (decide ((s.size : Int) ≤ 16))]) ∧ Below w.heap.size w w' := by
  go_enter Tryz.func123, Tryz.ntmps123
  go_wp2_with fail
  go_region_held3 (fun W => W.cell? ⟨w.heap.size, 3, none⟩ = some (.string s)) (first | (go_keep; done) | (simp [hc1, go_sem]; done))
    (first | (go_at_call 132; refine (text_any _).mono ?_; rintro e w1 ⟨rfl, hb1⟩; obtain ⟨hc1, hf1, hz1⟩ := after (w.heap.size + 1 + 1) hb1 (by simp)))
  have hB1 : Below w.heap.size w w1 := Below.step hb1 (((Below.refl _ _).alloc (by simp) _).alloc (by simp) _).drew (by simp <;> omega)
  go_wp2_with fail
  exact bodyPost_ret (v := .tuple #[tyV (3, 0), .bool (decide ((s.size : Int) ≤ 16))]) (by simp [results, Tryz.results123, go_sem, hc1]) rfl ⟨rfl, (hB1.setCell (by simp) _).setCell (by simp) _⟩

set_option maxHeartbeats 1000000 in
theorem leafN_any (op a v : Int) (s : ByteArray) (vc : Value) (w : World) (h1 : (op == 1) = false) (h2 : (op == 2) = false) (h3 : (op == 3) = false) (h4 : (op == 4) = false) :
    Calls Tryz.prog 123 #[.agg #[.int .i64 op, .int .i64 a, .int .i64 v, .string s], vc] w fun e w' => e = .returned (.tuple #[tyV (0, 0), .bool false]) ∧ Below w.heap.size w w' := by
  go_enter Tryz.func123, Tryz.ntmps123
  go_wp2_with fail
  exact bodyPost_ret (v := .tuple #[tyV (0, 0), .bool false]) (by simp [results, Tryz.results123, go_sem]) rfl ⟨rfl, ((Below.refl _ _).alloc (by simp) _).alloc (by simp) _⟩

theorem leaf_any (t : DTerm) (ht : t.s.size ≤ 9223372036854775807) (cols : List (Int × Int)) (vc : Value) (w : World) (hv : RTys w vc cols) :
    Calls Tryz.prog 123 #[termV t, vc] w fun e w' => e = .returned (.tuple #[tyV (leafTy t cols).1, .bool (leafTy t cols).2]) ∧ Below w.heap.size w w' := by
  obtain ⟨op, a, v, s⟩ := t
  by_cases h1 : op = 1
  · subst h1; exact leaf1_any a v s cols vc w hv
  by_cases h2 : op = 2
  · subst h2; exact leaf2_any a v s vc w
  by_cases h3 : op = 3
  · subst h3; exact leaf3_any a v s vc w
  by_cases h4 : op = 4
  · subst h4; exact leaf4_any a v s ht vc w
  have e : leafTy ⟨op, a, v, s⟩ cols = ((0, 0), false) := by simp [leafTy, h1, h2, h3, h4]
  rw [e]
  exact leafN_any op a v s vc w (by simpa using h1) (by simpa using h2) (by simpa using h3) (by simpa using h4)

end Go.Proofs.YtekkicgbloidkaaGreatDoor
/- The types of terms of one value. -/
namespace Go.Proofs.YtekkicgbloidkaaGreatDoor
open Go Go.RowKit
attribute [local go_sem ↓] Go.wp_at_zero Go.wp_at_succ
attribute [local go_sem ↓] eq_ty ne_ty

def unTy (t : DTerm) (o : Int × Int) : (Int × Int) × Bool :=
  if t.op = 8 then ((2, t.a), scFits t.a && tNum o) else if t.op = 14 then ((4, 0), o == (4, 0)) else if t.op = 15 then ((4, 0), true) else ((0, 0), false)

set_option maxHeartbeats 1000000 in
theorem unary8_any (a v : Int) (s : ByteArray) (o : Int × Int) (w : World) :
    Calls Tryz.prog 124 #[.agg #[.int .i64 8, .int .i64 a, .int .i64 v, .string s], tyV o] w fun e w' => e = .returned (.tuple #[tyV (2, a), .bool (scFits a && tNum o)]) ∧ Below w.heap.size w w' := by
  obtain ⟨ok, os⟩ := o
  go_enter Tryz.func124, Tryz.ntmps124
  go_wp2_with fail
  refine (decimal_any _ _).mono ?_
  rintro e w1 ⟨rfl, hb1⟩
  have hB1 : Below w.heap.size w w1 := Below.step hb1 ((((Below.refl _ _).alloc (by simp) _).alloc (by simp) _).alloc (by simp <;> omega) _) (by simp <;> omega)
  have bo1 : Box w1 (w.heap.size + 1) _ _ := Box.call (Box.alloc (by simpa using Box.new (w.alloc _) _ _) _) hb1
  have br1 : Box w1 (w.heap.size + 1 + 1) _ _ := Box.call (by simpa using Box.new ((w.alloc _).alloc _) _ _) hb1
  have hz1 : w.heap.size + 1 + 1 + 1 ≤ w1.heap.size := by simpa using hb1.size
  obtain ⟨hco, hfo, hlo⟩ := bo1.all
  obtain ⟨hcr, hfr, hlr⟩ := br1.all
  clear hb1
  by_cases hs : scFits a = true
  · go_wp2_with fail
    go_region_held3 (fun W => W.cell? ⟨w.heap.size + 1, 0, none⟩ = some (.int .i64 ok) ∧ W.cell? ⟨w.heap.size + 1, 1, none⟩ = some (.int .i64 os) ∧ W.cell? ⟨w1.heap.size, 0, none⟩ = some (.int .i64 2) ∧ W.cell? ⟨w1.heap.size, 1, none⟩ = some (.int .i64 a))
      ((go_split_ands; refine ⟨?_, ?_, ?_, ?_⟩ <;> first | (exact (Keeps.of_below hb2) _ _ _ (by assumption)) | (exact cell_set_ne (cell_set_ne (by assumption) (by omega)) (by omega)) | (go_keep; done)))
      (first | (go_at_call 117; refine (number_any (ok, os) _).mono ?_; rintro e w2 ⟨rfl, hb2⟩; obtain ⟨hcr2, hfr2⟩ := ((br1.alloc _).drew.call hb2).rules))
    have hB2 : Below w.heap.size w w2 := Below.step hb2 (hB1.alloc (by omega) _).drew (by simp <;> omega)
    have br2 := (br1.alloc _).drew.call hb2
    go_wp2_with fail
    exact bodyPost_ret (v := .tuple #[tyV (2, a), .bool (scFits a && tNum (ok, os))]) (by simp [results, Tryz.results124, go_sem, hcr2, hs]) rfl ⟨rfl, (hB2.setCell (by simp <;> omega) _).setCell (by simp <;> omega) _⟩
  · have hd : scFits a = false := by simpa using hs
    clear hs
    go_wp2_with fail
    go_region
    go_wp2_with fail
    exact bodyPost_ret (v := .tuple #[tyV (2, a), .bool (scFits a && tNum (ok, os))]) (by simp [results, Tryz.results124, go_sem, hcr, hlr, hd]) rfl ⟨rfl, (((hB1.setCell (by simp <;> omega) _).setCell (by simp <;> omega) _).alloc (by simp; omega) _).drew⟩

set_option maxHeartbeats 1000000 in
theorem unary14_any (a v : Int) (s : ByteArray) (o : Int × Int) (w : World) :
    Calls Tryz.prog 124 #[.agg #[.int .i64 14, .int .i64 a, .int .i64 v, .string s], tyV o] w fun e w' => e = .returned (.tuple #[tyV (4, 0), .bool (o == (4, 0))]) ∧ Below w.heap.size w w' := by
  obtain ⟨ok, os⟩ := o
  have br0 := (Box.new ((w.alloc (.cells #[.int .i64 14, .int .i64 a, .int .i64 v, .string s] 87)).alloc (.cells #[.int .i64 ok, .int .i64 os] 103)) #[.int .i64 0, .int .i64 0] 103).drew
  rw [show ((w.alloc (.cells #[.int .i64 14, .int .i64 a, .int .i64 v, .string s] 87)).alloc (.cells #[.int .i64 ok, .int .i64 os] 103)).heap.size = w.heap.size + 1 + 1 by simp] at br0
  go_enter Tryz.func124, Tryz.ntmps124
  go_wp2_with fail
  go_region_held3 (fun W => W.cell? ⟨w.heap.size + 1, 0, none⟩ = some (.int .i64 ok) ∧ W.cell? ⟨w.heap.size + 1, 1, none⟩ = some (.int .i64 os))
    ((go_split_ands; refine ⟨?_, ?_⟩ <;> first | (exact (Keeps.of_below hb2) _ _ _ (by assumption)) | (exact (Keeps.of_below hb1) _ _ _ (by assumption)) | (exact cell_set_ne (cell_set_ne (by assumption) (by omega)) (by omega)) | (go_keep; done)))
    (first | (go_at_call 133; refine (truth_any _).mono ?_; rintro e w1 ⟨rfl, hb1⟩; have br1 := br0.call hb1; obtain ⟨hcr, hfr, hlr⟩ := br1.all) | (go_at_call 133; refine (truth_any _).mono ?_; rintro e w2 ⟨rfl, hb2⟩; have br2 := br1.call hb2; obtain ⟨hcr2, hfr2, hlr2⟩ := br2.all))
  have hB2 : Below w.heap.size w w2 := Below.step hb2 (Below.step hb1 ((((Below.refl _ _).alloc (by simp) _).alloc (by simp) _).alloc (by simp <;> omega) _).drew (by simp <;> omega)) (by omega)
  go_wp2_with fail
  exact bodyPost_ret (v := .tuple #[tyV (4, 0), .bool ((ok, os) == (4, 0))]) (by simp [results, Tryz.results124, go_sem, hcr2]) rfl ⟨rfl, (hB2.setCell (by simp <;> omega) _).setCell (by simp <;> omega) _⟩

set_option maxHeartbeats 1000000 in
theorem unary15_any (a v : Int) (s : ByteArray) (o : Int × Int) (w : World) :
    Calls Tryz.prog 124 #[.agg #[.int .i64 15, .int .i64 a, .int .i64 v, .string s], tyV o] w fun e w' => e = .returned (.tuple #[tyV (4, 0), .bool true]) ∧ Below w.heap.size w w' := by
  obtain ⟨ok, os⟩ := o
  have br0 := (Box.new ((w.alloc (.cells #[.int .i64 15, .int .i64 a, .int .i64 v, .string s] 87)).alloc (.cells #[.int .i64 ok, .int .i64 os] 103)) #[.int .i64 0, .int .i64 0] 103)
  rw [show ((w.alloc (.cells #[.int .i64 15, .int .i64 a, .int .i64 v, .string s] 87)).alloc (.cells #[.int .i64 ok, .int .i64 os] 103)).heap.size = w.heap.size + 1 + 1 by simp] at br0
  go_enter Tryz.func124, Tryz.ntmps124
  go_wp2_with fail
  refine (truth_any _).mono ?_
  rintro e w1 ⟨rfl, hb1⟩
  have hB1 : Below w.heap.size w w1 := Below.step hb1 ((((Below.refl _ _).alloc (by simp) _).alloc (by simp) _).alloc (by simp <;> omega) _) (by simp <;> omega)
  obtain ⟨hcr, hfr, hlr⟩ := (br0.call hb1).all
  go_wp2_with fail
  exact bodyPost_ret (v := .tuple #[tyV (4, 0), .bool true]) (by simp [results, Tryz.results124, go_sem, hcr]) rfl ⟨rfl, (hB1.setCell (by simp <;> omega) _).setCell (by simp <;> omega) _⟩

set_option maxHeartbeats 1000000 in
theorem unaryN_any (op a v : Int) (s : ByteArray) (o : Int × Int) (w : World) (h8 : (op == 8) = false) (h14 : (op == 14) = false) (h15 : (op == 15) = false) :
    Calls Tryz.prog 124 #[.agg #[.int .i64 op, .int .i64 a, .int .i64 v, .string s], tyV o] w fun e w' => e = .returned (.tuple #[tyV (0, 0), .bool false]) ∧ Below w.heap.size w w' := by
  obtain ⟨ok, os⟩ := o
  go_enter Tryz.func124, Tryz.ntmps124
  go_wp2_with fail
  exact bodyPost_ret (v := .tuple #[tyV (0, 0), .bool false]) (by simp [results, Tryz.results124, go_sem]) rfl ⟨rfl, (((Below.refl _ _).alloc (by simp) _).alloc (by simp) _).alloc (by simp <;> omega) _⟩

theorem unary_any (t : DTerm) (o : Int × Int) (w : World) :
    Calls Tryz.prog 124 #[termV t, tyV o] w fun e w' => e = .returned (.tuple #[tyV (unTy t o).1, .bool (unTy t o).2]) ∧ Below w.heap.size w w' := by
  obtain ⟨op, a, v, s⟩ := t
  by_cases h1 : op = 8
  · subst h1; exact unary8_any a v s o w
  by_cases h2 : op = 14
  · subst h2; exact unary14_any a v s o w
  by_cases h3 : op = 15
  · subst h3; exact unary15_any a v s o w
  have e : unTy ⟨op, a, v, s⟩ o = ((0, 0), false) := by simp [unTy, h1, h2, h3]
  rw [e]
  exact unaryN_any op a v s o w (by simpa using h1) (by simpa using h2) (by simpa using h3)

end Go.Proofs.YtekkicgbloidkaaGreatDoor
/- The types of terms of two values. -/
namespace Go.Proofs.YtekkicgbloidkaaGreatDoor
open Go Go.RowKit
attribute [local go_sem ↓] Go.wp_at_zero Go.wp_at_succ
attribute [local go_sem ↓] eq_ty ne_ty

def binTy (op : Int) (l r : Int × Int) : (Int × Int) × Bool :=
  if op = 5 ∨ op = 6 then (l, l == r && tNum l) else if op = 7 then prodTy l r
  else if op = 9 ∨ op = 10 ∨ op = 11 then ((4, 0), l == r && l != (4, 0)) else if op = 12 ∨ op = 13 then ((4, 0), l == (4, 0) && r == (4, 0)) else ((0, 0), false)

theorem bin_boxes (w : World) (lk ls rk rs : Int) :
    Box (((w.alloc (.cells #[.int .i64 lk, .int .i64 ls] 103)).alloc (.cells #[.int .i64 rk, .int .i64 rs] 103)).alloc (.cells #[.int .i64 0, .int .i64 0] 103)) w.heap.size #[.int .i64 lk, .int .i64 ls] 103 ∧
    Box (((w.alloc (.cells #[.int .i64 lk, .int .i64 ls] 103)).alloc (.cells #[.int .i64 rk, .int .i64 rs] 103)).alloc (.cells #[.int .i64 0, .int .i64 0] 103)) (w.heap.size + 1) #[.int .i64 rk, .int .i64 rs] 103 := by
  refine ⟨((Box.new w _ _).alloc _).alloc _, ?_⟩
  have := (Box.new (w.alloc (.cells #[.int .i64 lk, .int .i64 ls] 103)) #[.int .i64 rk, .int .i64 rs] 103).alloc (.cells #[.int .i64 0, .int .i64 0] 103)
  rwa [show (w.alloc (.cells #[.int .i64 lk, .int .i64 ls] 103)).heap.size = w.heap.size + 1 by simp] at this

theorem bin_box (w : World) (lk ls rk rs : Int) :
    Box (((w.alloc (.cells #[.int .i64 lk, .int .i64 ls] 103)).alloc (.cells #[.int .i64 rk, .int .i64 rs] 103)).alloc (.cells #[.int .i64 0, .int .i64 0] 103)) (w.heap.size + 1 + 1) #[.int .i64 0, .int .i64 0] 103 ∧
    Below w.heap.size w (((w.alloc (.cells #[.int .i64 lk, .int .i64 ls] 103)).alloc (.cells #[.int .i64 rk, .int .i64 rs] 103)).alloc (.cells #[.int .i64 0, .int .i64 0] 103)) := by
  refine ⟨?_, (((Below.refl _ _).alloc (by simp) _).alloc (by simp) _).alloc (by simp <;> omega) _⟩
  have := Box.new ((w.alloc (.cells #[.int .i64 lk, .int .i64 ls] 103)).alloc (.cells #[.int .i64 rk, .int .i64 rs] 103)) #[.int .i64 0, .int .i64 0] 103
  rwa [show ((w.alloc (.cells #[.int .i64 lk, .int .i64 ls] 103)).alloc (.cells #[.int .i64 rk, .int .i64 rs] 103)).heap.size = w.heap.size + 1 + 1 by simp] at this

set_option maxHeartbeats 1000000 in
theorem binary5_any (op : Int) (hop : op = 5 ∨ op = 6) (l r : Int × Int) (w : World) :
    Calls Tryz.prog 125 #[.int .i64 op, tyV l, tyV r] w fun e w' => e = .returned (.tuple #[tyV l, .bool (l == r && tNum l)]) ∧ Below w.heap.size w w' := by
  obtain ⟨lk, ls⟩ := l
  obtain ⟨rk, rs⟩ := r
  obtain ⟨br0, hB0⟩ := bin_box w lk ls rk rs
  by_cases hg : ((lk, ls) == (rk, rs)) = true
  · rcases hop with rfl | rfl
    all_goals
      go_enter Tryz.func125, Tryz.ntmps125
      go_wp2_with fail
      go_region_held3 (fun W => W.cell? ⟨w.heap.size, 0, none⟩ = some (.int .i64 lk) ∧ W.cell? ⟨w.heap.size, 1, none⟩ = some (.int .i64 ls) ∧ W.cell? ⟨w.heap.size + 1, 0, none⟩ = some (.int .i64 rk) ∧ W.cell? ⟨w.heap.size + 1, 1, none⟩ = some (.int .i64 rs))
        ((go_split_ands; refine ⟨?_, ?_, ?_, ?_⟩ <;> first | (exact (Keeps.of_below hb1) _ _ _ (by assumption)) | (exact cell_set_ne (cell_set_ne (by assumption) (by omega)) (by omega)) | (go_keep; done)))
        (first | (go_at_call 117; refine (number_any (lk, ls) _).mono ?_; rintro e w1 ⟨rfl, hb1⟩; have br1 := br0.drew.call hb1; obtain ⟨hcr, hfr, hlr⟩ := br1.all))
      have hB1 : Below w.heap.size w w1 := Below.step hb1 hB0.drew (by simp <;> omega)
      go_wp2_with fail
      exact bodyPost_ret (v := .tuple #[tyV (lk, ls), .bool ((lk, ls) == (rk, rs) && tNum (lk, ls))]) (by simp [results, Tryz.results125, go_sem, hcr, hg]) rfl ⟨rfl, (hB1.setCell (by simp <;> omega) _).setCell (by simp <;> omega) _⟩
  · have hg' : ((lk, ls) == (rk, rs)) = false := by simpa using hg
    clear hg
    obtain ⟨hcr, hfr, hlr⟩ := br0.all
    rcases hop with rfl | rfl
    all_goals
      go_enter Tryz.func125, Tryz.ntmps125
      go_wp2_with fail
      go_region
      go_wp2_with fail
      exact bodyPost_ret (v := .tuple #[tyV (lk, ls), .bool ((lk, ls) == (rk, rs) && tNum (lk, ls))]) (by simp [results, Tryz.results125, go_sem, hg']) rfl ⟨rfl, ((((Below.refl _ _).alloc (by simp) _).alloc (by simp) _).alloc (by simp <;> omega) _).drew⟩

set_option maxHeartbeats 1000000 in
theorem binary7_any (l r : Int × Int) (w : World) :
    Calls Tryz.prog 125 #[.int .i64 7, tyV l, tyV r] w fun e w' => e = .returned (.tuple #[tyV (prodTy l r).1, .bool (prodTy l r).2]) ∧ Below w.heap.size w w' := by
  obtain ⟨lk, ls⟩ := l
  obtain ⟨rk, rs⟩ := r
  obtain ⟨br0, hB0⟩ := bin_box w lk ls rk rs
  go_enter Tryz.func125, Tryz.ntmps125
  go_wp2_with fail
  refine (product_any (lk, ls) (rk, rs) _).mono ?_
  rintro e w1 ⟨rfl, hb1⟩
  have hB1 : Below w.heap.size w w1 := Below.step hb1 hB0 (by simp <;> omega)
  obtain ⟨hcr, hfr, hlr⟩ := (br0.call hb1).all
  go_wp2_with fail
  exact bodyPost_ret (v := .tuple #[tyV (prodTy (lk, ls) (rk, rs)).1, .bool (prodTy (lk, ls) (rk, rs)).2]) (by simp [results, Tryz.results125, go_sem, hcr]) rfl ⟨rfl, (hB1.setCell (by simp <;> omega) _).setCell (by simp <;> omega) _⟩

set_option maxHeartbeats 1000000 in
theorem binaryN_any (op : Int) (l r : Int × Int) (w : World) (h5 : (op == 5) = false) (h6 : (op == 6) = false) (h7 : (op == 7) = false) (h9 : (op == 9) = false) (h10 : (op == 10) = false) (h11 : (op == 11) = false) (h12 : (op == 12) = false) (h13 : (op == 13) = false) :
    Calls Tryz.prog 125 #[.int .i64 op, tyV l, tyV r] w fun e w' => e = .returned (.tuple #[tyV (0, 0), .bool false]) ∧ Below w.heap.size w w' := by
  obtain ⟨lk, ls⟩ := l
  obtain ⟨rk, rs⟩ := r
  go_enter Tryz.func125, Tryz.ntmps125
  go_wp2_with fail
  exact bodyPost_ret (v := .tuple #[tyV (0, 0), .bool false]) (by simp [results, Tryz.results125, go_sem]) rfl ⟨rfl, (((Below.refl _ _).alloc (by simp) _).alloc (by simp) _).alloc (by simp <;> omega) _⟩

end Go.Proofs.YtekkicgbloidkaaGreatDoor
