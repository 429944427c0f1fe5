/- The owner's book: what it holds. Plain facts. -/
import Derived.Test.YtekkicgbloidkaaGreatDoorMkC
namespace Go.Proofs.YtekkicgbloidkaaGreatDoor
open Go Go.RowKit

theorem Mk.other {T T' : TypeId} {sz : Nat} {w w' : World} {lo hi b : Nat} {cb : Array Value} {v : Value} {xs : List Value} (h : Mk T sz w lo hi v xs) (hb : Box w b cb T') (hne : T ≠ T') (ho : Only (fun x => x = b) w w') : Mk T sz w' lo hi v xs := by
  rcases h with h | ⟨g, n, cap, cur, hv, h1, h2, hbx, rest⟩
  · exact .inl h
  · exact .inr ⟨g, n, cap, cur, hv, h1, h2, hbx.only ho (hbx.ne hb hne), rest⟩

/-- An entry of the book: four lists, and their mark. -/
def PEnt (T : TypeId) (sz : Nat) (X : Nat → List Value) (_ : Nat) (w : World) (lo hi : Nat) (rd : Nat → Option Value) (m : Nat) : Prop :=
  ∃ v0 v1 v2 v3, rd 0 = some v0 ∧ rd 1 = some v1 ∧ rd 2 = some v2 ∧ rd 3 = some v3 ∧ rd 4 = some (.int .i64 m) ∧ Mk T sz w lo hi v0 (X m) ∧ Mk T sz w lo hi v1 (X m) ∧ Mk T sz w lo hi v2 (X m) ∧ Mk T sz w lo hi v3 (X m)
theorem stays_PEnt (T : TypeId) (sz : Nat) (X : Nat → List Value) : Stays 5 (PEnt T sz X) :=
  ⟨fun k w w' lo hi rd x S ho hs ⟨v0, v1, v2, v3, r0, r1, r2, r3, r4, m0, m1, m2, m3⟩ => ⟨v0, v1, v2, v3, r0, r1, r2, r3, r4, m0.only ho hs, m1.only ho hs, m2.only ho hs, m3.only ho hs⟩,
   fun k w lo hi rd rd' x hr ⟨v0, v1, v2, v3, r0, r1, r2, r3, r4, m⟩ => ⟨v0, v1, v2, v3, by rw [hr 0 (by omega)]; exact r0, by rw [hr 1 (by omega)]; exact r1, by rw [hr 2 (by omega)]; exact r2, by rw [hr 3 (by omega)]; exact r3, by rw [hr 4 (by omega)]; exact r4, m⟩⟩
theorem LList.other {T T' : TypeId} {sz : Nat} {X : Nat → List Value} {w w' : World} {xs : List Value} {l : List Nat} {ivs : List (Nat × Nat)} {b : Nat} {cb : Array Value} (h : LList 5 (PEnt T sz X) w xs l ivs) (hb : Box w b cb T') (hne : T ≠ T') (ho : Only (fun x => x = b) w w') : LList 5 (PEnt T sz X) w' xs l ivs :=
  ⟨h.lenx, h.leni, h.pw, fun k hk hk' => by
    obtain ⟨v0, v1, v2, v3, r0, r1, r2, r3, r4, m0, m1, m2, m3⟩ := h.each k hk hk'
    exact ⟨v0, v1, v2, v3, r0, r1, r2, r3, r4, m0.other hb hne ho, m1.other hb hne ho, m2.other hb hne ho, m3.other hb hne ho⟩⟩

/-- One of the book's lists. 'av': blocks that none of its entries' lists lies in. -/
def Ent (T TS : TypeId) (sz : Nat) (X : Nat → List Value) (av : Nat → Prop) (B : Nat) (w : World) (v : Value) (l : List Nat) : Prop :=
  ∃ (xs : List Value) (ivs : List (Nat × Nat)), w.ownsRow B TS 5 v l.length xs ∧ LList 5 (PEnt T sz X) w xs l ivs ∧ (∀ iv ∈ ivs, B ≤ iv.1 ∧ iv.2 ≤ w.heap.size) ∧ (∀ (i b off n c : Nat), xs[i]? = some (.slice (some ⟨b, off, none⟩) n c) → ¬ av b)

theorem Ent.nil (T TS : TypeId) (sz : Nat) (X : Nat → List Value) (av : Nat → Prop) (B : Nat) (w : World) : Ent T TS sz X av B w (.slice none 0 0) [] :=
  ⟨[], [], World.ownsRow_nil _ _ _ _, LList.nil _ _ _, fun _ h => by simp at h, fun i b off n c h => by simp at h⟩
theorem Ent.shape {T TS : TypeId} {sz : Nat} {X : Nat → List Value} {av : Nat → Prop} {B : Nat} {w : World} {v : Value} {l : List Nat} (h : Ent T TS sz X av B w v l) : ∃ a c, v = .slice a l.length c := by
  obtain ⟨xs, ivs, ho, -⟩ := h
  exact owns_shape ho
theorem Ent.call {T TS : TypeId} {sz : Nat} {X : Nat → List Value} {av : Nat → Prop} {B : Nat} {w w' : World} {v : Value} {l : List Nat} (h : Ent T TS sz X av B w v l) (hb : Below w.heap.size w w') : Ent T TS sz X av B w' v l := by
  obtain ⟨xs, ivs, ho, hl, hi, ha⟩ := h
  exact ⟨xs, ivs, owns_call ho hb, hl.call (stays_PEnt _ _ _) hb, fun iv h => ⟨(hi iv h).1, Nat.le_trans (hi iv h).2 hb.size⟩, ha⟩
theorem Mk.lt {T : TypeId} {sz : Nat} {w : World} {lo hi : Nat} {v : Value} {xs : List Value} (h : Mk T sz w lo hi v xs) {b off n c : Nat} (hv : v = .slice (some ⟨b, off, none⟩) n c) : b < w.heap.size := by
  rcases h with h | ⟨g, n', cap, cur, h, -, -, hb, -⟩
  · rw [h] at hv; simp at hv
  · rw [h] at hv
    simp only [Value.slice.injEq, Option.some.injEq, Addr.mk.injEq, and_true] at hv
    obtain ⟨⟨rfl, -⟩, -⟩ := hv
    exact hb.lt
/-- None of the entries' lists lies in a block that is still to come. -/
theorem Ent.fresh {T TS : TypeId} {sz : Nat} {X : Nat → List Value} {av av' : Nat → Prop} {B : Nat} {w : World} {v : Value} {l : List Nat} (h : Ent T TS sz X av B w v l) (ha' : ∀ b, av' b → w.heap.size ≤ b) : Ent T TS sz X av' B w v l := by
  obtain ⟨xs, ivs, ho, hl, hi, ha⟩ := h
  refine ⟨xs, ivs, ho, hl, hi, fun i b off n c hx hav => ?_⟩
  have hb := ha' b hav
  have hil : i < xs.length := (List.getElem?_eq_some_iff.1 hx).1
  have hlx := hl.lenx
  have hk : i / 5 < l.length := by omega
  obtain ⟨v0, v1, v2, v3, r0, r1, r2, r3, r4, m0, m1, m2, m3⟩ := hl.each (i / 5) hk (by rw [hl.leni]; exact hk)
  have e : i / 5 * 5 + i % 5 = i := by omega
  have hm : i % 5 < 5 := Nat.mod_lt _ (by omega)
  simp only at r0 r1 r2 r3 r4
  rw [← e] at hx
  generalize i % 5 = d at hx hm
  match d, hm with
  | 0, _ => rw [r0] at hx; simp only [Option.some.injEq] at hx; have := m0.lt hx; omega
  | 1, _ => rw [r1] at hx; simp only [Option.some.injEq] at hx; have := m1.lt hx; omega
  | 2, _ => rw [r2] at hx; simp only [Option.some.injEq] at hx; have := m2.lt hx; omega
  | 3, _ => rw [r3] at hx; simp only [Option.some.injEq] at hx; have := m3.lt hx; omega
  | 4, _ => rw [r4] at hx; simp at hx
/-- A block of another element type is written. -/
theorem Ent.other {T TS T' : TypeId} {sz : Nat} {X : Nat → List Value} {av : Nat → Prop} {B : Nat} {w w' : World} {v : Value} {l : List Nat} {b : Nat} {cb : Array Value} (h : Ent T TS sz X av B w v l) (hb : Box w b cb T') (h1 : T ≠ T') (h2 : TS ≠ T') (ho : Only (fun x => x = b) w w') : Ent T TS sz X av B w' v l := by
  obtain ⟨xs, ivs, hw, hl, hi, ha⟩ := h
  refine ⟨xs, ivs, owns_blk hw (fun g hg => ?_), hl.other hb h1 ho, fun iv h => ⟨(hi iv h).1, Nat.le_trans (hi iv h).2 ho.size⟩, ha⟩
  obtain ⟨cur, hcur⟩ := owns_own hw hg
  exact ho.block g hcur.lt (hcur.ne hb h2)
theorem grown_only {w w' : World} {row : Option Nat} {g : Nat} (hg : w.grownBy w' row) (hr : row = some g) : Only (fun x => x = g) w w' :=
  ⟨hg.os, hg.tape, hg.output, hg.size, fun b hb hn => hg.block b hb (fun e => hn (by rw [hr] at e; simpa using e))⟩
theorem grown_below {w w' : World} {row : Option Nat} (hg : w.grownBy w' row) (hr : row = none) : Below w.heap.size w w' :=
  ⟨hg.os, hg.tape, hg.output, hg.size, fun b hb => hg.block b hb (by rw [hr]; simp)⟩
/-- Another list of the book has grown. -/
theorem Ent.grown {T TS TS' : TypeId} {sz : Nat} {X : Nat → List Value} {av : Nat → Prop} {B : Nat} {w w' : World} {v : Value} {l : List Nat} (h : Ent T TS sz X av B w v l) {v' : Value} {n' : Nat} {xs' : List Value} (hown : w.ownsRow B TS' 5 v' n' xs') (hg : w.grownBy w' v'.ownBlock) (h1 : T ≠ TS') (h2 : TS ≠ TS') : Ent T TS sz X av B w' v l := by
  cases hr : v'.ownBlock with
  | none => exact h.call (grown_below hg hr)
  | some g =>
    obtain ⟨cur, hcur⟩ := owns_own hown hr
    exact h.other hcur h1 h2 (grown_only hg hr)
/-- An entry is laid behind the others. -/
theorem Ent.push {T TS : TypeId} {sz : Nat} {X : Nat → List Value} {av : Nat → Prop} {B : Nat} {w w1 w2 : World} {v : Value} {l : List Nat} (h : Ent T TS sz X av B w v l) (hne : T ≠ TS) (hb1 : Below w.heap.size w w1)
    {v0 v1 v2 v3 : Value} {m lo hi : Nat} (m0 : Mk T sz w1 lo hi v0 (X m)) (m1 : Mk T sz w1 lo hi v1 (X m)) (m2 : Mk T sz w1 lo hi v2 (X m)) (m3 : Mk T sz w1 lo hi v3 (X m)) (hlo : ∀ xs ivs, w.ownsRow B TS 5 v l.length xs → LList 5 (PEnt T sz X) w xs l ivs → (∀ iv ∈ ivs, B ≤ iv.1 ∧ iv.2 ≤ w.heap.size) → ∀ iv ∈ ivs, iv.2 ≤ lo) (hBlo : B ≤ lo) (hhi : hi ≤ w1.heap.size) (hav : ∀ (b off n c : Nat), (v0 = .slice (some ⟨b, off, none⟩) n c ∨ v1 = .slice (some ⟨b, off, none⟩) n c ∨ v2 = .slice (some ⟨b, off, none⟩) n c ∨ v3 = .slice (some ⟨b, off, none⟩) n c) → ¬ av b) {v' : Value}
    (happ : ∀ xs, w.ownsRow B TS 5 v l.length xs → w2.ownsRow B TS 5 v' (l.length + 1) (xs ++ [v0, v1, v2, v3, .int .i64 m])) (hg : w1.grownBy w2 v.ownBlock) : Ent T TS sz X av B w2 v' (l ++ [m]) := by
  obtain ⟨xs, ivs, hw, hl, hi', ha⟩ := h
  have hl1 := hl.call (stays_PEnt _ _ _) hb1
  have hl2 := hl1.snoc (stays_PEnt T sz X) (cs := [v0, v1, v2, v3, .int .i64 m]) (x := m) (lo := lo) (hi := hi) rfl (hlo xs ivs hw hl hi') ⟨v0, v1, v2, v3, rfl, rfl, rfl, rfl, rfl, m0, m1, m2, m3⟩
  have hl3 : LList 5 (PEnt T sz X) w2 (xs ++ [v0, v1, v2, v3, .int .i64 m]) (l ++ [m]) (ivs ++ [(lo, hi)]) := by
    cases hr : v.ownBlock with
    | none => exact hl2.call (stays_PEnt _ _ _) (grown_below hg hr)
    | some g =>
      obtain ⟨cur, hcur⟩ := owns_own (owns_call hw hb1) hr
      exact hl2.other hcur hne (grown_only hg hr)
  refine ⟨xs ++ [v0, v1, v2, v3, .int .i64 m], ivs ++ [(lo, hi)], by rw [List.length_append, List.length_singleton]; exact happ xs hw, hl3, fun iv hiv => ?_, fun i b off n c hx => ?_⟩
  · rw [List.mem_append, List.mem_singleton] at hiv
    have hz := hg.size
    have hz1 := hb1.size
    rcases hiv with hiv | rfl
    · have := hi' iv hiv; exact ⟨this.1, by omega⟩
    · exact ⟨hBlo, by simp only; omega⟩
  · have hlx := hl.lenx
    by_cases hil : i < xs.length
    · rw [List.getElem?_append_left hil] at hx; exact ha i b off n c hx
    · rw [List.getElem?_append_right (by omega)] at hx
      generalize i - xs.length = d at hx
      match d, hx with
      | 0, hx => simp at hx; exact hav b off n c (.inl hx)
      | 1, hx => simp at hx; exact hav b off n c (.inr (.inl hx))
      | 2, hx => simp at hx; exact hav b off n c (.inr (.inr (.inl hx)))
      | 3, hx => simp at hx; exact hav b off n c (.inr (.inr (.inr hx)))
      | 4, hx => simp at hx
      | d + 5, hx => simp at hx

/-- The book's lists of columns: 'av': blocks that none of its entries' lists lies in. -/
def EntC (av : Nat → Prop) (B : Nat) (w : World) (v : Value) (n : Nat) : Prop :=
  ∃ (xs : List Value), w.ownsRow B 78 5 v n xs ∧ (∀ k, k < n → ∃ v0 v1 v2 v3, xs[k * 5]? = some v0 ∧ xs[k * 5 + 1]? = some v1 ∧ xs[k * 5 + 2]? = some v2 ∧ xs[k * 5 + 3]? = some v3 ∧ xs[k * 5 + 4]? = some (.int .i64 k) ∧
    (∀ x, x = v0 ∨ x = v1 ∨ x = v2 ∨ x = v3 → Mk 67 5 w 0 w.heap.size x (xCol k) ∧ ∀ (b off n c : Nat), x = .slice (some ⟨b, off, none⟩) n c → ¬ av b))
theorem EntC.shape {av : Nat → Prop} {B : Nat} {w : World} {v : Value} {n : Nat} (h : EntC av B w v n) : ∃ a c, v = .slice a n c := by
  obtain ⟨xs, ho, -⟩ := h
  exact owns_shape ho
theorem Mk.keep {T : TypeId} {sz : Nat} {w w' : World} {lo hi : Nat} {v : Value} {xs : List Value} {S : Nat → Prop} (h : Mk T sz w lo hi v xs) (ho : Only S w w') (hs : ∀ (b off n c : Nat), v = .slice (some ⟨b, off, none⟩) n c → ¬ S b) : Mk T sz w' lo w'.heap.size v xs := by
  rcases h with h | ⟨g, n, cap, cur, hv, h1, h2, hb, rest⟩
  · exact .inl h
  · exact .inr ⟨g, n, cap, cur, hv, h1, Nat.lt_of_lt_of_le hb.lt ho.size, hb.only ho (hs g 0 n cap hv), rest⟩
theorem EntC.only {av : Nat → Prop} {B : Nat} {w w' : World} {v : Value} {n : Nat} (h : EntC av B w v n) {S : Nat → Prop} (ho : Only S w w') (hs : ∀ b, S b → av b) (hr : ∀ g, v.ownBlock = some g → ¬ S g) : EntC av B w' v n := by
  obtain ⟨xs, hw, he⟩ := h
  refine ⟨xs, owns_blk hw (fun g hg => ho.block g (hw.lt g hg).2 (hr g hg)), fun k hk => ?_⟩
  obtain ⟨v0, v1, v2, v3, r0, r1, r2, r3, r4, hm⟩ := he k hk
  exact ⟨v0, v1, v2, v3, r0, r1, r2, r3, r4, fun x hx => ⟨(hm x hx).1.keep ho (fun b off n c e hb => (hm x hx).2 b off n c e (hs b hb)), (hm x hx).2⟩⟩
theorem EntC.call {av : Nat → Prop} {B : Nat} {w w' : World} {v : Value} {n : Nat} (h : EntC av B w v n) (hb : Below w.heap.size w w') : EntC av B w' v n :=
  h.only (S := fun _ => False) (Only.below hb) (fun _ h => h.elim) (fun _ _ => id)
theorem EntC.fresh {av av' : Nat → Prop} {B : Nat} {w : World} {v : Value} {n : Nat} (h : EntC av B w v n) (ha' : ∀ b, av' b → w.heap.size ≤ b) : EntC av' B w v n := by
  obtain ⟨xs, hw, he⟩ := h
  refine ⟨xs, hw, fun k hk => ?_⟩
  obtain ⟨v0, v1, v2, v3, r0, r1, r2, r3, r4, hm⟩ := he k hk
  exact ⟨v0, v1, v2, v3, r0, r1, r2, r3, r4, fun x hx => ⟨(hm x hx).1, fun b off n c e hb => by have := (hm x hx).1.lt e; have := ha' b hb; omega⟩⟩
theorem EntC.other {T' : TypeId} {av : Nat → Prop} {B : Nat} {w w' : World} {v : Value} {n b : Nat} {cb : Array Value} (h : EntC av B w v n) (hb : Box w b cb T') (h1 : 67 ≠ T') (h2 : 78 ≠ T') (ho : Only (fun x => x = b) w w') : EntC av B w' v n := by
  obtain ⟨xs, hw, he⟩ := h
  refine ⟨xs, owns_blk hw (fun g hg => ?_), fun k hk => ?_⟩
  · obtain ⟨cur, hcur⟩ := owns_own hw hg
    exact ho.block g hcur.lt (hcur.ne hb h2)
  · obtain ⟨v0, v1, v2, v3, r0, r1, r2, r3, r4, hm⟩ := he k hk
    refine ⟨v0, v1, v2, v3, r0, r1, r2, r3, r4, fun x hx => ⟨?_, (hm x hx).2⟩⟩
    have hk' := (hm x hx).1
    refine hk'.keep ho (fun b' off n c e hbb => ?_)
    rcases hk' with h | ⟨g, n', cap, cur, hv, -, -, hbx, -⟩
    · rw [h] at e; simp at e
    · rw [hv] at e
      simp only [Value.slice.injEq, Option.some.injEq, Addr.mk.injEq, and_true] at e
      exact hbx.ne hb h1 (e.1.1.trans hbb)
theorem EntC.grown {TS' : TypeId} {av : Nat → Prop} {B : Nat} {w w' : World} {v : Value} {n : Nat} (h : EntC av B w v n) {v' : Value} {n' : Nat} {xs' : List Value} (hown : w.ownsRow B TS' 5 v' n' xs') (hg : w.grownBy w' v'.ownBlock) (h1 : 67 ≠ TS') (h2 : 78 ≠ TS') : EntC av B w' v n := by
  cases hr : v'.ownBlock with
  | none => exact h.call (grown_below hg hr)
  | some g =>
    obtain ⟨cur, hcur⟩ := owns_own hown hr
    exact h.other hcur h1 h2 (grown_only hg hr)
theorem owns_same {w : World} {B sz n : Nat} {TS : TypeId} {v : Value} {xs ys : List Value} (hx : w.ownsRow B TS sz v n xs) (hy : w.ownsRow B TS sz v n ys) : ys = xs := by
  rcases hx.2 with ⟨e1, e2⟩ | ⟨g1, c1, u1, e1, -, e3, -, -, -, e7⟩
  · have h1 := hx.1; have h2 := hy.1
    rw [e2] at h1 h2
    simp at h1 h2
    rw [h1, h2]
  · rcases hy.2 with ⟨f1, -⟩ | ⟨g2, c2, u2, f1, -, f3, -, -, -, f7⟩
    · rw [e1] at f1; simp at f1
    · rw [e1] at f1
      simp only [Value.slice.injEq, Option.some.injEq, Addr.mk.injEq, and_true, true_and] at f1
      obtain ⟨rfl, rfl⟩ := f1
      rw [e3] at f3
      simp only [Option.some.injEq, Obj.cells.injEq, and_true] at f3
      rw [← e7, ← f7, f3]
theorem EntC.push {av : Nat → Prop} {B : Nat} {w1 w2 : World} {v : Value} {n : Nat} (h : EntC av B w1 v n) {v0 v1 v2 v3 : Value}
    (hm : ∀ x, x = v0 ∨ x = v1 ∨ x = v2 ∨ x = v3 → Mk 67 5 w1 0 w1.heap.size x (xCol n) ∧ ∀ (b off n c : Nat), x = .slice (some ⟨b, off, none⟩) n c → ¬ av b) {v' : Value} {xs : List Value} (hx : w1.ownsRow B 78 5 v n xs)
    (happ : w2.ownsRow B 78 5 v' (n + 1) (xs ++ [v0, v1, v2, v3, .int .i64 n])) (hg : w1.grownBy w2 v.ownBlock) : EntC av B w2 v' (n + 1) := by
  obtain ⟨xs', hw, he⟩ := h
  have e := owns_same hx hw
  subst e
  have hlx := hx.1
  have hkeep : ∀ x k, (Mk 67 5 w1 0 w1.heap.size x (xCol k)) → Mk 67 5 w2 0 w2.heap.size x (xCol k) := by
    intro x k hM
    cases hr : v.ownBlock with
    | none => exact hM.keep (S := fun _ => False) (Only.below (grown_below hg hr)) (fun _ _ _ _ _ => id)
    | some g =>
      obtain ⟨cur, hcur⟩ := owns_own hx hr
      refine hM.keep (grown_only hg hr) (fun b' off n c e hbb => ?_)
      rcases hM with h | ⟨g', n', cap, cur', hv, -, -, hbx, -⟩
      · rw [h] at e; simp at e
      · rw [hv] at e
        simp only [Value.slice.injEq, Option.some.injEq, Addr.mk.injEq, and_true] at e
        exact hbx.ne hcur (by decide) (e.1.1.trans hbb)
  refine ⟨_, happ, fun k hk => ?_⟩
  by_cases hkn : k < n
  · obtain ⟨a0, a1, a2, a3, r0, r1, r2, r3, r4, hm'⟩ := he k hkn
    exact ⟨a0, a1, a2, a3, by rw [List.getElem?_append_left (by omega)]; exact r0, by rw [List.getElem?_append_left (by omega)]; exact r1, by rw [List.getElem?_append_left (by omega)]; exact r2, by rw [List.getElem?_append_left (by omega)]; exact r3, by rw [List.getElem?_append_left (by omega)]; exact r4, fun x hx => ⟨hkeep x k (hm' x hx).1, (hm' x hx).2⟩⟩
  · have hkk : k = n := by omega
    subst hkk
    refine ⟨v0, v1, v2, v3, ?_, ?_, ?_, ?_, ?_, fun x hx => ⟨hkeep x k (hm x hx).1, (hm x hx).2⟩⟩
    · rw [List.getElem?_append_right (by omega), hlx]; simp
    · rw [List.getElem?_append_right (by omega), hlx, show k * 5 + 1 - k * 5 = 1 by omega]; rfl
    · rw [List.getElem?_append_right (by omega), hlx, show k * 5 + 2 - k * 5 = 2 by omega]; rfl
    · rw [List.getElem?_append_right (by omega), hlx, show k * 5 + 3 - k * 5 = 3 by omega]; rfl
    · rw [List.getElem?_append_right (by omega), hlx, show k * 5 + 4 - k * 5 = 4 by omega]; rfl

abbrev XNum (m : Nat) : List Value := [.int .i64 (-1000 - (m : Int))]
abbrev XWord (m : Nat) : List Value := [.string (labelOf m)]
abbrev XFlag (m : Nat) : List Value := [.bool (decide (m = 0))]
abbrev no (_ : Nat) : Prop := False
abbrev EntN := Ent 2 74 1 XNum no
abbrev EntW := Ent 9 76 1 XWord no
abbrev EntP := Ent 3 80 1 XNum no
abbrev EntF := Ent 4 120 1 XFlag no

theorem elem_nums : Elem Tryz.prog 27 74 (.agg #[.slice none 0 0, .slice none 0 0, .slice none 0 0, .slice none 0 0, .int .i64 0]) 5 104 := ⟨Tryz.underlying27, by kernel_rfl, by decide, by decide⟩
theorem elem_words : Elem Tryz.prog 28 76 (.agg #[.slice none 0 0, .slice none 0 0, .slice none 0 0, .slice none 0 0, .int .i64 0]) 5 104 := ⟨Tryz.underlying28, by kernel_rfl, by decide, by decide⟩
theorem elem_cols : Elem Tryz.prog 29 78 (.agg #[.slice none 0 0, .slice none 0 0, .slice none 0 0, .slice none 0 0, .int .i64 0]) 5 104 := ⟨Tryz.underlying29, by kernel_rfl, by decide, by decide⟩
theorem elem_places : Elem Tryz.prog 30 80 (.agg #[.slice none 0 0, .slice none 0 0, .slice none 0 0, .slice none 0 0, .int .i64 0]) 5 104 := ⟨Tryz.underlying30, by kernel_rfl, by decide, by decide⟩
theorem elem_flags : Elem Tryz.prog 31 120 (.agg #[.slice none 0 0, .slice none 0 0, .slice none 0 0, .slice none 0 0, .int .i64 0]) 5 104 := ⟨Tryz.underlying31, by kernel_rfl, by decide, by decide⟩

/-- The book. -/
structure Book (av : Nat → Prop) (B : Nat) (w : World) (bk : Nat) (vN vW vC vP vF : Value) (nN nW nC nP : Nat) (fl : List Nat) : Prop where
  bkge : B ≤ bk
  box : Box w bk #[vN, vW, vC, vP, vF] 33
  nums : EntN B w vN (List.range nN)
  words : EntW B w vW (List.range nW)
  cols : EntC av B w vC nC
  places : EntP B w vP (List.range nP)
  flags : EntF B w vF fl
  two : ∀ m ∈ fl, m ≤ 1

theorem Book.call {av : Nat → Prop} {B : Nat} {w w' : World} {bk : Nat} {vN vW vC vP vF : Value} {nN nW nC nP : Nat} {fl : List Nat} (h : Book av B w bk vN vW vC vP vF nN nW nC nP fl) (hb : Below w.heap.size w w') : Book av B w' bk vN vW vC vP vF nN nW nC nP fl :=
  ⟨h.bkge, h.box.call hb, h.nums.call hb, h.words.call hb, h.cols.call hb, h.places.call hb, h.flags.call hb, h.two⟩

theorem EntC.sub {av av' : Nat → Prop} {B : Nat} {w : World} {v : Value} {n : Nat} (h : EntC av B w v n) (ha : ∀ b, av' b → av b) : EntC av' B w v n := by
  obtain ⟨xs, hw, he⟩ := h
  refine ⟨xs, hw, fun k hk => ?_⟩
  obtain ⟨v0, v1, v2, v3, r0, r1, r2, r3, r4, hm⟩ := he k hk
  exact ⟨v0, v1, v2, v3, r0, r1, r2, r3, r4, fun x hx => ⟨(hm x hx).1, fun b off n c e hb => (hm x hx).2 b off n c e (ha b hb)⟩⟩
theorem Book.sub {av av' : Nat → Prop} {B : Nat} {w : World} {bk : Nat} {vN vW vC vP vF : Value} {nN nW nC nP : Nat} {fl : List Nat} (h : Book av B w bk vN vW vC vP vF nN nW nC nP fl) (ha : ∀ b, av' b → av b) : Book av' B w bk vN vW vC vP vF nN nW nC nP fl :=
  ⟨h.bkge, h.box, h.nums, h.words, h.cols.sub ha, h.places, h.flags, h.two⟩
theorem Book.fresh {av av' : Nat → Prop} {B : Nat} {w : World} {bk : Nat} {vN vW vC vP vF : Value} {nN nW nC nP : Nat} {fl : List Nat} (h : Book av B w bk vN vW vC vP vF nN nW nC nP fl) (ha : ∀ b, av' b → w.heap.size ≤ b) : Book av' B w bk vN vW vC vP vF nN nW nC nP fl :=
  ⟨h.bkge, h.box, h.nums, h.words, h.cols.fresh ha, h.places, h.flags, h.two⟩
/-- A list of columns that no entry lies in is written. -/
theorem Book.ownCols {av : Nat → Prop} {B : Nat} {w w' : World} {bk : Nat} {vN vW vC vP vF : Value} {nN nW nC nP : Nat} {fl : List Nat} (h : Book av B w bk vN vW vC vP vF nN nW nC nP fl) {lo : Nat} {ao : Option Addr} {n : Nat} (hf : Full 67 5 w lo ao n) (ho : Only (fun b => ao = some ⟨b, 0, none⟩) w w') (hav : ∀ b, ao = some ⟨b, 0, none⟩ → av b) : Book av B w' bk vN vW vC vP vF nN nW nC nP fl := by
  rcases hf with ⟨rfl, -⟩ | ⟨g, cs, rfl, -, hbx, -⟩
  · exact h.call ⟨ho.os, ho.tape, ho.output, ho.size, fun b hb => ho.block b hb (by simp)⟩
  · have ho' : Only (fun x => x = g) w w' := ho.mono (fun b _ e => by simp only [Option.some.injEq, Addr.mk.injEq, and_true] at e; exact e.symm)
    refine ⟨h.bkge, h.box.only ho' (h.box.ne hbx (by decide)), h.nums.other hbx (by decide) (by decide) ho', h.words.other hbx (by decide) (by decide) ho', ?_, h.places.other hbx (by decide) (by decide) ho', h.flags.other hbx (by decide) (by decide) ho', h.two⟩
    refine h.cols.only ho' (fun b e => by subst e; exact hav _ rfl) (fun g' hg' => ?_)
    obtain ⟨xs, hw, -⟩ := h.cols
    obtain ⟨cur, hcur⟩ := owns_own hw hg'
    exact hcur.ne hbx (by decide)

theorem Book.push_box {av : Nat → Prop} {B : Nat} {w1 w2 : World} {bk : Nat} {vN vW vC vP vF : Value} {nN nW nC nP : Nat} {fl : List Nat} (h : Book av B w1 bk vN vW vC vP vF nN nW nC nP fl) {v : Value} {n : Nat} {xs : List Value} {TS : TypeId} (hx : w1.ownsRow B TS 5 v n xs) (hgr : w1.grownBy w2 v.ownBlock) (hne : 33 ≠ TS := by decide) : Box w2 bk #[vN, vW, vC, vP, vF] 33 := by
  refine h.box.grown hgr (fun g' hg' => ?_)
  obtain ⟨cur, hcur⟩ := owns_own hx hg'
  exact h.box.ne hcur hne

theorem Book.pushN {av : Nat → Prop} {B : Nat} {w w1 w2 : World} {bk : Nat} {vN vW vC vP vF : Value} {nN nW nC nP : Nat} {fl : List Nat} (h : Book av B w bk vN vW vC vP vF nN nW nC nP fl) (hBw : B ≤ w.heap.size) (hb1 : Below w.heap.size w w1) {v0 v1 v2 v3 : Value} {hi : Nat} (m0 : Mk 2 1 w1 w.heap.size hi v0 (XNum nN)) (m1 : Mk 2 1 w1 w.heap.size hi v1 (XNum nN)) (m2 : Mk 2 1 w1 w.heap.size hi v2 (XNum nN)) (m3 : Mk 2 1 w1 w.heap.size hi v3 (XNum nN)) (hhi : hi ≤ w1.heap.size) {g cap : Nat} {xs : List Value}
    (hx1 : w1.ownsRow B 74 5 vN nN xs)
    (hown : w2.ownsRow B 74 5 (.slice (some ⟨g, 0, none⟩) (nN + 1) cap) (nN + 1) (xs ++ [v0, v1, v2, v3, .int .i64 nN])) (hgr : w1.grownBy w2 vN.ownBlock) :
    Book av B (w2.setCell ⟨bk, 0, none⟩ (.slice (some ⟨g, 0, none⟩) (nN + 1) cap)) bk (.slice (some ⟨g, 0, none⟩) (nN + 1) cap) vW vC vP vF (nN + 1) nW nC nP fl := by
  have h1 := h.call hb1
  have hbx := h1.push_box hx1 hgr
  have ho : Only (fun x => x = bk) w2 (w2.setCell ⟨bk, 0, none⟩ (.slice (some ⟨g, 0, none⟩) (nN + 1) cap)) := (Only.refl (fun x => x = bk) w2).setCell (p := ⟨bk, 0, none⟩) rfl _
  have hp : Ent 2 74 1 XNum no B w2 (.slice (some ⟨g, 0, none⟩) (nN + 1) cap) ((List.range nN) ++ [nN]) := by
    refine h.nums.push (by decide) hb1 m0 m1 m2 m3 (fun _ _ _ _ h3 iv h => (h3 iv h).2) hBw hhi (fun _ _ _ _ _ => id) (fun xs' hx' => ?_) hgr
    have hl : (List.range nN).length = nN := by simp
    rw [hl] at hx' ⊢
    have e := owns_same hx1 (owns_call hx' hb1)
    subst e
    exact hown
  refine ⟨h1.bkge, hbx.set 0 _, ?_, ?_, ?_, ?_, ?_, ?_⟩
  · rw [List.range_succ]; exact hp.other hbx (by decide) (by decide) ho
  · exact (h1.words.grown hx1 hgr (by decide) (by decide)).other hbx (by decide) (by decide) ho
  · exact (h1.cols.grown hx1 hgr (by decide) (by decide)).other hbx (by decide) (by decide) ho
  · exact (h1.places.grown hx1 hgr (by decide) (by decide)).other hbx (by decide) (by decide) ho
  · exact (h1.flags.grown hx1 hgr (by decide) (by decide)).other hbx (by decide) (by decide) ho
  · exact h.two

theorem Book.pushW {av : Nat → Prop} {B : Nat} {w w1 w2 : World} {bk : Nat} {vN vW vC vP vF : Value} {nN nW nC nP : Nat} {fl : List Nat} (h : Book av B w bk vN vW vC vP vF nN nW nC nP fl) (hBw : B ≤ w.heap.size) (hb1 : Below w.heap.size w w1) {v0 v1 v2 v3 : Value} {hi : Nat} (m0 : Mk 9 1 w1 w.heap.size hi v0 (XWord nW)) (m1 : Mk 9 1 w1 w.heap.size hi v1 (XWord nW)) (m2 : Mk 9 1 w1 w.heap.size hi v2 (XWord nW)) (m3 : Mk 9 1 w1 w.heap.size hi v3 (XWord nW)) (hhi : hi ≤ w1.heap.size) {g cap : Nat} {xs : List Value}
    (hx1 : w1.ownsRow B 76 5 vW nW xs)
    (hown : w2.ownsRow B 76 5 (.slice (some ⟨g, 0, none⟩) (nW + 1) cap) (nW + 1) (xs ++ [v0, v1, v2, v3, .int .i64 nW])) (hgr : w1.grownBy w2 vW.ownBlock) :
    Book av B (w2.setCell ⟨bk, 1, none⟩ (.slice (some ⟨g, 0, none⟩) (nW + 1) cap)) bk vN (.slice (some ⟨g, 0, none⟩) (nW + 1) cap) vC vP vF nN (nW + 1) nC nP fl := by
  have h1 := h.call hb1
  have hbx := h1.push_box hx1 hgr
  have ho : Only (fun x => x = bk) w2 (w2.setCell ⟨bk, 1, none⟩ (.slice (some ⟨g, 0, none⟩) (nW + 1) cap)) := (Only.refl (fun x => x = bk) w2).setCell (p := ⟨bk, 1, none⟩) rfl _
  have hp : Ent 9 76 1 XWord no B w2 (.slice (some ⟨g, 0, none⟩) (nW + 1) cap) ((List.range nW) ++ [nW]) := by
    refine h.words.push (by decide) hb1 m0 m1 m2 m3 (fun _ _ _ _ h3 iv h => (h3 iv h).2) hBw hhi (fun _ _ _ _ _ => id) (fun xs' hx' => ?_) hgr
    have hl : (List.range nW).length = nW := by simp
    rw [hl] at hx' ⊢
    have e := owns_same hx1 (owns_call hx' hb1)
    subst e
    exact hown
  refine ⟨h1.bkge, hbx.set 1 _, ?_, ?_, ?_, ?_, ?_, ?_⟩
  · exact (h1.nums.grown hx1 hgr (by decide) (by decide)).other hbx (by decide) (by decide) ho
  · rw [List.range_succ]; exact hp.other hbx (by decide) (by decide) ho
  · exact (h1.cols.grown hx1 hgr (by decide) (by decide)).other hbx (by decide) (by decide) ho
  · exact (h1.places.grown hx1 hgr (by decide) (by decide)).other hbx (by decide) (by decide) ho
  · exact (h1.flags.grown hx1 hgr (by decide) (by decide)).other hbx (by decide) (by decide) ho
  · exact h.two

theorem Book.pushC {av : Nat → Prop} {B : Nat} {w w1 w2 : World} {bk : Nat} {vN vW vC vP vF : Value} {nN nW nC nP : Nat} {fl : List Nat} (h : Book av B w bk vN vW vC vP vF nN nW nC nP fl) (hb1 : Below w.heap.size w w1) {v0 v1 v2 v3 : Value} (hM : ∀ x, x = v0 ∨ x = v1 ∨ x = v2 ∨ x = v3 → Mk 67 5 w1 0 w1.heap.size x (xCol nC) ∧ ∀ (b off n c : Nat), x = .slice (some ⟨b, off, none⟩) n c → ¬ av b) {g cap : Nat} {xs : List Value}
    (hx1 : w1.ownsRow B 78 5 vC nC xs)
    (hown : w2.ownsRow B 78 5 (.slice (some ⟨g, 0, none⟩) (nC + 1) cap) (nC + 1) (xs ++ [v0, v1, v2, v3, .int .i64 nC])) (hgr : w1.grownBy w2 vC.ownBlock) :
    Book av B (w2.setCell ⟨bk, 2, none⟩ (.slice (some ⟨g, 0, none⟩) (nC + 1) cap)) bk vN vW (.slice (some ⟨g, 0, none⟩) (nC + 1) cap) vP vF nN nW (nC + 1) nP fl := by
  have h1 := h.call hb1
  have hbx := h1.push_box hx1 hgr
  have ho : Only (fun x => x = bk) w2 (w2.setCell ⟨bk, 2, none⟩ (.slice (some ⟨g, 0, none⟩) (nC + 1) cap)) := (Only.refl (fun x => x = bk) w2).setCell (p := ⟨bk, 2, none⟩) rfl _
  have hp : EntC av B w2 (.slice (some ⟨g, 0, none⟩) (nC + 1) cap) (nC + 1) := h1.cols.push hM hx1 hown hgr
  refine ⟨h1.bkge, hbx.set 2 _, ?_, ?_, ?_, ?_, ?_, ?_⟩
  · exact (h1.nums.grown hx1 hgr (by decide) (by decide)).other hbx (by decide) (by decide) ho
  · exact (h1.words.grown hx1 hgr (by decide) (by decide)).other hbx (by decide) (by decide) ho
  · exact hp.other hbx (by decide) (by decide) ho
  · exact (h1.places.grown hx1 hgr (by decide) (by decide)).other hbx (by decide) (by decide) ho
  · exact (h1.flags.grown hx1 hgr (by decide) (by decide)).other hbx (by decide) (by decide) ho
  · exact h.two

theorem Book.pushP {av : Nat → Prop} {B : Nat} {w w1 w2 : World} {bk : Nat} {vN vW vC vP vF : Value} {nN nW nC nP : Nat} {fl : List Nat} (h : Book av B w bk vN vW vC vP vF nN nW nC nP fl) (hBw : B ≤ w.heap.size) (hb1 : Below w.heap.size w w1) {v0 v1 v2 v3 : Value} {hi : Nat} (m0 : Mk 3 1 w1 w.heap.size hi v0 (XNum nP)) (m1 : Mk 3 1 w1 w.heap.size hi v1 (XNum nP)) (m2 : Mk 3 1 w1 w.heap.size hi v2 (XNum nP)) (m3 : Mk 3 1 w1 w.heap.size hi v3 (XNum nP)) (hhi : hi ≤ w1.heap.size) {g cap : Nat} {xs : List Value}
    (hx1 : w1.ownsRow B 80 5 vP nP xs)
    (hown : w2.ownsRow B 80 5 (.slice (some ⟨g, 0, none⟩) (nP + 1) cap) (nP + 1) (xs ++ [v0, v1, v2, v3, .int .i64 nP])) (hgr : w1.grownBy w2 vP.ownBlock) :
    Book av B (w2.setCell ⟨bk, 3, none⟩ (.slice (some ⟨g, 0, none⟩) (nP + 1) cap)) bk vN vW vC (.slice (some ⟨g, 0, none⟩) (nP + 1) cap) vF nN nW nC (nP + 1) fl := by
  have h1 := h.call hb1
  have hbx := h1.push_box hx1 hgr
  have ho : Only (fun x => x = bk) w2 (w2.setCell ⟨bk, 3, none⟩ (.slice (some ⟨g, 0, none⟩) (nP + 1) cap)) := (Only.refl (fun x => x = bk) w2).setCell (p := ⟨bk, 3, none⟩) rfl _
  have hp : Ent 3 80 1 XNum no B w2 (.slice (some ⟨g, 0, none⟩) (nP + 1) cap) ((List.range nP) ++ [nP]) := by
    refine h.places.push (by decide) hb1 m0 m1 m2 m3 (fun _ _ _ _ h3 iv h => (h3 iv h).2) hBw hhi (fun _ _ _ _ _ => id) (fun xs' hx' => ?_) hgr
    have hl : (List.range nP).length = nP := by simp
    rw [hl] at hx' ⊢
    have e := owns_same hx1 (owns_call hx' hb1)
    subst e
    exact hown
  refine ⟨h1.bkge, hbx.set 3 _, ?_, ?_, ?_, ?_, ?_, ?_⟩
  · exact (h1.nums.grown hx1 hgr (by decide) (by decide)).other hbx (by decide) (by decide) ho
  · exact (h1.words.grown hx1 hgr (by decide) (by decide)).other hbx (by decide) (by decide) ho
  · exact (h1.cols.grown hx1 hgr (by decide) (by decide)).other hbx (by decide) (by decide) ho
  · rw [List.range_succ]; exact hp.other hbx (by decide) (by decide) ho
  · exact (h1.flags.grown hx1 hgr (by decide) (by decide)).other hbx (by decide) (by decide) ho
  · exact h.two

theorem Book.pushF {av : Nat → Prop} {B : Nat} {w w1 w2 : World} {bk : Nat} {vN vW vC vP vF : Value} {nN nW nC nP : Nat} {fl : List Nat} (h : Book av B w bk vN vW vC vP vF nN nW nC nP fl) (m : Nat) (hm : m ≤ 1) (hBw : B ≤ w.heap.size) (hb1 : Below w.heap.size w w1) {v0 v1 v2 v3 : Value} {hi : Nat} (m0 : Mk 4 1 w1 w.heap.size hi v0 (XFlag m)) (m1 : Mk 4 1 w1 w.heap.size hi v1 (XFlag m)) (m2 : Mk 4 1 w1 w.heap.size hi v2 (XFlag m)) (m3 : Mk 4 1 w1 w.heap.size hi v3 (XFlag m)) (hhi : hi ≤ w1.heap.size) {g cap : Nat} {xs : List Value}
    (hx1 : w1.ownsRow B 120 5 vF fl.length xs)
    (hown : w2.ownsRow B 120 5 (.slice (some ⟨g, 0, none⟩) (fl.length + 1) cap) (fl.length + 1) (xs ++ [v0, v1, v2, v3, .int .i64 m])) (hgr : w1.grownBy w2 vF.ownBlock) :
    Book av B (w2.setCell ⟨bk, 4, none⟩ (.slice (some ⟨g, 0, none⟩) (fl.length + 1) cap)) bk vN vW vC vP (.slice (some ⟨g, 0, none⟩) (fl.length + 1) cap) nN nW nC nP (fl ++ [m]) := by
  have h1 := h.call hb1
  have hbx := h1.push_box hx1 hgr
  have ho : Only (fun x => x = bk) w2 (w2.setCell ⟨bk, 4, none⟩ (.slice (some ⟨g, 0, none⟩) (fl.length + 1) cap)) := (Only.refl (fun x => x = bk) w2).setCell (p := ⟨bk, 4, none⟩) rfl _
  have hp : Ent 4 120 1 XFlag no B w2 (.slice (some ⟨g, 0, none⟩) (fl.length + 1) cap) (fl ++ [m]) := by
    refine h.flags.push (by decide) hb1 m0 m1 m2 m3 (fun _ _ _ _ h3 iv h => (h3 iv h).2) hBw hhi (fun _ _ _ _ _ => id) (fun xs' hx' => ?_) hgr
    have hl : fl.length = fl.length := by simp
    rw [hl] at hx' ⊢
    have e := owns_same hx1 (owns_call hx' hb1)
    subst e
    exact hown
  refine ⟨h1.bkge, hbx.set 4 _, ?_, ?_, ?_, ?_, ?_, ?_⟩
  · exact (h1.nums.grown hx1 hgr (by decide) (by decide)).other hbx (by decide) (by decide) ho
  · exact (h1.words.grown hx1 hgr (by decide) (by decide)).other hbx (by decide) (by decide) ho
  · exact (h1.cols.grown hx1 hgr (by decide) (by decide)).other hbx (by decide) (by decide) ho
  · exact (h1.places.grown hx1 hgr (by decide) (by decide)).other hbx (by decide) (by decide) ho
  · exact hp.other hbx (by decide) (by decide) ho
  · intro x hx; rw [List.mem_append, List.mem_singleton] at hx; rcases hx with hx | rfl
    · exact h.two x hx
    · exact hm

end Go.Proofs.YtekkicgbloidkaaGreatDoor
/- The book's lists are looked at: flags. -/
namespace Go.Proofs.YtekkicgbloidkaaGreatDoor
open Go Go.RowKit
attribute [local go_sem ↓] Go.wp_at_zero Go.wp_at_succ

/-- An entry of one of the book's lists, by its cells. -/
theorem Ent.at {T TS : TypeId} {sz : Nat} {X : Nat → List Value} {av : Nat → Prop} {B : Nat} {w : World} {a : Option Addr} {c : Nat} {l : List Nat} (h : Ent T TS sz X av B w (.slice a l.length c) l) {k : Nat} (hk : k < l.length) :
    ∃ g lo hi v0 v1 v2 v3, a = some ⟨g, 0, none⟩ ∧ g < w.heap.size ∧ w.cell? ⟨g, k * 5, none⟩ = some v0 ∧ w.cell? ⟨g, k * 5 + 1, none⟩ = some v1 ∧ w.cell? ⟨g, k * 5 + 2, none⟩ = some v2 ∧ w.cell? ⟨g, k * 5 + 3, none⟩ = some v3 ∧ w.cell? ⟨g, k * 5 + 4, none⟩ = some (.int .i64 (l[k] : Nat)) ∧ Mk T sz w lo hi v0 (X l[k]) ∧ Mk T sz w lo hi v1 (X l[k]) ∧ Mk T sz w lo hi v2 (X l[k]) ∧ Mk T sz w lo hi v3 (X l[k]) := by
  obtain ⟨xs, ivs, ho, hl, -, -⟩ := h
  obtain ⟨v0, v1, v2, v3, r0, r1, r2, r3, r4, m0, m1, m2, m3⟩ := hl.each k hk (by rw [hl.leni]; exact hk)
  obtain ⟨g, c', hv, -, hg⟩ := World.ownsRow.form ho (by omega)
  simp only [Value.slice.injEq, true_and] at hv
  obtain ⟨rfl, rfl⟩ := hv
  exact ⟨g, _, _, v0, v1, v2, v3, rfl, hg, owns_cell ho _ _ r0, owns_cell ho _ _ r1, owns_cell ho _ _ r2, owns_cell ho _ _ r3, owns_cell ho _ _ r4, m0, m1, m2, m3⟩

set_option maxRecDepth 20000 in
set_option maxHeartbeats 4000000 in
theorem flagsStill_any {av : Nat → Prop} {B : Nat} {w : World} {bk : Nat} {vN vW vC vP vF : Value} {nN nW nC nP : Nat} {fl : List Nat} (h : Book av B w bk vN vW vC vP vF nN nW nC nP fl) (hn : fl.length ≤ 1000000000) :
    Calls Tryz.prog 23 #[.pointer (some ⟨bk, 0, none⟩)] w fun e w' => e = .returned (.bool true) ∧ Below w.heap.size w w' := by
  obtain ⟨aF, cF, hvF⟩ := h.flags.shape
  subst hvF
  have HK : Hid (Book av B w bk vN vW vC vP (.slice aF fl.length cF) nN nW nC nP fl) := h
  clear h
  go_enter Tryz.func23, Tryz.ntmps23
  go_wp2_with fail
  go_loopw [3] (fun i W => ∃ k : Nat, k ≤ fl.length ∧ i = .int .i64 k ∧ Below w.heap.size w W) (fun i _ => fl.length - (intOf i).toNat)
  case atStart => exact ⟨0, Nat.zero_le _, rfl, Below.refl _ _⟩
  case round =>
    obtain ⟨k, hk, rfl, hB⟩ := hrel
    have HB : Hid (Below w.heap.size w wr) := hB
    have HKr : Hid (Book av B wr bk vN vW vC vP (.slice aF fl.length cF) nN nW nC nP fl) := HK.out.call hB
    obtain ⟨x1, x2, x3⟩ := HKr.out.box.all
    clear hB
    by_cases hlt : k < fl.length
    · obtain ⟨g, lo, hi, v0, v1, v2, v3, rfl, hg, e0, e1, e2, e3, e4, m0, m1, m2, m3⟩ := HKr.out.flags.at hlt
      obtain ⟨b0, n0, c0, rfl⟩ := m0.shape
      obtain ⟨b1, n1, c1, rfl⟩ := m1.shape
      obtain ⟨b2, n2, c2, rfl⟩ := m2.shape
      obtain ⟨b3, n3, c3, rfl⟩ := m3.shape
      have HM0 : Hid (Mk _ _ _ _ _ _ _) := m0
      have HM1 : Hid (Mk _ _ _ _ _ _ _) := m1
      have HM2 : Hid (Mk _ _ _ _ _ _ _) := m2
      have HM3 : Hid (Mk _ _ _ _ _ _ _) := m3
      have hmk : fl[k] ≤ 1 := HK.out.two _ (List.getElem_mem hlt)
      have hi1 : (k : Int) < (fl.length : Int) := by omega
      generalize fl[k] = M at *
      clear m0 m1 m2 m3
      go_wp2_with fail
      refine (stillFlags_any M hmk _ _ _ _ wr lo hi HM0.out HM1.out HM2.out HM3.out).mono ?_
      rintro e w1 ⟨rfl, hb1⟩
      have HB1 : Hid (Below w.heap.size w w1) := Below.step hb1 HB.out HB.out.size
      clear hb1
      go_wp2_with fail
      go_roundw
      case rel => exact ⟨k + 1, by omega, by go_num, HB1.out⟩
      case measure => simp [intOf]; omega
    · go_wp2_with fail
      go_ret
      exact ⟨rfl, HB.out⟩

end Go.Proofs.YtekkicgbloidkaaGreatDoor
/- Flags are turned: plain facts. -/
namespace Go.Proofs.YtekkicgbloidkaaGreatDoor
open Go Go.RowKit

theorem Box.typed {S : Nat → Prop} {w w' : World} {b : Nat} {cs : Array Value} {T T' : TypeId} (h : Box w b cs T) (ho : Only S w w') (hs : ∀ b, S b → ∃ cb, Box w b cb T') (h1 : T ≠ T') : Box w' b cs T :=
  h.only ho (fun e => by obtain ⟨cb, hb⟩ := hs b e; exact h.ne hb h1 rfl)
theorem Mk.typed {S : Nat → Prop} {T T' : TypeId} {sz : Nat} {w w' : World} {lo hi : Nat} {v : Value} {xs : List Value} (h : Mk T sz w lo hi v xs) (ho : Only S w w') (hs : ∀ b, S b → ∃ cb, Box w b cb T') (h1 : T ≠ T') : Mk T sz w' lo hi v xs := by
  rcases h with h | ⟨g, n, cap, cur, hv, k1, k2, hb, rest⟩
  · exact .inl h
  · exact .inr ⟨g, n, cap, cur, hv, k1, k2, hb.typed ho hs h1, rest⟩
theorem owns_typed {S : Nat → Prop} {w w' : World} {B : Nat} {TS T' : TypeId} {sz n : Nat} {v : Value} {xs : List Value} (h : w.ownsRow B TS sz v n xs) (ho : Only S w w') (hs : ∀ b, S b → ∃ cb, Box w b cb T') (h1 : TS ≠ T') : w'.ownsRow B TS sz v n xs :=
  owns_blk h (fun g hg => by
    obtain ⟨cur, hcur⟩ := owns_own h hg
    exact ho.block g hcur.lt (fun e => by obtain ⟨cb, hb⟩ := hs g e; exact hcur.ne hb h1 rfl))
theorem Ent.typed {S : Nat → Prop} {T TS T' : TypeId} {sz : Nat} {X : Nat → List Value} {av : Nat → Prop} {B : Nat} {w w' : World} {v : Value} {l : List Nat} (h : Ent T TS sz X av B w v l) (ho : Only S w w') (hs : ∀ b, S b → ∃ cb, Box w b cb T') (h1 : T ≠ T') (h2 : TS ≠ T') : Ent T TS sz X av B w' v l := by
  obtain ⟨xs, ivs, hw, hl, hi, ha⟩ := h
  refine ⟨xs, ivs, owns_typed hw ho hs h2, ⟨hl.lenx, hl.leni, hl.pw, fun k hk hk' => ?_⟩, fun iv h => ⟨(hi iv h).1, Nat.le_trans (hi iv h).2 ho.size⟩, ha⟩
  obtain ⟨v0, v1, v2, v3, r0, r1, r2, r3, r4, m0, m1, m2, m3⟩ := hl.each k hk hk'
  exact ⟨v0, v1, v2, v3, r0, r1, r2, r3, r4, m0.typed ho hs h1, m1.typed ho hs h1, m2.typed ho hs h1, m3.typed ho hs h1⟩
theorem EntC.typed {S : Nat → Prop} {T' : TypeId} {av : Nat → Prop} {B : Nat} {w w' : World} {v : Value} {n : Nat} (h : EntC av B w v n) (ho : Only S w w') (hs : ∀ b, S b → ∃ cb, Box w b cb T') (h1 : 67 ≠ T') (h2 : 78 ≠ T') : EntC av B w' v n := by
  obtain ⟨xs, hw, he⟩ := h
  refine ⟨xs, owns_typed hw ho hs h2, fun k hk => ?_⟩
  obtain ⟨v0, v1, v2, v3, r0, r1, r2, r3, r4, hm⟩ := he k hk
  exact ⟨v0, v1, v2, v3, r0, r1, r2, r3, r4, fun x hx => ⟨((hm x hx).1.typed ho hs h1).wide (Nat.le_refl _) ho.size, (hm x hx).2⟩⟩
theorem owns_setS {w : World} {base : Nat} {e : TypeId} {sz n g cap j : Nat} {xs : List Value} (h : w.ownsRow base e sz (.slice (some ⟨g, 0, none⟩) n cap) n xs) (u : Value) : (w.setCell ⟨g, j, none⟩ u).ownsRow base e sz (.slice (some ⟨g, 0, none⟩) n cap) n (xs.set j u) := by
  obtain ⟨hx, h2⟩ := h
  rcases h2 with ⟨h0, _⟩ | ⟨g', cap', cur, hv, hb, hg, hc, hm, hs, ht⟩
  · simp at h0
  · simp only [Value.slice.injEq, Option.some.injEq, Addr.mk.injEq, and_true, true_and] at hv
    obtain ⟨rfl, rfl⟩ := hv
    refine ⟨by simpa using hx, .inr ⟨g, cap, cur.setIfInBounds j u, rfl, hb, ?_, hc, hm, by simpa using hs, ?_⟩⟩
    · exact Box.set (show Box w g cur e from hg) j u
    · rw [Array.toList_setIfInBounds, List.take_set, ht]
/-- The same mark once more: whatever cell. -/
theorem Mk.again {T : TypeId} {w : World} {lo hi g j : Nat} {v x : Value} (h : Mk T 1 w lo hi v [x]) : Mk T 1 (w.setCell ⟨g, j, none⟩ x) lo hi v [x] := by
  rcases h with h | ⟨g', n, cap, cur, hv, h1, h2, hb, h3, h4, h5, h6⟩
  · exact .inl h
  · by_cases e : g' = g
    · subst e
      refine .inr ⟨g', n, cap, cur.setIfInBounds j x, hv, h1, h2, hb.set j x, h3, h4, by simpa using h5, fun i d u hi hu hd => ?_⟩
      have hd0 : d = 0 := by omega
      subst hd0
      simp at hu
      subst hu
      have := h6 i 0 x hi rfl (by omega)
      simp only [Nat.mul_one, Nat.add_zero] at this ⊢
      rw [Array.getElem?_setIfInBounds]
      split
      · split
        · rfl
        · rename_i e1 e2
          have := (Array.getElem?_eq_some_iff.1 this).1
          omega
      · exact this
    · exact .inr ⟨g', n, cap, cur, hv, h1, h2, hb.set_ne e x, h3, h4, h5, h6⟩
/-- One entry of the flags has been turned. -/
theorem EntF.turn {B : Nat} {w w' : World} {g c : Nat} {l : List Nat} {xs : List Value} {ivs : List (Nat × Nat)} {k M : Nat} (hrow : w.ownsRow B 120 5 (.slice (some ⟨g, 0, none⟩) l.length c) l.length xs) (hl : LList 5 (PEnt 4 1 XFlag) w xs l ivs) (hiv : ∀ iv ∈ ivs, B ≤ iv.1 ∧ iv.2 ≤ w.heap.size) (hk : k < l.length) (hki : k < ivs.length)
    (ho : Only (fun b => ivs[k].1 ≤ b ∧ b < ivs[k].2 ∧ ∃ cb, Box w b cb 4) w w') {v0 v1 v2 v3 : Value} (r0 : xs[k * 5]? = some v0) (r1 : xs[k * 5 + 1]? = some v1) (r2 : xs[k * 5 + 2]? = some v2) (r3 : xs[k * 5 + 3]? = some v3)
    (m0 : Mk 4 1 w' ivs[k].1 ivs[k].2 v0 (XFlag M)) (m1 : Mk 4 1 w' ivs[k].1 ivs[k].2 v1 (XFlag M)) (m2 : Mk 4 1 w' ivs[k].1 ivs[k].2 v2 (XFlag M)) (m3 : Mk 4 1 w' ivs[k].1 ivs[k].2 v3 (XFlag M)) :
    EntF B (w'.setCell ⟨g, k * 5 + 4, none⟩ (.int .i64 M)) (.slice (some ⟨g, 0, none⟩) l.length c) (l.set k M) := by
  have hs : ∀ b, (ivs[k].1 ≤ b ∧ b < ivs[k].2 ∧ ∃ cb, Box w b cb 4) → ∃ cb, Box w b cb 4 := fun b h => h.2.2
  have hrow' := owns_typed hrow ho hs (by decide)
  obtain ⟨cur, hcur⟩ := owns_box hrow'
  have hset : Only (fun x => x = g) w' (w'.setCell ⟨g, k * 5 + 4, none⟩ (.int .i64 M)) := (Only.refl (fun x => x = g) w').setCell (p := ⟨g, k * 5 + 4, none⟩) rfl _
  have hlx := hl.lenx
  refine ⟨xs.set (k * 5 + 4) (.int .i64 M), ivs, by rw [List.length_set]; exact owns_setS hrow' _, ⟨by simpa using hlx, by rw [List.length_set]; exact hl.leni, hl.pw, fun k' hk' hk'' => ?_⟩, fun iv h => ⟨(hiv iv h).1, Nat.le_trans (hiv iv h).2 (Nat.le_trans ho.size hset.size)⟩, fun _ _ _ _ _ _ => id⟩
  rw [List.length_set] at hk'
  by_cases e : k' = k
  · subst e
    rw [List.getElem_set_self]
    refine ⟨v0, v1, v2, v3, ?_, ?_, ?_, ?_, ?_, m0.other hcur (by decide) hset, m1.other hcur (by decide) hset, m2.other hcur (by decide) hset, m3.other hcur (by decide) hset⟩
    · show (xs.set (k' * 5 + 4) (.int .i64 M))[k' * 5 + 0]? = _
      rw [List.getElem?_set_ne (by omega)]; exact r0
    · show (xs.set (k' * 5 + 4) (.int .i64 M))[k' * 5 + 1]? = _
      rw [List.getElem?_set_ne (by omega)]; exact r1
    · show (xs.set (k' * 5 + 4) (.int .i64 M))[k' * 5 + 2]? = _
      rw [List.getElem?_set_ne (by omega)]; exact r2
    · show (xs.set (k' * 5 + 4) (.int .i64 M))[k' * 5 + 3]? = _
      rw [List.getElem?_set_ne (by omega)]; exact r3
    · show (xs.set (k' * 5 + 4) (.int .i64 M))[k' * 5 + 4]? = _
      rw [List.getElem?_set_self (by omega)]
  · rw [List.getElem_set_ne (by omega)]
    have hdis : ∀ b, ivs[k'].1 ≤ b → b < ivs[k'].2 → ¬ (ivs[k].1 ≤ b ∧ b < ivs[k].2 ∧ ∃ cb, Box w b cb 4) := by
      intro b h1 h2 h3
      rcases Nat.lt_or_gt_of_ne e with h | h
      · have := List.pairwise_iff_getElem.1 hl.pw k' k hk'' hki h; omega
      · have := List.pairwise_iff_getElem.1 hl.pw k k' hki hk'' h; omega
    obtain ⟨a0, a1, a2, a3, q0, q1, q2, q3, q4, n0, n1, n2, n3⟩ := (stays_PEnt 4 1 XFlag).only _ _ _ _ _ _ _ _ ho hdis (hl.each k' hk' hk'')
    refine ⟨a0, a1, a2, a3, ?_, ?_, ?_, ?_, ?_, n0.other hcur (by decide) hset, n1.other hcur (by decide) hset, n2.other hcur (by decide) hset, n3.other hcur (by decide) hset⟩
    · show (xs.set (k * 5 + 4) (.int .i64 M))[k' * 5 + 0]? = _
      rw [List.getElem?_set_ne (by omega)]; exact q0
    · show (xs.set (k * 5 + 4) (.int .i64 M))[k' * 5 + 1]? = _
      rw [List.getElem?_set_ne (by omega)]; exact q1
    · show (xs.set (k * 5 + 4) (.int .i64 M))[k' * 5 + 2]? = _
      rw [List.getElem?_set_ne (by omega)]; exact q2
    · show (xs.set (k * 5 + 4) (.int .i64 M))[k' * 5 + 3]? = _
      rw [List.getElem?_set_ne (by omega)]; exact q3
    · show (xs.set (k * 5 + 4) (.int .i64 M))[k' * 5 + 4]? = _
      rw [List.getElem?_set_ne (by omega)]; exact q4

end Go.Proofs.YtekkicgbloidkaaGreatDoor
