/- What a slice, a column, a table, a node reads as in memory, and that such a reading stays where no cell that was there turns. Plain facts; nothing of the program stands here. -/
import Derived.WalkKit
import Derived.WalkSpells
import Derived.WalkLawsBesides
import Derived.Laws.IdiomRangeMap
import Derived.Deep.AppendLies
import Derived.KernelRfl
import Derived.Test.YtekkicgbloidkaaGreatDoorProg
import Derived.Deep.AppendSrc
namespace Go.Proofs.YtekkicgbloidkaaGreatDoor
open Go Go.RowKit

/-- Every cell that was there reads as it did. -/
def Keeps (w w' : World) : Prop := ∀ b o v, w.cell? ⟨b, o, none⟩ = some v → w'.cell? ⟨b, o, none⟩ = some v

theorem Keeps.refl (w : World) : Keeps w w := fun _ _ _ h => h
theorem Keeps.trans {a b c : World} (h : Keeps a b) (k : Keeps b c) : Keeps a c := fun x o v e => k x o v (h x o v e)

theorem cell_lt {w : World} {b o : Nat} {v : Value} (h : w.cell? ⟨b, o, none⟩ = some v) : b < w.heap.size := by
  unfold World.cell? at h
  by_cases hb : b < w.heap.size
  · exact hb
  · rw [Array.getElem?_eq_none (by simp; omega)] at h
    simp at h

theorem Keeps.of_below {w w' : World} (h : Below w.heap.size w w') : Keeps w w' := fun b o v e => by
  rw [h.cell (p := ⟨b, o, none⟩) (cell_lt e)]; exact e

theorem Keeps.of_below' {B : Nat} {w w' : World} (hB : w.heap.size ≤ B) (h : Below B w w') : Keeps w w' := Keeps.of_below (h.mono hB)

/-- A slice value of whatever element: element i by its cells. -/
def RSl {α : Type} (w : World) (sz : Nat) (R : World → (Nat → Option Value) → α → Prop) (v : Value) (xs : List α) : Prop :=
  ∃ ao cap, v = .slice ao xs.length cap ∧ xs.length ≤ 9223372036854775807 ∧
    ∀ i (h : i < xs.length), ∃ b off, ao = some ⟨b, off, none⟩ ∧ R w (fun j => w.cell? ⟨b, off + i * sz + j, none⟩) xs[i]

def Mono {α : Type} (R : World → (Nat → Option Value) → α → Prop) : Prop :=
  ∀ w w' rd rd' x, Keeps w w' → (∀ j v, rd j = some v → rd' j = some v) → R w rd x → R w' rd' x

theorem RSl.mono {α : Type} {sz : Nat} {R : World → (Nat → Option Value) → α → Prop} (hR : Mono R) {w w' : World} (hk : Keeps w w') {v : Value} {xs : List α} (h : RSl w sz R v xs) : RSl w' sz R v xs := by
  obtain ⟨ao, cap, hv, hl, hel⟩ := h
  refine ⟨ao, cap, hv, hl, fun i hi => ?_⟩
  obtain ⟨b, off, ha, hr⟩ := hel i hi
  exact ⟨b, off, ha, hR _ _ _ _ _ hk (fun j v e => hk _ _ _ e) hr⟩

theorem RSl.nil {α : Type} (w : World) (sz : Nat) (R : World → (Nat → Option Value) → α → Prop) : RSl w sz R (.slice none 0 0) [] :=
  ⟨none, 0, rfl, by simp, fun i h => by simp at h⟩

def RI64 (_ : World) (rd : Nat → Option Value) (x : Int) : Prop := rd 0 = some (.int .i64 x)
def RStr (_ : World) (rd : Nat → Option Value) (s : ByteArray) : Prop := rd 0 = some (.string s) ∧ s.size ≤ 9223372036854775807
def RBool (_ : World) (rd : Nat → Option Value) (x : Bool) : Prop := rd 0 = some (.bool x)
def RTy (_ : World) (rd : Nat → Option Value) (t : Int × Int) : Prop := rd 0 = some (.int .i64 t.1) ∧ rd 1 = some (.int .i64 t.2)

theorem mono_RI64 : Mono RI64 := fun _ _ _ _ _ _ hr h => hr _ _ h
theorem mono_RBool : Mono RBool := fun _ _ _ _ _ _ hr h => hr _ _ h
theorem mono_RStr : Mono RStr := fun _ _ _ _ _ _ hr h => ⟨hr _ _ h.1, h.2⟩
theorem mono_RTy : Mono RTy := fun _ _ _ _ _ _ hr h => ⟨hr _ _ h.1, hr _ _ h.2⟩

abbrev RInts (w : World) := RSl w 1 RI64
abbrev RStrs (w : World) := RSl w 1 RStr
abbrev RBools (w : World) := RSl w 1 RBool
abbrev RTys (w : World) := RSl w 2 RTy

/-- A column. -/
structure DCol where
  kind : Int
  scale : Int
  ints : List Int
  strs : List ByteArray
  nulls : List Bool

/-- The five cells of a column. -/
structure ColIs (w : World) (vi vs vn : Value) (c : DCol) : Prop where
  ints : RInts w vi c.ints
  strs : RStrs w vs c.strs
  nulls : RBools w vn c.nulls

def RCol (w : World) (rd : Nat → Option Value) (c : DCol) : Prop :=
  ∃ vi vs vn, rd 0 = some (.int .i64 c.kind) ∧ rd 1 = some (.int .i64 c.scale) ∧ rd 2 = some vi ∧ rd 3 = some vs ∧ rd 4 = some vn ∧ ColIs w vi vs vn c

theorem ColIs.mono {w w' : World} (hk : Keeps w w') {vi vs vn : Value} {c : DCol} (h : ColIs w vi vs vn c) : ColIs w' vi vs vn c :=
  ⟨h.ints.mono mono_RI64 hk, h.strs.mono mono_RStr hk, h.nulls.mono mono_RBool hk⟩

theorem ColIs.shape {w : World} {vi vs vn : Value} {c : DCol} (h : ColIs w vi vs vn c) : ∃ ai ci az cz an cn, vi = .slice ai c.ints.length ci ∧ vs = .slice az c.strs.length cz ∧ vn = .slice an c.nulls.length cn := by
  obtain ⟨ai, ci, h1, -, -⟩ := h.ints
  obtain ⟨az, cz, h2, -, -⟩ := h.strs
  obtain ⟨an, cn, h3, -, -⟩ := h.nulls
  exact ⟨ai, ci, az, cz, an, cn, h1, h2, h3⟩

theorem mono_RCol : Mono RCol := fun _ _ _ _ _ hk hr ⟨vi, vs, vn, h0, h1, h2, h3, h4, hc⟩ =>
  ⟨vi, vs, vn, hr _ _ h0, hr _ _ h1, hr _ _ h2, hr _ _ h3, hr _ _ h4, hc.mono hk⟩

abbrev RCols (w : World) := RSl w 5 RCol
def RTab (w : World) (rd : Nat → Option Value) (t : List DCol) : Prop := ∃ v, rd 0 = some v ∧ RCols w v t
theorem mono_RTab : Mono RTab := fun _ _ _ _ _ hk hr ⟨v, h0, h⟩ => ⟨v, hr _ _ h0, h.mono mono_RCol hk⟩
abbrev RTabs (w : World) := RSl w 1 RTab

structure DTerm where
  op : Int
  a : Int
  v : Int
  s : ByteArray

def RTerm (_ : World) (rd : Nat → Option Value) (t : DTerm) : Prop :=
  rd 0 = some (.int .i64 t.op) ∧ rd 1 = some (.int .i64 t.a) ∧ rd 2 = some (.int .i64 t.v) ∧ rd 3 = some (.string t.s) ∧ t.s.size ≤ 9223372036854775807
theorem mono_RTerm : Mono RTerm := fun _ _ _ _ _ _ hr h => ⟨hr _ _ h.1, hr _ _ h.2.1, hr _ _ h.2.2.1, hr _ _ h.2.2.2.1, h.2.2.2.2⟩
abbrev RTerms (w : World) := RSl w 4 RTerm
def RExpr (w : World) (rd : Nat → Option Value) (e : List DTerm) : Prop := ∃ v, rd 0 = some v ∧ RTerms w v e
theorem mono_RExpr : Mono RExpr := fun _ _ _ _ _ hk hr ⟨v, h0, h⟩ => ⟨v, hr _ _ h0, h.mono mono_RTerm hk⟩
abbrev RExprs (w : World) := RSl w 1 RExpr
/-- An aggregate: its kind and its column. -/
abbrev RAggs (w : World) := RSl w 2 RTy

structure DNode where
  op : Int
  a : Int
  b : Int
  exprs : List (List DTerm)
  keys : List Int
  others : List Int
  aggs : List (Int × Int)

structure NodeIs (w : World) (ve vk vo va : Value) (n : DNode) : Prop where
  exprs : RExprs w ve n.exprs
  keys : RInts w vk n.keys
  others : RInts w vo n.others
  aggs : RAggs w va n.aggs

theorem NodeIs.mono {w w' : World} (hk : Keeps w w') {ve vk vo va : Value} {n : DNode} (h : NodeIs w ve vk vo va n) : NodeIs w' ve vk vo va n :=
  ⟨h.exprs.mono mono_RExpr hk, h.keys.mono mono_RI64 hk, h.others.mono mono_RI64 hk, h.aggs.mono mono_RTy hk⟩

theorem NodeIs.shape {w : World} {ve vk vo va : Value} {n : DNode} (h : NodeIs w ve vk vo va n) : ∃ ae ce ak ck ao co aa ca, ve = .slice ae n.exprs.length ce ∧ vk = .slice ak n.keys.length ck ∧ vo = .slice ao n.others.length co ∧ va = .slice aa n.aggs.length ca := by
  obtain ⟨ae, ce, h1, -, -⟩ := h.exprs
  obtain ⟨ak, ck, h2, -, -⟩ := h.keys
  obtain ⟨ao, co, h3, -, -⟩ := h.others
  obtain ⟨aa, ca, h4, -, -⟩ := h.aggs
  exact ⟨ae, ce, ak, ck, ao, co, aa, ca, h1, h2, h3, h4⟩

def RNode (w : World) (rd : Nat → Option Value) (n : DNode) : Prop :=
  ∃ ve vk vo va, rd 0 = some (.int .i64 n.op) ∧ rd 1 = some (.int .i64 n.a) ∧ rd 2 = some (.int .i64 n.b) ∧ rd 3 = some ve ∧ rd 4 = some vk ∧ rd 5 = some vo ∧ rd 6 = some va ∧ NodeIs w ve vk vo va n
theorem mono_RNode : Mono RNode := fun _ _ _ _ _ hk hr ⟨ve, vk, vo, va, h0, h1, h2, h3, h4, h5, h6, h⟩ =>
  ⟨ve, vk, vo, va, hr _ _ h0, hr _ _ h1, hr _ _ h2, hr _ _ h3, hr _ _ h4, hr _ _ h5, hr _ _ h6, h.mono hk⟩
abbrev RNodes (w : World) := RSl w 7 RNode

/-- A type, as a value. -/
abbrev tyV (t : Int × Int) : Value := .agg #[.int .i64 t.1, .int .i64 t.2]

/-- What stands below the heap's end reads as it did, behind a call that only makes memory. -/
theorem bcell {W w1 : World} (hb : Below W.heap.size W w1) : (∀ b o, b < W.heap.size → w1.cell? ⟨b, o, none⟩ = W.cell? ⟨b, o, none⟩) ∧ (∀ b o, b < W.heap.size → w1.frozen? ⟨b, o, none⟩ = W.frozen? ⟨b, o, none⟩) :=
  ⟨fun b o h => hb.cell (p := ⟨b, o, none⟩) h, fun b o h => hb.frozen (p := ⟨b, o, none⟩) h⟩

/-- Behind a call that only makes memory: old cells and old marks below a number that the walk can see, the size. -/
theorem after {W w1 : World} (B : Nat) (hb : Below W.heap.size W w1) (hB : B ≤ W.heap.size) : (∀ b o, b < B → w1.cell? ⟨b, o, none⟩ = W.cell? ⟨b, o, none⟩) ∧ (∀ b o, b < B → w1.frozen? ⟨b, o, none⟩ = W.frozen? ⟨b, o, none⟩) ∧ B ≤ w1.heap.size :=
  ⟨fun b o h => (bcell hb).1 b o (by omega), fun b o h => (bcell hb).2 b o (by omega), by have := hb.size; omega⟩

theorem Below.step {B : Nat} {w W w1 : World} (hb : Below W.heap.size W w1) (h : Below B w W) (hB : B ≤ W.heap.size) : Below B w w1 := h.trans (hb.mono hB)

theorem Keeps.alloc {a w : World} (h : Keeps a w) (o : Obj) : Keeps a (w.alloc o) :=
  h.trans (Keeps.of_below ((Below.refl _ _).alloc (Nat.le_refl _) o))
theorem Keeps.drew {a w : World} (h : Keeps a w) : Keeps a w.drew := fun b o v e => by simpa using h b o v e
theorem Keeps.step {a W w1 : World} (h : Keeps a W) (hb : Below W.heap.size W w1) : Keeps a w1 := h.trans (Keeps.of_below hb)

/-- A block that is known whole. -/
def Box (w : World) (b : Nat) (cs : Array Value) (T : TypeId) : Prop := w.heap[b]? = some (.cells cs T (0, 0))

theorem Box.lt {w : World} {b : Nat} {cs : Array Value} {T : TypeId} (h : Box w b cs T) : b < w.heap.size := by
  unfold Box at h
  by_cases hb : b < w.heap.size
  · exact hb
  · rw [Array.getElem?_eq_none (by omega)] at h; simp at h
theorem Box.rules {w : World} {b : Nat} {cs : Array Value} {T : TypeId} (h : Box w b cs T) : (∀ o, w.cell? ⟨b, o, none⟩ = cs[o]?) ∧ (∀ o, w.frozen? ⟨b, o, none⟩ = false) := by
  unfold Box at h
  refine ⟨fun o => by simp [World.cell?, h], fun o => by simp [World.frozen?, h]⟩
theorem Box.all {w : World} {b : Nat} {cs : Array Value} {T : TypeId} (h : Box w b cs T) : (∀ o, w.cell? ⟨b, o, none⟩ = cs[o]?) ∧ (∀ o, w.frozen? ⟨b, o, none⟩ = false) ∧ b < w.heap.size := ⟨h.rules.1, h.rules.2, h.lt⟩
theorem Box.below {w w' : World} {B b : Nat} {cs : Array Value} {T : TypeId} (h : Box w b cs T) (hb : Below B w w') (hB : b < B) : Box w' b cs T := by
  unfold Box at *; rw [hb.block b hB]; exact h
theorem Box.call {w w' : World} {b : Nat} {cs : Array Value} {T : TypeId} (h : Box w b cs T) (hb : Below w.heap.size w w') : Box w' b cs T := h.below hb h.lt
theorem Box.alloc {w : World} {b : Nat} {cs : Array Value} {T : TypeId} (h : Box w b cs T) (o : Obj) : Box (w.alloc o) b cs T :=
  h.call ((Below.refl _ _).alloc (Nat.le_refl _) o)
theorem Box.drew {w : World} {b : Nat} {cs : Array Value} {T : TypeId} (h : Box w b cs T) : Box w.drew b cs T := h
theorem Box.new (w : World) (cs : Array Value) (T : TypeId) : Box (w.alloc (.cells cs T)) w.heap.size cs T := by
  exact heap_alloc_new w _
theorem Box.set {w : World} {b : Nat} {cs : Array Value} {T : TypeId} (h : Box w b cs T) (o : Nat) (v : Value) : Box (w.setCell ⟨b, o, none⟩ v) b (cs.setIfInBounds o v) T := by
  have hl := h.lt
  unfold Box at *
  simp only [World.setCell, Array.getElem?_modify]
  simp [h]
theorem Box.set_ne {w : World} {b : Nat} {cs : Array Value} {T : TypeId} (h : Box w b cs T) {a : Addr} (hne : b ≠ a.block) (v : Value) : Box (w.setCell a v) b cs T := by
  unfold Box at *; rw [Below.heap_setCell _ _ _ _ hne]; exact h

theorem cell_set_ne {w : World} {b o b' o' : Nat} {v u : Value} (h : w.cell? ⟨b, o, none⟩ = some v) (hne : b ≠ b') : (w.setCell ⟨b', o', none⟩ u).cell? ⟨b, o, none⟩ = some v := by
  rw [World.cell?_of_block (w := w) (Below.heap_setCell w _ u b hne)]; exact h

theorem ret_tup {t t' : Int × Int} {b b' : Bool} (h : t = t') (k : b = b') : Ending.returned (.tuple #[tyV t, .bool b]) = .returned (.tuple #[tyV t', .bool b']) := by rw [h, k]

end Go.Proofs.YtekkicgbloidkaaGreatDoor
/- Worlds that differ in certain blocks alone; lists as cells; lists that were lent. Plain facts. -/
namespace Go.Proofs.YtekkicgbloidkaaGreatDoor
open Go Go.RowKit

/-- A slice against nil. -/
theorem run_eql_slice_nil {P : Program} (w : World) (t e : TypeId) (a : Option Addr) (l c : Nat) (h : P.underlying t = some (.slice e)) : (binOp .eql t (.slice a l c) (.slice none 0 0)).run P w = .ok (.bool a.isNone) w := by
  simp only [binOp]
  simp [run_equal_slice_nil w t e a l c h]

/-- Only blocks of a set may have turned, and new ones have come. -/
structure Only (S : Nat → Prop) (w w' : World) : Prop where
  os : w'.os = w.os
  tape : w'.tape = w.tape
  output : w'.output = w.output
  size : w.heap.size ≤ w'.heap.size
  block : ∀ b, b < w.heap.size → ¬ S b → w'.heap[b]? = w.heap[b]?

theorem Only.refl (S : Nat → Prop) (w : World) : Only S w w := ⟨rfl, rfl, rfl, Nat.le_refl _, fun _ _ _ => rfl⟩
theorem Only.trans {S : Nat → Prop} {a b c : World} (h : Only S a b) (k : Only S b c) : Only S a c :=
  ⟨k.os.trans h.os, k.tape.trans h.tape, k.output.trans h.output, Nat.le_trans h.size k.size, fun i hi hs => (k.block i (Nat.lt_of_lt_of_le hi h.size) hs).trans (h.block i hi hs)⟩
theorem Only.mono {S S' : Nat → Prop} {w w' : World} (h : Only S w w') (hs : ∀ b, b < w.heap.size → S b → S' b) : Only S' w w' :=
  ⟨h.os, h.tape, h.output, h.size, fun b hb hn => h.block b hb (fun k => hn (hs b hb k))⟩
theorem Only.below {S : Nat → Prop} {w w' : World} (h : Below w.heap.size w w') : Only S w w' := ⟨h.os, h.tape, h.output, h.size, fun b hb _ => h.block b hb⟩
theorem Only.alloc {S : Nat → Prop} {a w : World} (h : Only S a w) (o : Obj) : Only S a (w.alloc o) := h.trans (Only.below ((Below.refl _ _).alloc (Nat.le_refl _) o))
theorem Only.setCell {S : Nat → Prop} {a w : World} (h : Only S a w) {p : Addr} (hp : S p.block) (u : Value) : Only S a (w.setCell p u) :=
  h.trans ⟨rfl, rfl, rfl, by simp [World.setCell], fun b _ hn => Below.heap_setCell _ _ _ _ (fun e => hn (e ▸ hp))⟩
theorem Only.drew {S : Nat → Prop} {a w : World} (h : Only S a w) : Only S a w.drew := ⟨h.os, h.tape, h.output, h.size, h.block⟩
theorem Only.toBelow {S : Nat → Prop} {w w' : World} (h : Only S w w') {B : Nat} (hB : B ≤ w.heap.size) (hs : ∀ b, S b → B ≤ b) : Below B w w' :=
  ⟨h.os, h.tape, h.output, h.size, fun b hb => h.block b (by omega) (fun k => by have := hs b k; omega)⟩
theorem Box.only {S : Nat → Prop} {w w' : World} {b : Nat} {cs : Array Value} {T : TypeId} (h : Box w b cs T) (ho : Only S w w') (hn : ¬ S b) : Box w' b cs T := by
  have hl := h.lt
  unfold Box at *; rw [ho.block b hl hn]; exact h
theorem cell_only {S : Nat → Prop} {w w' : World} (ho : Only S w w') {b o : Nat} {v : Value} (h : w.cell? ⟨b, o, none⟩ = some v) (hn : ¬ S b) : w'.cell? ⟨b, o, none⟩ = some v := by
  rw [World.cell?_of_block (w := w) (ho.block b (cell_lt h) hn)]; exact h
/-- Cells below a number stay, where nothing below it may have turned. -/
theorem Only.keeps {S : Nat → Prop} {w0 w w' : World} (ho : Only S w w') (hk : Keeps w0 w) (hs : ∀ b, b < w0.heap.size → ¬ S b) : Keeps w0 w' :=
  fun b o v e => cell_only ho (hk b o v e) (hs b (cell_lt e))

/-- A list as cells. -/
theorem flat_at {α : Type} (fl : α → List Value) (sz : Nat) (hfl : ∀ x, (fl x).length = sz) : ∀ (l : List α) (C : Nat → Option Value), (∀ i (h : i < l.length), ∀ j u, (fl l[i])[j]? = some u → C (i * sz + j) = some u) → ∀ j u, (l.flatMap fl)[j]? = some u → C j = some u := by
  intro l
  induction l with
  | nil => intro C _ j u h; simp at h
  | cons x r ih =>
    intro C hC j u h
    rw [List.flatMap_cons] at h
    by_cases hj : j < sz
    · rw [List.getElem?_append_left (by rw [hfl]; exact hj)] at h
      have := hC 0 (by simp) j u h
      simpa using this
    · rw [List.getElem?_append_right (by rw [hfl]; omega), hfl] at h
      have := ih (fun k => C (sz + k)) (fun i hi j u hu => by
        have := hC (i + 1) (by simpa using hi) j u (by simpa using hu)
        rw [show sz + (i * sz + j) = (i + 1) * sz + j by rw [Nat.add_mul]; omega]; exact this) (j - sz) u h
      have e : sz + (j - sz) = j := by omega
      rw [← e]; exact this
theorem flat_get {α : Type} (fl : α → List Value) (sz : Nat) (hfl : ∀ x, (fl x).length = sz) : ∀ (l : List α) (i : Nat) (h : i < l.length) (j : Nat), j < sz → (l.flatMap fl)[i * sz + j]? = (fl l[i])[j]? := by
  intro l
  induction l with
  | nil => intro i h; simp at h
  | cons x r ih =>
    intro i h j hj
    rw [List.flatMap_cons]
    cases i with
    | zero => rw [List.getElem?_append_left (by rw [hfl]; omega)]; simp
    | succ i =>
      rw [List.getElem?_append_right (by rw [hfl, Nat.add_mul]; omega), hfl]
      rw [show (i + 1) * sz + j - sz = i * sz + j by rw [Nat.add_mul]; omega, ih i (by simpa using h) j hj]
      simp
theorem flat_length {α : Type} (fl : α → List Value) (sz : Nat) (hfl : ∀ x, (fl x).length = sz) (l : List α) : (l.flatMap fl).length = l.length * sz := by
  induction l with
  | nil => simp
  | cons x r ih => rw [List.flatMap_cons, List.length_append, hfl, ih, List.length_cons, Nat.add_mul]; omega

/-- Cells of an element that tell it. -/
structure Flat {α : Type} (sz : Nat) (R : World → (Nat → Option Value) → α → Prop) (fl : α → List Value) (ok : α → Prop) : Prop where
  len : ∀ x, (fl x).length = sz
  pos : 0 < sz
  one : ∀ x, ∀ u ∈ fl x, u.oneCell' = true
  out : ∀ w rd x, R w rd x → ok x ∧ ∀ j u, (fl x)[j]? = some u → rd j = some u
  back : ∀ w rd x, ok x → (∀ j u, (fl x)[j]? = some u → rd j = some u) → R w rd x

theorem RSl.flat {α : Type} {sz : Nat} {R : World → (Nat → Option Value) → α → Prop} {fl : α → List Value} {ok : α → Prop} (F : Flat sz R fl ok) {w : World} {ao : Option Addr} {cap : Nat} {l : List α} (h : RSl w sz R (.slice ao l.length cap) l) (hp : 0 < l.length) :
    ∃ b off, ao = some ⟨b, off, none⟩ ∧ ∀ j u, (l.flatMap fl)[j]? = some u → w.cell? ⟨b, off + j, none⟩ = some u := by
  obtain ⟨ao', cap', hv, hl, hel⟩ := h
  simp only [Value.slice.injEq, true_and] at hv
  obtain ⟨rfl, rfl⟩ := hv
  obtain ⟨b, off, rfl, -⟩ := hel 0 hp
  refine ⟨b, off, rfl, flat_at fl sz F.len l (fun j => w.cell? ⟨b, off + j, none⟩) (fun i hi j u hu => ?_)⟩
  obtain ⟨b', off', hb, hr⟩ := hel i hi
  simp only [Option.some.injEq, Addr.mk.injEq, and_true] at hb
  obtain ⟨rfl, rfl⟩ := hb
  have := (F.out _ _ _ hr).2 j u hu
  show w.cell? ⟨b, off + (i * sz + j), none⟩ = some u
  rw [show off + (i * sz + j) = off + i * sz + j by omega]; exact this
theorem RSl.oks {α : Type} {sz : Nat} {R : World → (Nat → Option Value) → α → Prop} {fl : α → List Value} {ok : α → Prop} (F : Flat sz R fl ok) {w : World} {v : Value} {l : List α} (h : RSl w sz R v l) : ∀ x ∈ l, ok x := by
  obtain ⟨ao, cap, rfl, hl, hel⟩ := h
  intro x hx
  obtain ⟨i, hi, rfl⟩ := List.getElem_of_mem hx
  obtain ⟨b, off, -, hr⟩ := hel i hi
  exact (F.out _ _ _ hr).1

theorem flat_one {α : Type} {sz : Nat} {R : World → (Nat → Option Value) → α → Prop} {fl : α → List Value} {ok : α → Prop} (F : Flat sz R fl ok) (l : List α) : ∀ u ∈ l.flatMap fl, u.oneCell' = true := by
  intro u hu
  rw [List.mem_flatMap] at hu
  obtain ⟨x, -, hx⟩ := hu
  exact F.one x u hx

/-- A list that was lent: a copy in a block of its own, with one entry of spare room (nil stays nil). -/
def Lent (w : World) (T : TypeId) (sz lo hi : Nat) (v0 v : Value) (n : Nat) (cells : List Value) : Prop :=
  ((∃ c, v0 = .slice none 0 c) ∧ v = .slice none 0 0 ∧ n = 0) ∨
  ((∃ a c, v0 = .slice (some a) n c) ∧ ∃ g cap cur, v = .slice (some ⟨g, 0, none⟩) n cap ∧ lo ≤ g ∧ g < hi ∧ Box w g cur T ∧ n + 1 ≤ cap ∧ cap ≤ 9223372036854775807 ∧ cur.size = cap * sz ∧ cur.toList.take ((n + 1) * sz) = cells)

theorem Lent.only {S : Nat → Prop} {w w' : World} {T : TypeId} {sz lo hi : Nat} {v0 v : Value} {n : Nat} {cells : List Value} (h : Lent w T sz lo hi v0 v n cells) (ho : Only S w w') (hn : ∀ b, lo ≤ b → b < hi → ¬ S b) : Lent w' T sz lo hi v0 v n cells := by
  rcases h with h | ⟨h1, g, cap, cur, hv, hlo, hhi, hb, rest⟩
  · exact .inl h
  · exact .inr ⟨h1, g, cap, cur, hv, hlo, hhi, hb.only ho (hn g hlo hhi), rest⟩
theorem Lent.wide {w : World} {T : TypeId} {sz lo hi lo' hi' : Nat} {v0 v : Value} {n : Nat} {cells : List Value} (h : Lent w T sz lo hi v0 v n cells) (h1 : lo' ≤ lo) (h2 : hi ≤ hi') : Lent w T sz lo' hi' v0 v n cells := by
  rcases h with h | ⟨h1, g, cap, cur, hv, hlo, hhi, rest⟩
  · exact .inl h
  · exact .inr ⟨h1, g, cap, cur, hv, by omega, by omega, rest⟩
/-- What was lent reads as what it was made of. -/
theorem Lent.reads {α : Type} {sz : Nat} {R : World → (Nat → Option Value) → α → Prop} {fl : α → List Value} {ok : α → Prop} (F : Flat sz R fl ok) {w : World} {T : TypeId} {lo hi : Nat} {v0 v : Value} {l : List α} {z : List Value} (hok : ∀ x ∈ l, ok x) (h : Lent w T sz lo hi v0 v l.length (l.flatMap fl ++ z)) : RSl w sz R v l := by
  rcases h with ⟨-, rfl, h0⟩ | ⟨-, g, cap, cur, rfl, -, -, hb, hc, hm, hs, ht⟩
  · have : l = [] := List.eq_nil_of_length_eq_zero h0
    subst this; exact RSl.nil _ _ _
  · refine ⟨_, cap, rfl, by omega, fun i hi => ⟨g, 0, rfl, F.back _ _ _ (hok _ (List.getElem_mem hi)) (fun j u hu => ?_)⟩⟩
    have hj : j < sz := by
      have := (List.getElem?_eq_some_iff.1 hu).1
      rw [F.len] at this; exact this
    have hlt : i * sz + j < l.length * sz := by
      have : (i + 1) * sz ≤ l.length * sz := Nat.mul_le_mul_right _ hi
      rw [Nat.add_mul] at this; omega
    have e1 : (l.flatMap fl ++ z)[i * sz + j]? = some u := by
      rw [List.getElem?_append_left (by rw [flat_length fl sz F.len]; exact hlt), flat_get fl sz F.len l i hi j hj, hu]
    rw [← ht, List.getElem?_take] at e1
    split at e1
    · rw [Nat.zero_add, hb.rules.1]
      rw [← Array.getElem?_toList]; exact e1
    · simp at e1

abbrev flInt (x : Int) : List Value := [.int .i64 x]
abbrev flStr (x : ByteArray) : List Value := [.string x]
abbrev flBool (x : Bool) : List Value := [.bool x]
abbrev flTy (x : Int × Int) : List Value := [.int .i64 x.1, .int .i64 x.2]
abbrev flTerm (t : DTerm) : List Value := [.int .i64 t.op, .int .i64 t.a, .int .i64 t.v, .string t.s]
theorem flat_int : Flat 1 RI64 flInt (fun _ => True) := ⟨fun _ => rfl, by omega, fun x u hu => by simp at hu; subst hu; rfl, fun w rd x h => ⟨trivial, fun j u hu => by
  match j, hu with
  | 0, hu => simp at hu; subst hu; exact h
  | j + 1, hu => simp at hu⟩, fun w rd x _ h => h 0 _ rfl⟩
theorem flat_str : Flat 1 RStr flStr (fun s => s.size ≤ 9223372036854775807) := ⟨fun _ => rfl, by omega, fun x u hu => by simp at hu; subst hu; rfl, fun w rd x h => ⟨h.2, fun j u hu => by
  match j, hu with
  | 0, hu => simp at hu; subst hu; exact h.1
  | j + 1, hu => simp at hu⟩, fun w rd x hs h => ⟨h 0 _ rfl, hs⟩⟩
theorem flat_bool : Flat 1 RBool flBool (fun _ => True) := ⟨fun _ => rfl, by omega, fun x u hu => by simp at hu; subst hu; rfl, fun w rd x h => ⟨trivial, fun j u hu => by
  match j, hu with
  | 0, hu => simp at hu; subst hu; exact h
  | j + 1, hu => simp at hu⟩, fun w rd x _ h => h 0 _ rfl⟩
theorem flat_ty : Flat 2 RTy flTy (fun _ => True) := ⟨fun _ => rfl, by omega, fun x u hu => by simp at hu; rcases hu with rfl | rfl <;> rfl, fun w rd x h => ⟨trivial, fun j u hu => by
  match j, hu with
  | 0, hu => simp at hu; subst hu; exact h.1
  | 1, hu => simp at hu; subst hu; exact h.2
  | j + 2, hu => simp at hu⟩, fun w rd x _ h => ⟨h 0 _ rfl, h 1 _ rfl⟩⟩
theorem flat_term : Flat 4 RTerm flTerm (fun t => t.s.size ≤ 9223372036854775807) := ⟨fun _ => rfl, by omega, fun x u hu => by simp at hu; rcases hu with rfl | rfl | rfl | rfl <;> rfl, fun w rd x h => ⟨h.2.2.2.2, fun j u hu => by
  match j, hu with
  | 0, hu => simp at hu; subst hu; exact h.1
  | 1, hu => simp at hu; subst hu; exact h.2.1
  | 2, hu => simp at hu; subst hu; exact h.2.2.1
  | 3, hu => simp at hu; subst hu; exact h.2.2.2.1
  | j + 4, hu => simp at hu⟩, fun w rd x hs h => ⟨h 0 _ rfl, h 1 _ rfl, h 2 _ rfl, h 3 _ rfl, hs⟩⟩

end Go.Proofs.YtekkicgbloidkaaGreatDoor
/- One element is appended to a slice of the call's own: a law with fewer things to say. And what such a slice reads as. -/
namespace Go.Proofs.YtekkicgbloidkaaGreatDoor
open Go Go.RowKit

/-- What the table says of an element type. -/
structure Elem (P : Program) (t e : TypeId) (z : Value) (size bytes : Nat) : Prop where
  ht : P.underlying t = some (.slice e)
  hi : (P.info? e).map (fun i => (i.zero, i.size, i.bytes)) = some (some z, size, bytes)
  hzs : z.cells.size = size
  hsz : 0 < size

theorem app_one {P : Program} {t e : TypeId} {z : Value} {size bytes : Nat} (E : Elem P t e z size bytes) (w : World) {ops : Array Oper} {rest : List Oper} {o : Oper} {a : Act} {Q : Exit → Act → World → Prop} (hgd : o.guard = none) (s x : Operand)
    (ho : o.op = .call { callee := .builtin .append, args := #[s, x], argTypes := #[t, t] })
    (base : Nat) (v : Value) (n : Nat) (xs : List Value) (hs : a.eval s = v) (hown : w.ownsRow base e size v n xs)
    (bN m c : Nat) (news : List Value) (hx : a.eval x = .slice (some ⟨bN, 0, none⟩) m c) (hl : news.length = m * size) (hbox : ∀ j u, news[j]? = some u → w.cell? ⟨bN, j, none⟩ = some u) (h1 : ∀ u ∈ news, u.oneCell' = true)
    (hm : 0 < m) (hbytes : (n + m) * bytes ≤ 140737488355328) (h63 : n + m ≤ 9223372036854775807) (hbase : base ≤ w.heap.size) (H : Nat) (hH : w.heap.size = H)
    (h : ∀ g cap w', w'.ownsRow base e size (.slice (some ⟨g, 0, none⟩) (n + m) cap) (n + m) (xs ++ news) → w.grownBy w' v.ownBlock → (v.ownBlock = some g ∨ g = H) → g < w'.heap.size → wpList P ops Q rest (a.put o.dst (.slice (some ⟨g, 0, none⟩) (n + m) cap)) w') :
    wpList P ops Q (o :: rest) a w := by
  obtain ⟨i, hi, hz, hsz, hby⟩ := info_parts E.hi
  exact wpList_append_lies w hgd s x t ho base e i z size bytes E.ht hi hz hsz hby E.hzs E.hsz v n xs hs hown ⟨bN, 0, none⟩ m c news hx hl (fun j u hu => by rw [Addr.add_lit, Nat.zero_add]; exact hbox j u hu) h1 hm (by unfold maxLen; exact h63) hbytes hbase H hH h

/-- The same at a step of a region that draws its order. -/
theorem step_app {P : Program} {t e : TypeId} {z : Value} {size bytes : Nat} (E : Elem P t e z size bytes) (w : World) {ops : Array Oper} {o : Oper} {a : Act} {K : Act → World → Prop} {Q : Exit → Act → World → Prop} {F : Prop} (hgd : o.guard = none) (s x : Operand)
    (ho : o.op = .call { callee := .builtin .append, args := #[s, x], argTypes := #[t, t] })
    (base : Nat) (v : Value) (n : Nat) (xs : List Value) (hs : a.eval s = v) (hown : w.ownsRow base e size v n xs)
    (bN m c : Nat) (news : List Value) (hx : a.eval x = .slice (some ⟨bN, 0, none⟩) m c) (hl : news.length = m * size) (hbox : ∀ j u, news[j]? = some u → w.cell? ⟨bN, j, none⟩ = some u) (h1 : ∀ u ∈ news, u.oneCell' = true)
    (hm : 0 < m) (hbytes : (n + m) * bytes ≤ 140737488355328) (h63 : n + m ≤ 9223372036854775807) (hbase : base ≤ w.heap.size) (H : Nat) (hH : w.heap.size = H)
    (h : ∀ g cap w', w'.ownsRow base e size (.slice (some ⟨g, 0, none⟩) (n + m) cap) (n + m) (xs ++ news) → w.grownBy w' v.ownBlock → (v.ownBlock = some g ∨ g = H) → g < w'.heap.size → K (a.put o.dst (.slice (some ⟨g, 0, none⟩) (n + m) cap)) w') :
    if Region.wanted o (yielded ops a.tmps) = true then Oper.wp P o a w K Q else F := by
  obtain ⟨i, hi, hz, hsz, hby⟩ := info_parts E.hi
  exact step_append_lies w hgd s x t ho base e i z size bytes E.ht hi hz hsz hby E.hzs E.hsz v n xs hs hown ⟨bN, 0, none⟩ m c news hx hl (fun j u hu => by rw [Addr.add_lit, Nat.zero_add]; exact hbox j u hu) h1 hm (by unfold maxLen; exact h63) hbytes hbase H hH h

theorem owns_take {w : World} {base : Nat} {e : TypeId} {size n g cap : Nat} {xs : List Value} (h : w.ownsRow base e size (.slice (some ⟨g, 0, none⟩) n cap) n xs) (k : Nat) (hk : k ≤ n) : w.ownsRow base e size (.slice (some ⟨g, 0, none⟩) k cap) k (xs.take (k * size)) := by
  obtain ⟨hx, h2⟩ := h
  rcases h2 with ⟨h0, _⟩ | ⟨g', cap', cur, hv, hb, hg, hc, hm, hs, ht⟩
  · simp at h0
  · simp only [Value.slice.injEq, Option.some.injEq, Addr.mk.injEq, and_true, true_and] at hv
    obtain ⟨rfl, rfl⟩ := hv
    have hle : k * size ≤ n * size := Nat.mul_le_mul_right _ hk
    refine ⟨by rw [List.length_take, hx]; omega, .inr ⟨g, cap, cur, rfl, hb, hg, by omega, hm, hs, ?_⟩⟩
    rw [← ht, List.take_take]; congr 1; omega

def flatTy (l : List (Int × Int)) : List Value := l.flatMap fun t => [.int .i64 t.1, .int .i64 t.2]
theorem flatTy_snoc (l : List (Int × Int)) (t : Int × Int) : flatTy l ++ [.int .i64 t.1, .int .i64 t.2] = flatTy (l ++ [t]) := by simp [flatTy]
theorem flatTy_length (l : List (Int × Int)) : (flatTy l).length = l.length * 2 := by
  induction l with
  | nil => rfl
  | cons t r ih => simp [flatTy] at *; omega
theorem flatTy_at (l : List (Int × Int)) (i : Nat) (hi : i < l.length) : (flatTy l)[i * 2]? = some (.int .i64 l[i].1) ∧ (flatTy l)[i * 2 + 1]? = some (.int .i64 l[i].2) := by
  induction l generalizing i with
  | nil => simp at hi
  | cons t r ih =>
    cases i with
    | zero => simp [flatTy]
    | succ i =>
      have := ih i (by simpa using hi)
      have e : flatTy (t :: r) = .int .i64 t.1 :: .int .i64 t.2 :: flatTy r := by simp [flatTy]
      rw [e, show (i + 1) * 2 = i * 2 + 1 + 1 by omega]
      simpa using this

theorem flatTy_take (l : List (Int × Int)) (k : Nat) : (flatTy l).take (k * 2) = flatTy (l.take k) := by
  induction k generalizing l with
  | zero => simp [flatTy]
  | succ k ih =>
    cases l with
    | nil => simp [flatTy]
    | cons t r =>
      have e : flatTy (t :: r) = .int .i64 t.1 :: .int .i64 t.2 :: flatTy r := by simp [flatTy]
      rw [e, show (k + 1) * 2 = k * 2 + 1 + 1 by omega, List.take_succ_cons, List.take_succ_cons, ih, List.take_succ_cons]
      simp [flatTy]

theorem owns_cell {w : World} {base : Nat} {e : TypeId} {size n g cap : Nat} {xs : List Value} (h : w.ownsRow base e size (.slice (some ⟨g, 0, none⟩) n cap) n xs) (j : Nat) (u : Value) (hu : xs[j]? = some u) : w.cell? ⟨g, j, none⟩ = some u := by
  have := h.cells (g := g) rfl j u hu
  rwa [Addr.add_lit, Nat.zero_add] at this

/-- A row of types of the call's own reads as these types. -/
theorem RTys.owns {w : World} {base : Nat} {e : TypeId} {v : Value} {l : List (Int × Int)} (h : w.ownsRow base e 2 v l.length (flatTy l)) (hl : l.length ≤ 9223372036854775807) : RTys w v l := by
  have h' := h
  rcases h'.2 with ⟨rfl, h0⟩ | ⟨g, cap, cur, rfl, hr⟩
  · have : l = [] := List.eq_nil_of_length_eq_zero h0
    subst this; exact RSl.nil _ _ _
  · refine ⟨_, cap, rfl, hl, fun i hi => ⟨g, 0, rfl, ?_, ?_⟩⟩
    · simp only [Nat.zero_add, Nat.add_zero]
      exact owns_cell h _ _ (flatTy_at l i hi).1
    · simp only [Nat.zero_add]
      exact owns_cell h _ _ (flatTy_at l i hi).2

theorem owns_shape {w : World} {base : Nat} {e : TypeId} {size n : Nat} {v : Value} {xs : List Value} (h : w.ownsRow base e size v n xs) : ∃ a c, v = .slice a n c := by
  rcases h.2 with ⟨rfl, rfl⟩ | ⟨g, cap, cur, rfl, -⟩
  · exact ⟨none, 0, rfl⟩
  · exact ⟨_, cap, rfl⟩

theorem owns_below {w w' : World} {base B : Nat} {e : TypeId} {size n : Nat} {v : Value} {xs : List Value} (h : w.ownsRow base e size v n xs) (hb : Below B w w') (hlt : ∀ g, v.ownBlock = some g → g < B) : w'.ownsRow base e size v n xs := by
  refine ⟨h.1, ?_⟩
  rcases h.2 with hn | ⟨g, cap, cur, rfl, hbg, hgg, rest⟩
  · exact .inl hn
  · refine .inr ⟨g, cap, cur, rfl, hbg, ?_, rest⟩
    rw [hb.block g (hlt g rfl)]; exact hgg
theorem owns_call {w w' : World} {base : Nat} {e : TypeId} {size n : Nat} {v : Value} {xs : List Value} (h : w.ownsRow base e size v n xs) (hb : Below w.heap.size w w') : w'.ownsRow base e size v n xs :=
  owns_below h hb (fun g hg => (h.lt g hg).2)

theorem Box.grown {w w' : World} {row : Option Nat} {b : Nat} {cs : Array Value} {T : TypeId} (h : Box w b cs T) (hg : w.grownBy w' row) (hne : ∀ g, row = some g → b ≠ g) : Box w' b cs T := by
  unfold Box at *; rw [hg.block b (Box.lt h) (fun e => hne b e.symm rfl)]; exact h
theorem new_two {w : World} {b : Nat} {x y : Value} {T : TypeId} (h : Box w b #[x, y] T) : ∀ j u, ([x, y] : List Value)[j]? = some u → w.cell? ⟨b, j, none⟩ = some u := by
  intro j u hu
  rw [h.rules.1 j]
  match j, hu with
  | 0, hu => simpa using hu
  | 1, hu => simpa using hu
  | j + 2, hu => simp at hu
theorem one_two (a b : Int) : ∀ u ∈ ([.int .i64 a, .int .i64 b] : List Value), u.oneCell' = true := by
  intro u hu
  simp at hu
  rcases hu with rfl | rfl <;> rfl

end Go.Proofs.YtekkicgbloidkaaGreatDoor
/- 'make' of a slice, with fewer things to say; a store into such a row. -/
namespace Go.Proofs.YtekkicgbloidkaaGreatDoor
open Go Go.RowKit

theorem mk_full {P : Program} {t e : TypeId} {z : Value} {size bytes : Nat} (E : Elem P t e z size bytes) (w : World) {ops : Array Oper} {rest : List Oper} {o : Oper} {a : Act} {Q : Exit → Act → World → Prop} (hg : o.guard = none) (l c : Operand)
    (hop : o.op = Op.makeSlice t l c) (kl kc : IntKind) (n : Nat) (hl : a.eval l = .int kl n) (hc : a.eval c = .int kc n) (hb : bytes * n ≤ 281474976710656) (hn : n ≤ 9223372036854775807)
    (hK : ∀ w' cur, Box w' w.heap.size cur e → cur.size = n * size → Below w.heap.size w w' → wpList P ops Q rest (a.put o.dst (.slice (some ⟨w.heap.size, 0, none⟩) n n)) w') :
    wpList P ops Q (o :: rest) a w := by
  obtain ⟨i, hi, hz, hsz, hby⟩ := info_parts E.hi
  refine wpList_make_full w hg l c t hop w.heap.size e i z size E.ht hi hz hsz kl kc _ _ n hl hc rfl rfl (by rw [hby]; exact hb) (by unfold maxLen; exact hn) (Nat.le_refl _) ?_
  intro w' hown hgr
  rcases hown.2 with ⟨h0, _⟩ | ⟨g, cap, cur, hv, _, hgg, _, _, hs, _⟩
  · simp at h0
  · simp only [Value.slice.injEq, Option.some.injEq, Addr.mk.injEq, and_true, true_and] at hv
    obtain ⟨rfl, rfl⟩ := hv
    exact hK w' cur hgg hs ⟨hgr.os, hgr.tape, hgr.output, hgr.size, fun k hk => hgr.block k hk (by simp)⟩

theorem RSl.shape {α : Type} {w : World} {sz : Nat} {R : World → (Nat → Option Value) → α → Prop} {v : Value} {xs : List α} (h : RSl w sz R v xs) : ∃ ao cap, v = .slice ao xs.length cap ∧ xs.length ≤ 9223372036854775807 := by
  obtain ⟨ao, cap, hv, hl, -⟩ := h
  exact ⟨ao, cap, hv, hl⟩

/-- The block that a slice value leads to is of an element type. -/
def BlkOf (T : TypeId) (w : World) (v : Value) : Prop := ∀ b off n c, v = .slice (some ⟨b, off, none⟩) n c → ∃ k, w.shape? b = some (T, k)
theorem BlkOf.box {T : TypeId} {w : World} {b : Nat} {cs : Array Value} (h : Box w b cs T) (off n c : Nat) : BlkOf T w (.slice (some ⟨b, off, none⟩) n c) := by
  intro b' off' n' c' e
  simp only [Value.slice.injEq, Option.some.injEq, Addr.mk.injEq, and_true] at e
  obtain ⟨⟨rfl, rfl⟩, -, -⟩ := e
  exact ⟨cs.size, by unfold Box at h; simp [World.shape?, h]⟩
theorem BlkOf.owns {T : TypeId} {w : World} {base size n : Nat} {v : Value} {xs : List Value} (h : w.ownsRow base T size v n xs) : BlkOf T w v := by
  rcases h.2 with ⟨rfl, _⟩ | ⟨g, cap, cur, rfl, _, hg, _⟩
  · intro b off n c e; simp at e
  · exact BlkOf.box (show Box w g cur T from hg) _ _ _
theorem BlkOf.call {T : TypeId} {w w' : World} {v : Value} (h : BlkOf T w v) (hb : Below w.heap.size w w') : BlkOf T w' v := by
  intro b off n c e
  obtain ⟨k, hk⟩ := h b off n c e
  refine ⟨k, ?_⟩
  have hlt : b < w.heap.size := by
    rcases Nat.lt_or_ge b w.heap.size with h | h
    · exact h
    · simp [World.shape?, Array.getElem?_eq_none h] at hk
  simp only [World.shape?] at hk ⊢
  rw [hb.block b hlt]; exact hk
theorem BlkOf.set {T : TypeId} {w : World} {v : Value} (h : BlkOf T w v) (a : Addr) (u : Value) : BlkOf T (w.setCell a u) v := by
  intro b off n c e
  obtain ⟨k, hk⟩ := h b off n c e
  refine ⟨k, ?_⟩
  simp only [World.shape?, World.setCell, Array.getElem?_modify] at hk ⊢
  by_cases hb : a.block = b
  · rw [if_pos hb]
    cases hx : w.heap[b]? with
    | none => rw [hx] at hk; simp at hk
    | some o =>
      rw [hx] at hk
      cases o <;> simp_all
      split <;> simp_all
  · rw [if_neg hb]; exact hk
theorem BlkOf.grown {T : TypeId} {w w' : World} {v : Value} (h : BlkOf T w v) {row : Option Nat} (hg : w.grownBy w' row) (hne : ∀ b off n c, v = .slice (some ⟨b, off, none⟩) n c → row ≠ some b) : BlkOf T w' v := by
  intro b off n c e
  obtain ⟨k, hk⟩ := h b off n c e
  refine ⟨k, ?_⟩
  have hlt : b < w.heap.size := by
    rcases Nat.lt_or_ge b w.heap.size with h | h
    · exact h
    · simp [World.shape?, Array.getElem?_eq_none h] at hk
  simp only [World.shape?] at hk ⊢
  rw [hg.block b hlt (fun e' => hne b off n c e e'.symm)]; exact hk

/-- The cells of a row are types, up to k. -/
def TysUpTo (cs : Array Value) (l : List (Int × Int)) (k : Nat) : Prop := ∀ j (h : j < l.length), j < k → cs[j * 2]? = some (.int .i64 l[j].1) ∧ cs[j * 2 + 1]? = some (.int .i64 l[j].2)

theorem TysUpTo.step {cs : Array Value} {l : List (Int × Int)} {k : Nat} (h : TysUpTo cs l k) (hk : k < l.length) (hs : cs.size = l.length * 2) :
    TysUpTo ((cs.setIfInBounds (k * 2) (.int .i64 l[k].1)).setIfInBounds (k * 2 + 1) (.int .i64 l[k].2)) l (k + 1) := by
  intro j hj hjk
  by_cases e : j = k
  · subst e
    simp [Array.getElem?_setIfInBounds, hs]; omega
  · have := h j hj (by omega)
    simp only [Array.getElem?_setIfInBounds]
    rw [if_neg (by omega), if_neg (by omega), if_neg (by omega), if_neg (by omega)]
    exact this

theorem RTys.upTo {w : World} {b : Nat} {cs : Array Value} {T : TypeId} {l : List (Int × Int)} (h : Box w b cs T) (hl : l.length ≤ 9223372036854775807) (hu : TysUpTo cs l l.length) (cap : Nat) : RTys w (.slice (some ⟨b, 0, none⟩) l.length cap) l := by
  refine ⟨_, cap, rfl, hl, fun i hi => ⟨b, 0, rfl, ?_, ?_⟩⟩
  · simp only [Nat.zero_add, Nat.add_zero]; rw [h.rules.1]; exact (hu i hi hi).1
  · simp only [Nat.zero_add]; rw [h.rules.1]; exact (hu i hi hi).2

end Go.Proofs.YtekkicgbloidkaaGreatDoor
/- What the program's table says of the element types that are appended. -/
namespace Go.Proofs.YtekkicgbloidkaaGreatDoor
open Go Go.RowKit
theorem elem_ty : Elem Tryz.prog 101 103 (.agg #[.int .i64 0, .int .i64 0]) 2 16 := ⟨Tryz.underlying101, by kernel_rfl, by decide, by decide⟩
theorem elem_rty : Elem Tryz.prog 104 108 (.agg #[.int .i64 0, .int .i64 0]) 2 16 := ⟨Tryz.underlying104, by kernel_rfl, by decide, by decide⟩
theorem elem_tys : Elem Tryz.prog 90 101 (.slice none 0 0) 1 24 := ⟨Tryz.underlying90, by kernel_rfl, by decide, by decide⟩
theorem elem_rtys : Elem Tryz.prog 105 104 (.slice none 0 0) 1 24 := ⟨Tryz.underlying105, by kernel_rfl, by decide, by decide⟩
theorem elem_bool : Elem Tryz.prog 64 4 (.bool false) 1 1 := ⟨Tryz.underlying64, by kernel_rfl, by decide, by decide⟩
theorem elem_int : Elem Tryz.prog 24 3 (.int .i64 0) 1 8 := ⟨Tryz.underlying24, by kernel_rfl, by decide, by decide⟩
theorem elem_i64 : Elem Tryz.prog 63 2 (.int .i64 0) 1 8 := ⟨Tryz.underlying63, by kernel_rfl, by decide, by decide⟩
theorem elem_str : Elem Tryz.prog 65 9 (.string ByteArray.empty) 1 16 := ⟨Tryz.underlying65, by kernel_rfl, by decide, by decide⟩
theorem elem_col : Elem Tryz.prog 52 67 (.agg #[.int .i64 0, .int .i64 0, .slice none 0 0, .slice none 0 0, .slice none 0 0]) 5 88 := ⟨Tryz.underlying52, by kernel_rfl, by decide, by decide⟩
theorem elem_tab : Elem Tryz.prog 35 57 (.agg #[.slice none 0 0]) 1 24 := ⟨Tryz.underlying35, by kernel_rfl, by decide, by decide⟩
theorem elem_term : Elem Tryz.prog 84 87 (.agg #[.int .i64 0, .int .i64 0, .int .i64 0, .string ByteArray.empty]) 4 40 := ⟨Tryz.underlying84, by kernel_rfl, by decide, by decide⟩
theorem elem_expr : Elem Tryz.prog 68 84 (.slice none 0 0) 1 24 := ⟨Tryz.underlying68, by kernel_rfl, by decide, by decide⟩
theorem elem_agg : Elem Tryz.prog 69 126 (.agg #[.int .i64 0, .int .i64 0]) 2 16 := ⟨Tryz.underlying69, by kernel_rfl, by decide, by decide⟩
theorem elem_node : Elem Tryz.prog 36 71 (.agg #[.int .i64 0, .int .i64 0, .int .i64 0, .slice none 0 0, .slice none 0 0, .slice none 0 0, .slice none 0 0]) 7 120 := ⟨Tryz.underlying36, by kernel_rfl, by decide, by decide⟩
end Go.Proofs.YtekkicgbloidkaaGreatDoor
/- slices.Grow of nil, and slices.Concat of two lists of types. -/
namespace Go.Proofs.YtekkicgbloidkaaGreatDoor
open Go Go.RowKit

theorem run_append_zeros {P : Program} (w : World) (t tx ty e : TypeId) (i : TypeInfo) (z : Value) (ht : P.underlying t = some (.slice e)) (hx : P.underlying tx = some (.int .i64)) (hi : P.info? e = some i) (hz : i.zero = some z) (n : Nat) (hn : 0 < n) (hs : 0 < i.size)
    (h63 : (n : Int) ≤ 9223372036854775807) (hb : n * i.bytes ≤ 140737488355328) :
    (Builtin.append_ #[t, tx] ty #[.slice none 0 0, .int .i64 n]).run P w =
      .ok (.slice (some ⟨w.heap.size, 0, none⟩) n (grownCap w n 0 e)) (w.drew.alloc (.cells (Builtin.zeroCells z.cells n ++ Builtin.zeroCells z.cells (grownCap w n 0 e - n)) e)) := by
  have hw : IntKind.i64.wrap (n : Int) = n := by
    rw [IntKind.wrap_i64]; omega
  have h0 : ¬ ((n : Int) < 0) := by omega
  have h48 : ¬ (281474976710656 < (n : Int) * (i.bytes : Int)) := by
    have h := Int.ofNat_le.2 hb
    rw [Int.natCast_mul] at h; omega
  have hns : ¬ n * i.size = 0 := by
    have := Nat.mul_pos hn hs; omega
  have hnx : Builtin.nextslicecap n 0 = n := by simp [Builtin.nextslicecap, hn]
  have hfit : ¬ (281474976710656 < n * i.bytes) := by omega
  have h63' : ¬ (9223372036854775807 < (n : Int)) := by omega
  simp [Builtin.append_, run_underlying ht, run_underlying hx, sizeOf, typeInfo, zeroValue, hi, hz, asInt, asIntOf, hw, h0, h48, hns, hnx, hfit, h63', Question.forced, newRow, grownCap, Builtin.firstCells]
  omega

theorem app_zeros {P : Program} {t tx e : TypeId} {z : Value} {size bytes : Nat} (E : Elem P t e z size bytes) (hxt : P.underlying tx = some (.int .i64)) (w : World) {ops : Array Oper} {rest : List Oper} {o : Oper} {a : Act} {Q : Exit → Act → World → Prop} (hgd : o.guard = none) (s x : Operand)
    (ho : o.op = .call { callee := .builtin .append, args := #[s, x], argTypes := #[t, tx] }) (n : Nat) (hn : 0 < n) (hs : a.eval s = .slice none 0 0) (hx : a.eval x = .int .i64 n) (hb : n * bytes ≤ 140737488355328) (h63 : n ≤ 9223372036854775807)
    (h : ∀ cap w', Below w.heap.size w w' → (∀ k, k ≤ cap → w'.ownsRow w.heap.size e size (.slice (some ⟨w.heap.size, 0, none⟩) 0 cap) 0 []) → n ≤ cap → wpList P ops Q rest (a.put o.dst (.slice (some ⟨w.heap.size, 0, none⟩) n cap)) w') :
    wpList P ops Q (o :: rest) a w := by
  obtain ⟨i, hi, hz, hsz, hby⟩ := info_parts E.hi
  subst hsz
  subst hby
  refine wpList_plain hgd fun K hK' => ?_
  have hrun := run_append_zeros w t tx o.type e i z E.ht hxt hi hz n hn E.hsz (by omega) hb
  unfold Oper.wp
  simp [execOp, ho, resolve, invoke, builtin, hs, hx, hrun, Result.andThen]
  refine hK' _ _ (h _ _ ?_ ?_ (grownCap_ge w n 0 e))
  · exact ((Below.refl _ _).drew).alloc (Nat.le_refl _) _
  · intro k _
    refine ⟨by simp, .inr ⟨w.heap.size, _, _, rfl, Nat.le_refl _, heap_alloc_new w.drew _, Nat.zero_le _, grownCap_le_maxLen w n 0 e (by unfold maxLen; exact h63), ?_, by simp⟩⟩
    have hge := grownCap_ge w n 0 e
    rw [Array.size_append, size_zeroCells, size_zeroCells, E.hzs, ← Nat.add_mul]
    congr 1; omega

set_option maxHeartbeats 1000000 in
theorem grow_any (n : Nat) (w : World) (hn : n ≤ 1000000) :
    Calls Tryz.prog 115 #[.slice none 0 0, .int .i64 n] w fun e w' => ∃ v, e = .returned v ∧ w'.ownsRow w.heap.size 103 2 v 0 [] ∧ Below w.heap.size w w' := by
  by_cases h0 : n = 0
  · subst h0
    go_enter Tryz.func115, Tryz.ntmps115
    go_wp2
    go_ret
    exact ⟨_, rfl, World.ownsRow_nil _ _ _ _, Below.refl _ _⟩
  · have h1 : (0 : Int) < (n : Int) := by omega
    have h2 : ¬ ((n : Int) < 0) := by omega
    go_enter Tryz.func115, Tryz.ntmps115
    go_wp2_with (at_builtin; refine app_zeros elem_ty Tryz.underlying3 _ (by rfl) _ _ (by rfl) n (by omega) (by rfl) (by rfl) (by omega) (by omega) ?_; intro cap w1 hb1 hown hcap)
    go_ret
    exact ⟨_, rfl, hown 0 (Nat.zero_le _), hb1⟩

theorem app_src {P : Program} {t e : TypeId} {z : Value} {size bytes : Nat} (E : Elem P t e z size bytes) (w : World) {ops : Array Oper} {rest : List Oper} {o : Oper} {a : Act} {Q : Exit → Act → World → Prop} (hgd : o.guard = none) (s x : Operand)
    (ho : o.op = .call { callee := .builtin .append, args := #[s, x], argTypes := #[t, t] })
    (base : Nat) (v : Value) (n : Nat) (xs : List Value) (hs : a.eval s = v) (hown : w.ownsRow base e size v n xs)
    (b off m c : Nat) (news : List Value) (hx : a.eval x = .slice (some ⟨b, off, none⟩) m c) (hl : news.length = m * size) (hbox : ∀ j u, news[j]? = some u → w.cell? ⟨b, off + j, none⟩ = some u) (h1 : ∀ u ∈ news, u.oneCell' = true)
    (hm : 0 < m) (hbytes : (n + m) * bytes ≤ 140737488355328) (h63 : n + m ≤ 9223372036854775807) (hbase : base ≤ w.heap.size) (H : Nat) (hH : w.heap.size = H)
    (h : ∀ g cap w', w'.ownsRow base e size (.slice (some ⟨g, 0, none⟩) (n + m) cap) (n + m) (xs ++ news) → w.grownBy w' v.ownBlock → (v.ownBlock = some g ∨ g = H) → g < w'.heap.size → wpList P ops Q rest (a.put o.dst (.slice (some ⟨g, 0, none⟩) (n + m) cap)) w') :
    wpList P ops Q (o :: rest) a w := by
  obtain ⟨i, hi, hz, hsz, hby⟩ := info_parts E.hi
  exact wpList_append_lies w hgd s x t ho base e i z size bytes E.ht hi hz hsz hby E.hzs E.hsz v n xs hs hown ⟨b, off, none⟩ m c news hx hl (fun j u hu => by rw [Addr.add_lit]; exact hbox j u hu) h1 hm (by unfold maxLen; exact h63) hbytes hbase H hH h

theorem flatTy_one (l : List (Int × Int)) : ∀ u ∈ flatTy l, u.oneCell' = true := by
  intro u hu
  simp only [flatTy, List.mem_flatMap] at hu
  obtain ⟨t, _, ht⟩ := hu
  simp at ht
  rcases ht with rfl | rfl <;> rfl
theorem flatTy_append (a b : List (Int × Int)) : flatTy a ++ flatTy b = flatTy (a ++ b) := by simp [flatTy]

/-- The cells of a slice of types. -/
theorem RTys.cells {w : World} {ao : Option Addr} {cap : Nat} {l : List (Int × Int)} (h : RTys w (.slice ao l.length cap) l) (hp : 0 < l.length) : ∃ b off, ao = some ⟨b, off, none⟩ ∧ ∀ j u, (flatTy l)[j]? = some u → w.cell? ⟨b, off + j, none⟩ = some u := by
  obtain ⟨ao', cap', hv, -, hel⟩ := h
  simp only [Value.slice.injEq, true_and] at hv
  obtain ⟨rfl, rfl⟩ := hv
  obtain ⟨b, off, rfl, -⟩ := hel 0 hp
  refine ⟨b, off, rfl, fun j u hu => ?_⟩
  have hj : j < l.length * 2 := by
    rw [← flatTy_length]; exact (List.getElem?_eq_some_iff.1 hu).1
  obtain ⟨b', off', hb, h0, h1⟩ := hel (j / 2) (by omega)
  simp only [Option.some.injEq, Addr.mk.injEq, and_true] at hb
  obtain ⟨rfl, rfl⟩ := hb
  simp only [Nat.add_zero] at h0
  have hf := flatTy_at l (j / 2) (by omega)
  by_cases he : j % 2 = 0
  · have hj2 : j = j / 2 * 2 := by omega
    rw [hj2] at hu ⊢
    rw [hf.1] at hu; rw [← hu]; exact h0
  · have hj2 : j = j / 2 * 2 + 1 := by omega
    rw [hj2] at hu ⊢
    rw [hf.2] at hu; rw [← hu, ← Nat.add_assoc]; exact h1

set_option maxHeartbeats 2000000 in
theorem concat_any (a b : List (Int × Int)) (va vb : Value) (bs : Nat) (T : TypeId) (w : World) (hbs : Box w bs #[va, vb] T) (ha : RTys w va a) (hb : RTys w vb b) (ha1 : 0 < a.length) (hb1 : 0 < b.length) (ha8 : a.length ≤ 1000) (hb8 : b.length ≤ 1000) :
    Calls Tryz.prog 106 #[.slice (some ⟨bs, 0, none⟩) 2 2] w fun e w' => ∃ v, e = .returned v ∧ RTys w' v (a ++ b) ∧ BlkOf 103 w' v ∧ Below w.heap.size w w' := by
  obtain ⟨aa, ca, rfl, -⟩ := ha.shape
  obtain ⟨ab, cb, rfl, -⟩ := hb.shape
  obtain ⟨xa, oa, rfl, hca⟩ := ha.cells ha1
  obtain ⟨xb, ob, rfl, hcb⟩ := hb.cells hb1
  obtain ⟨hc, hf, hl⟩ := hbs.all
  have HCA : Hid _ := hca
  have HCB : Hid _ := hcb
  clear hca hcb ha hb
  go_enter Tryz.func106, Tryz.ntmps106
  go_wp2_with fail
  go_loop [3, 11] (fun s i => ∃ k : Nat, k ≤ 2 ∧ i = .int .i64 k ∧ s = .int .i64 (if k = 0 then 0 else if k = 1 then (a.length : Int) else (a.length + b.length : Int))) (fun _ i => 2 - (intOf i).toNat)
  case atStart => exact ⟨0, by omega, rfl, rfl⟩
  case round =>
    obtain ⟨k, hk, rfl, rfl⟩ := hrel
    match k, hk with
    | 0, _ =>
      go_wp2_with fail
      go_round
      case rel => exact ⟨1, by omega, by go_num, by simp⟩
      case measure => simp [intOf]
    | 1, _ =>
      go_wp2_with fail
      go_round
      case rel => exact ⟨2, by omega, by go_num, by simp⟩
      case measure => simp [intOf]
    | 2, _ =>
      go_wp2_with fail
      rw [show ((a.length : Int) + (b.length : Int)) = ((a.length + b.length : Nat) : Int) from by omega]
      refine (grow_any (a.length + b.length) w (by omega)).mono ?_
      rintro e w1 ⟨v, rfl, hown, hbl⟩
      have bs1 := hbs.call hbl
      obtain ⟨hc1, hf1, hl1⟩ := bs1.all
      have HBL : Hid (Below w.heap.size w w1) := hbl
      have HOW : Hid (w1.ownsRow w.heap.size 103 2 v 0 []) := hown
      clear hbl hown hc hf
      go_wp2_with fail
      go_loopw [6, 27] (fun v i W => ∃ (k : Nat) (l : List (Int × Int)), k ≤ 2 ∧ i = .int .i64 k ∧ l = (if k = 0 then [] else if k = 1 then a else a ++ b) ∧ W.ownsRow w.heap.size 103 2 v l.length (flatTy l) ∧ Below w.heap.size w W) (fun _ i _ => 2 - (intOf i).toNat)
      case atStart => exact ⟨0, [], by omega, rfl, rfl, by simpa [flatTy] using HOW.out, HBL.out⟩
      case round =>
        obtain ⟨k, l, hk, rfl, hlk, hown, hB⟩ := hrel
        have HB : Hid (Below w.heap.size w wr) := hB
        have HO : Hid (wr.ownsRow w.heap.size 103 2 u6 l.length (flatTy l)) := hown
        have hsz : w.heap.size ≤ wr.heap.size := hB.size
        have bsr := hbs.call hB
        obtain ⟨hcr, hfr, hlr⟩ := bsr.all
        have hgw : ∀ g, u6.ownBlock = some g → w.heap.size ≤ g := fun g hg => (hown.lt g hg).1
        have HGW : Hid _ := hgw
        clear hB hown hgw hc1 hf1 hl1 bs1 bsr
        match k, hk, hlk with
        | 0, _, hlk =>
          simp only [if_true] at hlk
          subst hlk
          have HN : Hid (∀ j u, (flatTy a)[j]? = some u → wr.cell? ⟨xa, oa + j, none⟩ = some u) := fun j u hu => (Keeps.of_below HB.out) _ _ _ (HCA.out j u hu)
          go_wp2_with (at_builtin; refine app_src elem_ty _ (by rfl) _ _ (by rfl) w.heap.size u6 0 [] (by rfl) HO.out xa oa a.length ca (flatTy a) (by rfl) (flatTy_length a) HN.out (flatTy_one a) ha1 (by omega) (by omega) hsz wr.heap.size rfl ?_; intro g3 cap3 w3 hown3 hg3 hat3 hlt3)
          have HBF : Hid (Below w.heap.size w w3) := HB.out.grown hg3 hsz (fun k' hk' => HGW.out k' hk')
          have HOF : Hid (w3.ownsRow w.heap.size 103 2 (.slice (some ⟨g3, 0, none⟩) (0 + a.length) cap3) a.length (flatTy a)) := by
            unfold Hid; simpa using hown3
          clear hg3 hown3 hat3 hlt3
          go_roundw
          case rel => exact ⟨1, a, by omega, by go_num, by simp, by simpa using HOF.out, HBF.out⟩
          case measure => simp [intOf]
        | 1, _, hlk =>
          have hla : l = a := by simpa using hlk
          rw [hla] at HO
          clear hla hlk
          have HN : Hid (∀ j u, (flatTy b)[j]? = some u → wr.cell? ⟨xb, ob + j, none⟩ = some u) := fun j u hu => (Keeps.of_below HB.out) _ _ _ (HCB.out j u hu)
          go_wp2_with (at_builtin; refine app_src elem_ty _ (by rfl) _ _ (by rfl) w.heap.size u6 a.length (flatTy a) (by rfl) HO.out xb ob b.length cb (flatTy b) (by rfl) (flatTy_length b) HN.out (flatTy_one b) hb1 (by omega) (by omega) hsz wr.heap.size rfl ?_; intro g3 cap3 w3 hown3 hg3 hat3 hlt3)
          have HBF : Hid (Below w.heap.size w w3) := HB.out.grown hg3 hsz (fun k' hk' => HGW.out k' hk')
          have HOF : Hid (w3.ownsRow w.heap.size 103 2 (.slice (some ⟨g3, 0, none⟩) (a.length + b.length) cap3) (a ++ b).length (flatTy (a ++ b))) := by
            unfold Hid; rw [← flatTy_append, List.length_append]; exact hown3
          clear hg3 hown3 hat3 hlt3
          go_roundw
          case rel => exact ⟨2, a ++ b, by omega, by go_num, by simp, HOF.out, HBF.out⟩
          case measure => simp [intOf]
        | 2, _, hlk =>
          have hl2 : l = a ++ b := by simpa using hlk
          subst hl2
          go_wp2_with fail
          go_ret
          exact ⟨_, rfl, RTys.owns HO.out (by simp; omega), BlkOf.owns HO.out, HB.out⟩

end Go.Proofs.YtekkicgbloidkaaGreatDoor
