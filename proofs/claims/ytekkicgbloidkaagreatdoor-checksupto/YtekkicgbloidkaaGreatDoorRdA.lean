/- A script that was handed in is read; what the bound on its bulk gives. -/
import Derived.Test.YtekkicgbloidkaaGreatDoorPlE
import Derived.Test.YtekkicgbloidkaaGreatDoorRows
import Derived.ProofKit
import Derived.Deep.Slices
import Derived.Deep.Fields
namespace Go.Proofs.YtekkicgbloidkaaGreatDoor
open Go Go.RowKit Go.ChangeShapes Go.WideShapes Go.ChangeAt Go.Deep 

theorem bulk_one {H : Type} (d : DataW H) : 1 ≤ Rows.uptoBulk d := by
  cases d with
  | lit l => cases l <;> simp [Rows.uptoBulk]
  | nil => simp [Rows.uptoBulk]
  | ptr d => simp [Rows.uptoBulk]
  | slice elems spare => simp [Rows.uptoBulk]
  | agg parts => simp [Rows.uptoBulk]
  | iface t d => simp [Rows.uptoBulk]
  | map entries => simp [Rows.uptoBulk]
  | held h => simp [Rows.uptoBulk]
theorem bulk_part {H : Type} {d : DataW H} {l : List (DataW H)} (h : d ∈ l) : Rows.uptoBulk d ≤ Rows.uptoBulkAll l := by
  induction l with
  | nil => cases h
  | cons x r ih =>
    simp only [Rows.uptoBulkAll]
    cases List.mem_cons.1 h with
    | inl e => subst e; omega
    | inr e => have := ih e; omega
theorem bulk_length {H : Type} (l : List (DataW H)) : l.length ≤ Rows.uptoBulkAll l := by
  induction l with
  | nil => simp [Rows.uptoBulkAll]
  | cons x r ih => have := bulk_one x; simp only [Rows.uptoBulkAll, List.length_cons]; omega

/-- What a value of type e, read as data of small bulk, is. -/
def Opens {α : Type} (w : World) (e : TypeId) (R : World → (Nat → Option Value) → α → Prop) (Sm : α → Prop) : Prop :=
  ∀ (H : Type) (enc : TypeId × Value → H) (spare : Nat → Bool) (held : Bool) (fuel : Nat) (cs : List Value) (x : DataW H × List MemPlace), DataW.trod enc Tryz.prog w 0 spare held fuel e cs = some x → Rows.uptoBulk x.1 ≤ 1048576 → ∃ a : α, (∀ rd : Nat → Option Value, (∀ j u, cs[j]? = some u → rd j = some u) → R w rd a) ∧ Sm a

theorem opens_slice {α : Type} {w : World} {t e : TypeId} {sz : Nat} {R : World → (Nat → Option Value) → α → Prop} {Sm : α → Prop} (hO : Opens w e R Sm) (ht : Tryz.prog.underlying t = some (.slice e)) (hc : Tryz.prog.cellsOf e = sz) (hsz : 0 < sz)
    {H : Type} {enc : TypeId × Value → H} {spare : Nat → Bool} {held : Bool} {fuel : Nat} {cs : List Value} {x : DataW H × List MemPlace} (h : DataW.trod enc Tryz.prog w 0 spare held fuel t cs = some x) (hb : Rows.uptoBulk x.1 ≤ 1048576) :
    ∃ v xs, cs = [v] ∧ RSl w sz R v xs ∧ List.length xs ≤ 1048576 ∧ ∀ a ∈ xs, Sm a := by
  rcases open_slice ht h with ⟨rfl, rfl⟩ | ⟨a, len, cap, m, n, D, Pl, rfl, -, hlc, -, hm, rfl, hel⟩
  · exact ⟨_, [], rfl, RSl.nil _ _ _, by simp, fun a ha => by simp at ha⟩
  have hlm : len ≤ m := by rw [hm]; split <;> omega
  simp only [Rows.uptoBulk] at hb
  have hlen := bulk_length ((List.range len).map D)
  simp only [List.length_map, List.length_range] at hlen
  have hex : ∀ i, i < len → ∃ y : α, (∀ rd : Nat → Option Value, (∀ j u, w.cell? ((a.add (i * sz)).add j) = some u → j < sz → rd j = some u) → R w rd y) ∧ Sm y := fun i hi => by
    obtain ⟨cs', h1, h2⟩ := hel i (by omega)
    have hp := bulk_part (H := H) (d := D i) (l := (List.range len).map D) (List.mem_map.2 ⟨i, List.mem_range.2 hi, rfl⟩)
    obtain ⟨y, hy, hs⟩ := hO H enc spare held n cs' _ h2 (by simp only; omega)
    rw [hc] at h1
    obtain ⟨-, hl', hcell⟩ := World.cells?_some h1
    refine ⟨y, fun rd hrd => hy rd fun j u hj => ?_, hs⟩
    have hjl : j < sz := by rw [← hl']; exact (List.getElem?_eq_some_iff.1 hj).1
    exact hrd j u (by rw [hcell j hjl]; exact hj) hjl
  have hsp : 0 < len → a.spot = none := fun h0 => by
    obtain ⟨cs', h1, -⟩ := hel 0 (by omega)
    rw [hc] at h1
    obtain ⟨-, hl', hcell⟩ := World.cells?_some h1
    have := hcell 0 hsz
    rw [List.getElem?_eq_getElem (by omega)] at this
    simpa [Addr.add] using World.cell?_spot this
  refine ⟨_, List.ofFn (fun i : Fin len => Classical.choose (hex i.1 i.2)), rfl, ⟨some a, cap, by simp, by simp; omega, fun i hi => ?_⟩, by simp; omega, fun y hy => ?_⟩
  · have hi' : i < len := by simpa using hi
    obtain ⟨b, off, spot⟩ := a
    have hs0 : spot = none := hsp (by omega)
    subst hs0
    refine ⟨b, off, rfl, ?_⟩
    have := (Classical.choose_spec (hex i hi')).1
    simp only [List.getElem_ofFn]
    refine this _ fun j u hju _ => ?_
    have key : ((⟨b, off, none⟩ : Addr).add (i * sz)).add j = ⟨b, off + i * sz + j, none⟩ := by
      unfold Addr.add
      by_cases h1 : i * sz = 0 <;> by_cases h2 : j = 0 <;> simp [h1, h2]
    rw [key] at hju
    exact hju
  · obtain ⟨i, rfl⟩ := List.mem_ofFn.1 hy
    exact (Classical.choose_spec (hex i.1 i.2)).2

/-- A struct of fields of one cell each. -/
theorem opens_struct {w : World} {t : TypeId} {fs : Array Field} (ht : Tryz.prog.underlying t = some (.struct fs)) (hone : oneCellFields Tryz.prog fs = true) (hn : Tryz.prog.cellsOf t = fs.size)
    {H : Type} {enc : TypeId × Value → H} {spare : Nat → Bool} {held : Bool} {fuel : Nat} {cs : List Value} {x : DataW H × List MemPlace} (h : DataW.trod enc Tryz.prog w 0 spare held fuel t cs = some x) (hb : Rows.uptoBulk x.1 ≤ 1048576) :
    ∀ (i : Nat) (f : Field), fs[i]? = some f → ∃ u y n, cs[i]? = some u ∧ DataW.trod enc Tryz.prog w 0 spare held n f.type [u] = some y ∧ Rows.uptoBulk y.1 ≤ 1048576 := by
  intro i f hi
  obtain ⟨xs, n, -, rfl, hl, hxl, hf⟩ := DataW.trod_struct ht h
  obtain ⟨ho, hc1⟩ := hone_of hone i f hi
  have hlt : i < fs.size := (Array.getElem?_eq_some_iff.1 hi).1
  have g := hf i f hi
  rw [ho, hc1, take1_drop cs i undef (by omega), List.getElem?_eq_getElem (by omega)] at g
  refine ⟨cs[i]'(by omega), xs[i]'(by omega), n, List.getElem?_eq_getElem (by omega), ?_, ?_⟩
  · rw [← g]; simp [List.getD, List.getElem?_eq_getElem (show i < cs.length by omega)]
  · simp only [Rows.uptoBulk] at hb
    have := bulk_part (H := H) (d := (xs[i]'(by omega)).1) (l := xs.map (·.1)) (List.mem_map.2 ⟨_, List.getElem_mem _, rfl⟩)
    omega

theorem opens_int {w : World} {e : TypeId} (he : Tryz.prog.underlying e = some (.int .i64)) : Opens w e RI64 (fun _ => True) := fun H enc spare held fuel cs x h _ => by
  obtain ⟨n, rfl, -, -⟩ := DataW.trod_int he h
  exact ⟨n, fun rd hrd => hrd 0 _ rfl, trivial⟩
theorem opens_bool {w : World} {e : TypeId} (he : Tryz.prog.underlying e = some .bool) : Opens w e RBool (fun _ => True) := fun H enc spare held fuel cs x h _ => by
  obtain ⟨n, rfl, -⟩ := DataW.trod_bool he h
  exact ⟨n, fun rd hrd => hrd 0 _ rfl, trivial⟩
theorem opens_string {w : World} {e : TypeId} (he : Tryz.prog.underlying e = some .string) : Opens w e RStr (fun _ => True) := fun H enc spare held fuel cs x h _ => by
  obtain ⟨s, rfl, -, hs⟩ := DataW.trod_string he h
  exact ⟨s, fun rd hrd => ⟨hrd 0 _ rfl, by unfold maxLen at hs; omega⟩, trivial⟩
end Go.Proofs.YtekkicgbloidkaaGreatDoor
