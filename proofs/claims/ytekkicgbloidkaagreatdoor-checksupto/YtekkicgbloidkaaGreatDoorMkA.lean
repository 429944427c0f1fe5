/- The text of an owner's mark. -/
import Derived.Test.YtekkicgbloidkaaGreatDoorGrow
import Derived.Test.YtekkicgbloidkaaGreatDoorProg
import Derived.Shelf.Strconv.Itoa4
import Derived.Lib.AppendIntMem
import Derived.Lib.ItoaLen
import Derived.Deep.QuietTactic
import Derived.Test.YtekkicgbloidkaaGreatDoorSpC
import Derived.Deep.RegionHeld3
namespace Go.Proofs.YtekkicgbloidkaaGreatDoor
open Go Go.RowKit Go.Shelf

def Tryz.laysItoa_ren : Go.Shelf.Ren := ⟨fun | 171 => 79 | 243 => 98 | 246 => 111 | 283 => 119 | 284 => 120 | 285 => 121 | 286 => 122 | 129 => 127 | 317 => 126 | 318 => 128 | 319 => 129 | 320 => 130 | 337 => 135 | 338 => 136 | n => n, fun | 3 => 3 | 9 => 9 | 2 => 2 | 4 => 4 | 171 => 198 | 0 => 0 | 53 => 195 | 37 => 201 | 5 => 5 | 173 => 202 | 212 => 209 | 51 => 210 | 20 => 20 | 213 => 211 | 46 => 189 | 232 => 216 | 233 => 217 | n => n, fun | 17 => 0 | 18 => 1 | 19 => 2 | n => n⟩
theorem Tryz.laysItoa : Go.Proofs.LaysM.n171 Tryz.prog Tryz.laysItoa_ren := {
  mixed := by kernel_rfl
  f129 := Tryz.func127.trans (congrArg some (by kernel_rfl))
  f171 := Tryz.func79.trans (congrArg some (by kernel_rfl))
  f243 := Tryz.func98.trans (congrArg some (by kernel_rfl))
  f246 := Tryz.func111.trans (congrArg some (by kernel_rfl))
  f283 := Tryz.func119.trans (congrArg some (by kernel_rfl))
  f284 := Tryz.func120.trans (congrArg some (by kernel_rfl))
  f285 := Tryz.func121.trans (congrArg some (by kernel_rfl))
  f286 := Tryz.func122.trans (congrArg some (by kernel_rfl))
  f317 := Tryz.func126.trans (congrArg some (by kernel_rfl))
  f318 := Tryz.func128.trans (congrArg some (by kernel_rfl))
  f319 := Tryz.func129.trans (congrArg some (by kernel_rfl))
  f320 := Tryz.func130.trans (congrArg some (by kernel_rfl))
  f337 := Tryz.func135.trans (congrArg some (by kernel_rfl))
  f338 := Tryz.func136.trans (congrArg some (by kernel_rfl))
  t0 := Tryz.underlying0
  a0 := Tryz.isAgg0
  z0 := Tryz.sizeOf0
  v0 := Tryz.zeroValue0
  t2 := Tryz.underlying2
  a2 := Tryz.isAgg2
  z2 := Tryz.sizeOf2
  v2 := Tryz.zeroValue2
  t3 := Tryz.underlying3
  a3 := Tryz.isAgg3
  z3 := Tryz.sizeOf3
  v3 := Tryz.zeroValue3
  t4 := Tryz.underlying4
  a4 := Tryz.isAgg4
  z4 := Tryz.sizeOf4
  v4 := Tryz.zeroValue4
  t5 := Tryz.underlying5
  a5 := Tryz.isAgg5
  z5 := Tryz.sizeOf5
  v5 := Tryz.zeroValue5
  t9 := Tryz.underlying9
  a9 := Tryz.isAgg9
  z9 := Tryz.sizeOf9
  v9 := Tryz.zeroValue9
  t20 := Tryz.underlying20
  a20 := Tryz.isAgg20
  z20 := Tryz.sizeOf20
  v20 := Tryz.zeroValue20
  t37 := Tryz.underlying201
  a37 := Tryz.isAgg201
  z37 := Tryz.sizeOf201
  v37 := Tryz.zeroValue201
  t46 := Tryz.underlying189
  a46 := Tryz.isAgg189
  z46 := Tryz.sizeOf189
  v46 := Tryz.zeroValue189
  t51 := Tryz.underlying210
  a51 := Tryz.isAgg210
  z51 := Tryz.sizeOf210
  v51 := Tryz.zeroValue210
  t53 := Tryz.underlying195
  a53 := Tryz.isAgg195
  z53 := Tryz.sizeOf195
  v53 := Tryz.zeroValue195
  t171 := Tryz.underlying198
  a171 := Tryz.isAgg198
  z171 := Tryz.sizeOf198
  v171 := Tryz.zeroValue198
  t173 := Tryz.underlying202
  a173 := Tryz.isAgg202
  z173 := Tryz.sizeOf202
  v173 := Tryz.zeroValue202
  t212 := Tryz.underlying209
  a212 := Tryz.isAgg209
  z212 := Tryz.sizeOf209
  v212 := Tryz.zeroValue209
  t213 := Tryz.underlying211
  a213 := Tryz.isAgg211
  z213 := Tryz.sizeOf211
  t232 := Tryz.underlying216
  a232 := Tryz.isAgg216
  z232 := Tryz.sizeOf216
  v232 := Tryz.zeroValue216
  t233 := Tryz.underlying217
  a233 := Tryz.isAgg217
  z233 := Tryz.sizeOf217
  v233 := Tryz.zeroValue217
  g17 := by kernel_rfl
  g18 := by kernel_rfl
  g19 := by kernel_rfl
  i0 := by kernel_rfl
  i2 := by kernel_rfl
  i3 := by kernel_rfl
  i4 := by kernel_rfl
  i5 := by kernel_rfl
  i9 := by kernel_rfl
  i20 := by kernel_rfl
  i37 := by kernel_rfl
  i46 := by kernel_rfl
  i51 := by kernel_rfl
  i53 := by kernel_rfl
  i171 := by kernel_rfl
  i173 := by kernel_rfl
  i212 := by kernel_rfl
  i232 := by kernel_rfl
  i233 := by kernel_rfl
  m17 := by kernel_rfl
  m18 := by kernel_rfl
  m19 := by kernel_rfl }

/-- The table that the text is made by. -/
abbrev Tab (w : World) : Prop := Lib.TabIs Tryz.prog w "internal/strconv.uint64pow10" .u64 Lib.pow10Tab
/-- The same, whatever is done from block B on. -/
abbrev TabB (B : Nat) (w : World) : Prop := Lib.TabBelow Tryz.prog B w "internal/strconv.uint64pow10" .u64 Lib.pow10Tab

def labelOf (m : Int) : ByteArray := ByteArray.append (ByteArray.append ⟨#[40]⟩ ⟨(Lib.itoa m).toArray⟩) ⟨#[41]⟩

theorem grow_below (w : World) (k : Nat) (os : Array Obj) : Below w.heap.size w (Sort.grow (w.drewN k) os) := by
  have h1 := below_drewN (Below.refl w.heap.size w) k
  refine h1.trans ⟨rfl, rfl, rfl, ?_, fun b hb => ?_⟩
  · simp [Sort.grow]
  · have := h1.size
    simp only [Sort.grow]
    rw [Array.getElem?_append_left (by omega)]

set_option maxRecDepth 20000 in
set_option maxHeartbeats 1000000 in
theorem label_any (m : Int) (h0 : 0 ≤ m) (h1 : m ≤ 1000000000000) (w : World) (ht : Tab w) :
    Calls Tryz.prog 67 #[.int .i64 m] w fun e w' => e = .returned (.string (labelOf m)) ∧ Below w.heap.size w w' := by
  go_enter Tryz.func67, Tryz.ntmps67
  go_wp2_with fail
  refine (Any.strconv_Itoa Tryz.laysItoa m (by omega) (by omega) w ht).mono ?_
  rintro e w1 ⟨rfl, k, os, rfl⟩
  have hl := Lib.itoa_length_le m (by omega) (by omega)
  have g1 : ¬ 9223372036854775807 < 1 + (Lib.itoa m).length := by omega
  have g2 : ¬ 9223372036854775807 < 1 + (Lib.itoa m).length + 1 := by omega
  have HB : Hid (Below w.heap.size w (Sort.grow (w.drewN k) os)) := grow_below w k os
  clear hl
  generalize Sort.grow (w.drewN k) os = w1 at *
  go_wp2_with fail
  go_ret
  exact ⟨rfl, HB.out⟩

end Go.Proofs.YtekkicgbloidkaaGreatDoor
/- Lists that bear a mark in every entry. Plain facts; and appends to a list without spare room. -/
namespace Go.Proofs.YtekkicgbloidkaaGreatDoor
open Go Go.RowKit

/-- Every entry of a list is the same, and the list lies in a block of an interval. -/
def Mk (T : TypeId) (sz : Nat) (w : World) (lo hi : Nat) (v : Value) (xs : List Value) : Prop :=
  v = .slice none 0 0 ∨ ∃ g n cap cur, v = .slice (some ⟨g, 0, none⟩) n cap ∧ lo ≤ g ∧ g < hi ∧ Box w g cur T ∧ n ≤ cap ∧ cap ≤ 9223372036854775807 ∧ cur.size = cap * sz ∧ (∀ j i u, j < n → xs[i]? = some u → i < sz → cur[j * sz + i]? = some u)

theorem Mk.only {S : Nat → Prop} {T : TypeId} {sz : Nat} {w w' : World} {lo hi : Nat} {v : Value} {xs : List Value} (h : Mk T sz w lo hi v xs) (ho : Only S w w') (hs : ∀ b, lo ≤ b → b < hi → ¬ S b) : Mk T sz w' lo hi v xs := by
  rcases h with h | ⟨g, n, cap, cur, hv, h1, h2, hb, rest⟩
  · exact .inl h
  · exact .inr ⟨g, n, cap, cur, hv, h1, h2, hb.only ho (hs g h1 h2), rest⟩
theorem Mk.call {T : TypeId} {sz : Nat} {w w' : World} {lo hi : Nat} {v : Value} {xs : List Value} (h : Mk T sz w lo hi v xs) (hb : Below w.heap.size w w') : Mk T sz w' lo hi v xs :=
  h.only (S := fun _ => False) (Only.below hb) (fun _ _ _ => id)
theorem Mk.wide {T : TypeId} {sz : Nat} {w : World} {lo hi lo' hi' : Nat} {v : Value} {xs : List Value} (h : Mk T sz w lo hi v xs) (h1 : lo' ≤ lo) (h2 : hi ≤ hi') : Mk T sz w lo' hi' v xs := by
  rcases h with h | ⟨g, n, cap, cur, hv, k1, k2, rest⟩
  · exact .inl h
  · exact .inr ⟨g, n, cap, cur, hv, by omega, by omega, rest⟩
theorem Mk.shape {T : TypeId} {sz : Nat} {w : World} {lo hi : Nat} {v : Value} {xs : List Value} (h : Mk T sz w lo hi v xs) : ∃ a n c, v = .slice a n c := by
  rcases h with rfl | ⟨g, n, cap, cur, rfl, -⟩
  · exact ⟨none, 0, 0, rfl⟩
  · exact ⟨_, _, _, rfl⟩

/-- So many times the same cells. -/
def repl (n : Nat) (xs : List Value) : List Value := (List.replicate n ()).flatMap (fun _ => xs)
theorem repl_zero (xs : List Value) : repl 0 xs = [] := rfl
theorem repl_succ (n : Nat) (xs : List Value) : repl (n + 1) xs = repl n xs ++ xs := by
  unfold repl; rw [List.replicate_succ', List.flatMap_append]; simp
theorem repl_one (xs : List Value) : repl 1 xs = xs := by rw [repl_succ]; simp [repl_zero]
theorem repl_add (n m : Nat) (xs : List Value) : repl (n + m) xs = repl n xs ++ repl m xs := by
  induction m with
  | zero => simp [repl_zero]
  | succ m ih => rw [← Nat.add_assoc, repl_succ, ih, repl_succ, List.append_assoc]
theorem repl_length (n : Nat) (xs : List Value) : (repl n xs).length = n * xs.length := by
  unfold repl; rw [flat_length (fun _ => xs) xs.length (fun _ => rfl)]; simp
theorem repl_at (n : Nat) (xs : List Value) (j i : Nat) (hj : j < n) (hi : i < xs.length) : (repl n xs)[j * xs.length + i]? = xs[i]? := by
  unfold repl
  exact flat_get (fun _ => xs) xs.length (fun _ => rfl) (List.replicate n ()) j (by simpa using hj) i hi
theorem repl_one_cell {n : Nat} {xs : List Value} (h : ∀ u ∈ xs, u.oneCell' = true) : ∀ u ∈ repl n xs, u.oneCell' = true := by
  intro u hu
  unfold repl at hu
  rw [List.mem_flatMap] at hu
  obtain ⟨_, _, hx⟩ := hu
  exact h u hx

theorem Mk.owns {T : TypeId} {sz : Nat} {w : World} {lo hi : Nat} {v : Value} {n : Nat} {xs : List Value} (h : w.ownsRow lo T sz v n (repl n xs)) (hx : xs.length = sz) (hi' : w.heap.size ≤ hi) : Mk T sz w lo hi v xs := by
  rcases h.2 with ⟨rfl, _⟩ | ⟨g, cap, cur, rfl, hb, hg, hc, hm, hs, ht⟩
  · exact .inl rfl
  · refine .inr ⟨g, n, cap, cur, rfl, hb, Nat.lt_of_lt_of_le (Box.lt (show Box w g cur T from hg)) hi', hg, hc, hm, hs, fun j i u hj hu hi => ?_⟩
    subst hx
    have := repl_at n xs j i hj hi
    rw [hu, ← ht, List.getElem?_take] at this
    split at this
    · rwa [Array.getElem?_toList] at this
    · simp at this

/-- A list without spare room is appended to: a new row. -/
theorem app_full {P : Program} {t e : TypeId} {z : Value} {size bytes : Nat} (E : Elem P t e z size bytes) (w : World) {ops : Array Oper} {rest : List Oper} {o : Oper} {a : Act} {Q : Exit → Act → World → Prop} (hgd : o.guard = none) (s x : Operand)
    (ho : o.op = .call { callee := .builtin .append, args := #[s, x], argTypes := #[t, t] })
    (base : Option Addr) (n : Nat) (olds : List Value) (hs : a.eval s = .slice base n n) (hol : olds.length = n * size) (hob : ∀ j u, olds[j]? = some u → ∃ g, base = some ⟨g, 0, none⟩ ∧ w.cell? ⟨g, j, none⟩ = some u) (hbn : base = none → n = 0) (hb0 : ∀ p, base = some p → ∃ g, p = ⟨g, 0, none⟩)
    (bN m c : Nat) (news : List Value) (hx : a.eval x = .slice (some ⟨bN, 0, none⟩) m c) (hl : news.length = m * size) (hbox : ∀ j u, news[j]? = some u → w.cell? ⟨bN, j, none⟩ = some u) (h1 : ∀ u ∈ news, u.oneCell' = true)
    (hm : 0 < m) (hbytes : (n + m) * bytes ≤ 140737488355328) (h63 : n + m ≤ 9223372036854775807) (H : Nat) (hH : w.heap.size = H)
    (h : ∀ cap w', w'.ownsRow H e size (.slice (some ⟨H, 0, none⟩) (n + m) cap) (n + m) (olds ++ news) → Below H w w' → H < w'.heap.size → wpList P ops Q rest (a.put o.dst (.slice (some ⟨H, 0, none⟩) (n + m) cap)) w') :
    wpList P ops Q (o :: rest) a w := by
  obtain ⟨i, hi, hz, hsz, hby⟩ := info_parts E.hi
  subst hsz
  subst hby
  subst hH
  refine wpList_plain hgd fun K hK' => ?_
  have hold : (Builtin.firstCells i.size n (.slice base n n)).run P w.drew = .ok olds.toArray w.drew := by
    cases base with
    | none =>
      have hn := hbn rfl
      subst hn
      have : olds = [] := List.eq_nil_of_length_eq_zero (by simpa using hol)
      subst this
      exact run_firstCells_none w.drew i.size 0 0 0
    | some p =>
      obtain ⟨g, rfl⟩ := hb0 p rfl
      refine run_firstCells_some w.drew i.size n ⟨g, 0, none⟩ n n olds hol (fun j v hv => ?_)
      obtain ⟨g', hg', hc⟩ := hob j v hv
      simp only [Option.some.injEq, Addr.mk.injEq, and_true] at hg'
      subst hg'
      rw [Addr.add_lit, Nat.zero_add]
      simpa using hc
  have hsrc : Src P i.size t (.slice (some ⟨bN, 0, none⟩) m c) m news w := Src.ofSlice w E.ht ⟨bN, 0, none⟩ m c news hl (fun j u hu => by rw [Addr.add_lit, Nat.zero_add]; exact hbox j u hu) h1
  have hrun := run_append_grow_src w t t o.type e i z E.ht hi hz base n n olds hold (.slice (some ⟨bN, 0, none⟩) m c) m news hsrc (by omega) (by omega) (growslice_fits (by omega) hbytes)
  unfold Oper.wp
  simp [execOp, ho, resolve, invoke, builtin, hs, hx, hrun, Result.andThen]
  refine hK' _ _ (h _ _ ?_ (((Below.refl _ _).drew).alloc (Nat.le_refl _) _) (by simp))
  have hge := grownCap_ge w (n + m) n e
  have hln : (olds ++ news).length = (n + m) * i.size := by rw [List.length_append, hol, hl, Nat.add_mul]
  refine ⟨hln, .inr ⟨w.heap.size, _, _, rfl, Nat.le_refl _, heap_alloc_new w.drew _, hge, grownCap_le_maxLen w (n + m) n e (by unfold maxLen; omega), ?_, ?_⟩⟩
  · rw [Array.size_append, size_zeroCells, E.hzs]
    simp only [List.size_toArray]
    rw [hln, ← Nat.add_mul]
    congr 1; omega
  · rw [Array.toList_append, ← hln, show ((olds ++ news).toArray).toList = olds ++ news from rfl, List.take_left]

end Go.Proofs.YtekkicgbloidkaaGreatDoor
/- Lists that bear their owner's mark are looked at. -/
namespace Go.Proofs.YtekkicgbloidkaaGreatDoor
open Go Go.RowKit
attribute [local go_sem ↓] Go.wp_at_zero Go.wp_at_succ

theorem Mk.cells {T : TypeId} {w : World} {lo hi : Nat} {v x : Value} (h : Mk T 1 w lo hi v [x]) : ∃ a n c, v = .slice a n c ∧ n ≤ 9223372036854775807 ∧ ∀ j, j < n → ∃ g, a = some ⟨g, 0, none⟩ ∧ w.cell? ⟨g, j, none⟩ = some x := by
  rcases h with rfl | ⟨g, n, cap, cur, rfl, h1, h2, hb, h3, h4, h5, h6⟩
  · exact ⟨none, 0, 0, rfl, by omega, fun j h => absurd h (Nat.not_lt_zero _)⟩
  · refine ⟨_, n, cap, rfl, by omega, fun j hj => ⟨g, rfl, ?_⟩⟩
    rw [hb.rules.1]
    have := h6 j 0 x hj rfl (by omega)
    simpa using this

set_option maxRecDepth 20000 in
set_option maxHeartbeats 2000000 in
theorem allNums_any (mark : Nat) (hm : mark ≤ 1000000000000) (v : Value) (w : World) (lo hi : Nat) (h : Mk 2 1 w lo hi v [.int .i64 (-1000 - (mark : Int))]) :
    Calls Tryz.prog 49 #[v, .int .i64 mark] w fun e w' => e = .returned (.bool true) ∧ Below w.heap.size w w' := by
  obtain ⟨a, n, c, rfl, hn, hc⟩ := h.cells
  have HC : Hid (∀ j, j < n → ∃ g, a = some ⟨g, 0, none⟩ ∧ w.cell? ⟨g, j, none⟩ = some (.int .i64 (-1000 - (mark : Int)))) := hc
  clear h hc
  go_enter Tryz.func49, Tryz.ntmps49
  go_wp2
  go_loopw [5] (fun i W => ∃ k : Nat, k ≤ n ∧ i = .int .i64 k ∧ Below w.heap.size w W) (fun i _ => n - (intOf i).toNat)
  case atStart => exact ⟨0, Nat.zero_le _, rfl, Below.refl _ _⟩
  case round =>
    obtain ⟨k, hk, rfl, hB⟩ := hrel
    have HB : Hid (Below w.heap.size w wr) := hB
    clear hB
    by_cases hlt : k < n
    · obtain ⟨g, rfl, hc⟩ := HC.out k hlt
      have e0 := (Keeps.of_below HB.out) _ _ _ hc
      have lg := cell_lt e0
      have hi0 : (0 : Int) ≤ (k : Int) := by omega
      have hi1 : (k : Int) < (n : Int) := by omega
      clear hc
      go_wp2_with fail
      go_roundw
      case rel => exact ⟨k + 1, by omega, by go_num, HB.out⟩
      case measure => simp [intOf]; omega
    · go_wp2_with fail
      go_ret
      exact ⟨rfl, HB.out⟩

set_option maxRecDepth 20000 in
set_option maxHeartbeats 2000000 in
theorem stillNums_any (mark : Nat) (hm : mark ≤ 1000000000000) (v0 v1 v2 v3 : Value) (w : World) (lo hi : Nat) (h0 : Mk 2 1 w lo hi v0 [.int .i64 (-1000 - (mark : Int))]) (h1 : Mk 2 1 w lo hi v1 [.int .i64 (-1000 - (mark : Int))]) (h2 : Mk 2 1 w lo hi v2 [.int .i64 (-1000 - (mark : Int))]) (h3 : Mk 2 1 w lo hi v3 [.int .i64 (-1000 - (mark : Int))]) :
    Calls Tryz.prog 25 #[.agg #[v0, v1, v2, v3, .int .i64 mark]] w fun e w' => e = .returned (.bool true) ∧ Below w.heap.size w w' := by
  obtain ⟨a0, n0, c0, rfl⟩ := h0.shape
  obtain ⟨a1, n1, c1, rfl⟩ := h1.shape
  obtain ⟨a2, n2, c2, rfl⟩ := h2.shape
  obtain ⟨a3, n3, c3, rfl⟩ := h3.shape
  have hb0 : Below w.heap.size w (w.alloc (.cells #[.slice a0 n0 c0, .slice a1 n1 c1, .slice a2 n2 c2, .slice a3 n3 c3, .int .i64 mark] 74)) := (Below.refl _ _).alloc (Nat.le_refl _) _
  have HB0 : Hid _ := hb0
  have HX : Hid (Box (w.alloc (.cells #[.slice a0 n0 c0, .slice a1 n1 c1, .slice a2 n2 c2, .slice a3 n3 c3, .int .i64 mark] 74)) w.heap.size #[.slice a0 n0 c0, .slice a1 n1 c1, .slice a2 n2 c2, .slice a3 n3 c3, .int .i64 mark] 74) := Box.new _ _ _
  have H0 : Hid _ := h0.call hb0
  have H1 : Hid _ := h1.call hb0
  have H2 : Hid _ := h2.call hb0
  have H3 : Hid _ := h3.call hb0
  clear h0 h1 h2 h3 hb0
  go_enter Tryz.func25, Tryz.ntmps25
  go_wp2_with fail
  generalize w.alloc (.cells #[.slice a0 n0 c0, .slice a1 n1 c1, .slice a2 n2 c2, .slice a3 n3 c3, .int .i64 mark] 74) = wA at *
  refine (allNums_any mark hm _ _ lo hi H0.out).mono ?_
  rintro e w1 ⟨rfl, hb1⟩
  have HX1 : Hid (Box w1 w.heap.size #[.slice a0 n0 c0, .slice a1 n1 c1, .slice a2 n2 c2, .slice a3 n3 c3, .int .i64 mark] 74) := HX.out.call hb1
  have HB1 : Hid (Below w.heap.size w w1) := Below.step hb1 HB0.out HB0.out.size
  have H11 : Hid (Mk _ _ _ _ _ _ _) := Mk.call H1.out hb1
  have H21 : Hid (Mk _ _ _ _ _ _ _) := Mk.call H2.out hb1
  have H31 : Hid (Mk _ _ _ _ _ _ _) := Mk.call H3.out hb1
  obtain ⟨x1, y1, z1⟩ := HX1.out.all
  clear hb1
  go_wp2_with fail
  refine (allNums_any mark hm _ _ lo hi H11.out).mono ?_
  rintro e w2 ⟨rfl, hb2⟩
  have HX2 : Hid (Box w2 w.heap.size #[.slice a0 n0 c0, .slice a1 n1 c1, .slice a2 n2 c2, .slice a3 n3 c3, .int .i64 mark] 74) := HX1.out.call hb2
  have HB2 : Hid (Below w.heap.size w w2) := Below.step hb2 HB1.out HB1.out.size
  have H22 : Hid (Mk _ _ _ _ _ _ _) := Mk.call H21.out hb2
  have H32 : Hid (Mk _ _ _ _ _ _ _) := Mk.call H31.out hb2
  clear hb2 x1 y1 z1
  obtain ⟨x1, y1, z1⟩ := HX2.out.all
  go_wp2_with fail
  refine (allNums_any mark hm _ _ lo hi H22.out).mono ?_
  rintro e w3 ⟨rfl, hb3⟩
  have HX3 : Hid (Box w3 w.heap.size #[.slice a0 n0 c0, .slice a1 n1 c1, .slice a2 n2 c2, .slice a3 n3 c3, .int .i64 mark] 74) := HX2.out.call hb3
  have HB3 : Hid (Below w.heap.size w w3) := Below.step hb3 HB2.out HB2.out.size
  have H33 : Hid (Mk _ _ _ _ _ _ _) := Mk.call H32.out hb3
  clear hb3 x1 y1 z1
  obtain ⟨x1, y1, z1⟩ := HX3.out.all
  go_wp2_with fail
  refine (allNums_any mark hm _ _ lo hi H33.out).mono ?_
  rintro e w4 ⟨rfl, hb4⟩
  have HB4 : Hid (Below w.heap.size w w4) := Below.step hb4 HB3.out HB3.out.size
  clear hb4 x1 y1 z1
  go_wp2_with fail
  go_ret
  exact ⟨rfl, HB4.out⟩

set_option maxRecDepth 20000 in
set_option maxHeartbeats 2000000 in
theorem allPlaces_any (mark : Nat) (hm : mark ≤ 1000000000000) (v : Value) (w : World) (lo hi : Nat) (h : Mk 3 1 w lo hi v [.int .i64 (-1000 - (mark : Int))]) :
    Calls Tryz.prog 52 #[v, .int .i64 mark] w fun e w' => e = .returned (.bool true) ∧ Below w.heap.size w w' := by
  obtain ⟨a, n, c, rfl, hn, hc⟩ := h.cells
  have HC : Hid (∀ j, j < n → ∃ g, a = some ⟨g, 0, none⟩ ∧ w.cell? ⟨g, j, none⟩ = some (.int .i64 (-1000 - (mark : Int)))) := hc
  clear h hc
  go_enter Tryz.func52, Tryz.ntmps52
  go_wp2
  go_loopw [5] (fun i W => ∃ k : Nat, k ≤ n ∧ i = .int .i64 k ∧ Below w.heap.size w W) (fun i _ => n - (intOf i).toNat)
  case atStart => exact ⟨0, Nat.zero_le _, rfl, Below.refl _ _⟩
  case round =>
    obtain ⟨k, hk, rfl, hB⟩ := hrel
    have HB : Hid (Below w.heap.size w wr) := hB
    clear hB
    by_cases hlt : k < n
    · obtain ⟨g, rfl, hc⟩ := HC.out k hlt
      have e0 := (Keeps.of_below HB.out) _ _ _ hc
      have lg := cell_lt e0
      have hi0 : (0 : Int) ≤ (k : Int) := by omega
      have hi1 : (k : Int) < (n : Int) := by omega
      clear hc
      go_wp2_with fail
      go_roundw
      case rel => exact ⟨k + 1, by omega, by go_num, HB.out⟩
      case measure => simp [intOf]; omega
    · go_wp2_with fail
      go_ret
      exact ⟨rfl, HB.out⟩

set_option maxRecDepth 20000 in
set_option maxHeartbeats 2000000 in
theorem stillPlaces_any (mark : Nat) (hm : mark ≤ 1000000000000) (v0 v1 v2 v3 : Value) (w : World) (lo hi : Nat) (h0 : Mk 3 1 w lo hi v0 [.int .i64 (-1000 - (mark : Int))]) (h1 : Mk 3 1 w lo hi v1 [.int .i64 (-1000 - (mark : Int))]) (h2 : Mk 3 1 w lo hi v2 [.int .i64 (-1000 - (mark : Int))]) (h3 : Mk 3 1 w lo hi v3 [.int .i64 (-1000 - (mark : Int))]) :
    Calls Tryz.prog 28 #[.agg #[v0, v1, v2, v3, .int .i64 mark]] w fun e w' => e = .returned (.bool true) ∧ Below w.heap.size w w' := by
  obtain ⟨a0, n0, c0, rfl⟩ := h0.shape
  obtain ⟨a1, n1, c1, rfl⟩ := h1.shape
  obtain ⟨a2, n2, c2, rfl⟩ := h2.shape
  obtain ⟨a3, n3, c3, rfl⟩ := h3.shape
  have hb0 : Below w.heap.size w (w.alloc (.cells #[.slice a0 n0 c0, .slice a1 n1 c1, .slice a2 n2 c2, .slice a3 n3 c3, .int .i64 mark] 80)) := (Below.refl _ _).alloc (Nat.le_refl _) _
  have HB0 : Hid _ := hb0
  have HX : Hid (Box (w.alloc (.cells #[.slice a0 n0 c0, .slice a1 n1 c1, .slice a2 n2 c2, .slice a3 n3 c3, .int .i64 mark] 80)) w.heap.size #[.slice a0 n0 c0, .slice a1 n1 c1, .slice a2 n2 c2, .slice a3 n3 c3, .int .i64 mark] 80) := Box.new _ _ _
  have H0 : Hid _ := h0.call hb0
  have H1 : Hid _ := h1.call hb0
  have H2 : Hid _ := h2.call hb0
  have H3 : Hid _ := h3.call hb0
  clear h0 h1 h2 h3 hb0
  go_enter Tryz.func28, Tryz.ntmps28
  go_wp2_with fail
  generalize w.alloc (.cells #[.slice a0 n0 c0, .slice a1 n1 c1, .slice a2 n2 c2, .slice a3 n3 c3, .int .i64 mark] 80) = wA at *
  refine (allPlaces_any mark hm _ _ lo hi H0.out).mono ?_
  rintro e w1 ⟨rfl, hb1⟩
  have HX1 : Hid (Box w1 w.heap.size #[.slice a0 n0 c0, .slice a1 n1 c1, .slice a2 n2 c2, .slice a3 n3 c3, .int .i64 mark] 80) := HX.out.call hb1
  have HB1 : Hid (Below w.heap.size w w1) := Below.step hb1 HB0.out HB0.out.size
  have H11 : Hid (Mk _ _ _ _ _ _ _) := Mk.call H1.out hb1
  have H21 : Hid (Mk _ _ _ _ _ _ _) := Mk.call H2.out hb1
  have H31 : Hid (Mk _ _ _ _ _ _ _) := Mk.call H3.out hb1
  obtain ⟨x1, y1, z1⟩ := HX1.out.all
  clear hb1
  go_wp2_with fail
  refine (allPlaces_any mark hm _ _ lo hi H11.out).mono ?_
  rintro e w2 ⟨rfl, hb2⟩
  have HX2 : Hid (Box w2 w.heap.size #[.slice a0 n0 c0, .slice a1 n1 c1, .slice a2 n2 c2, .slice a3 n3 c3, .int .i64 mark] 80) := HX1.out.call hb2
  have HB2 : Hid (Below w.heap.size w w2) := Below.step hb2 HB1.out HB1.out.size
  have H22 : Hid (Mk _ _ _ _ _ _ _) := Mk.call H21.out hb2
  have H32 : Hid (Mk _ _ _ _ _ _ _) := Mk.call H31.out hb2
  clear hb2 x1 y1 z1
  obtain ⟨x1, y1, z1⟩ := HX2.out.all
  go_wp2_with fail
  refine (allPlaces_any mark hm _ _ lo hi H22.out).mono ?_
  rintro e w3 ⟨rfl, hb3⟩
  have HX3 : Hid (Box w3 w.heap.size #[.slice a0 n0 c0, .slice a1 n1 c1, .slice a2 n2 c2, .slice a3 n3 c3, .int .i64 mark] 80) := HX2.out.call hb3
  have HB3 : Hid (Below w.heap.size w w3) := Below.step hb3 HB2.out HB2.out.size
  have H33 : Hid (Mk _ _ _ _ _ _ _) := Mk.call H32.out hb3
  clear hb3 x1 y1 z1
  obtain ⟨x1, y1, z1⟩ := HX3.out.all
  go_wp2_with fail
  refine (allPlaces_any mark hm _ _ lo hi H33.out).mono ?_
  rintro e w4 ⟨rfl, hb4⟩
  have HB4 : Hid (Below w.heap.size w w4) := Below.step hb4 HB3.out HB3.out.size
  clear hb4 x1 y1 z1
  go_wp2_with fail
  go_ret
  exact ⟨rfl, HB4.out⟩

set_option maxRecDepth 20000 in
set_option maxHeartbeats 2000000 in
theorem allFlags_any (mark : Nat) (hm : mark ≤ 1) (v : Value) (w : World) (lo hi : Nat) (h : Mk 4 1 w lo hi v [.bool (decide (mark = 0))]) :
    Calls Tryz.prog 66 #[v, .int .i64 mark] w fun e w' => e = .returned (.bool true) ∧ Below w.heap.size w w' := by
  obtain ⟨a, n, c, rfl, hn, hc⟩ := h.cells
  have HC : Hid (∀ j, j < n → ∃ g, a = some ⟨g, 0, none⟩ ∧ w.cell? ⟨g, j, none⟩ = some (.bool (decide (mark = 0)))) := hc
  clear h hc
  rcases Nat.le_one_iff_eq_zero_or_eq_one.1 hm with rfl | rfl
  all_goals
    go_enter Tryz.func66, Tryz.ntmps66
    go_wp2
    go_loopw [5] (fun i W => ∃ k : Nat, k ≤ n ∧ i = .int .i64 k ∧ Below w.heap.size w W) (fun i _ => n - (intOf i).toNat)
    case atStart => exact ⟨0, Nat.zero_le _, rfl, Below.refl _ _⟩
    case round =>
      obtain ⟨k, hk, rfl, hB⟩ := hrel
      have HB : Hid (Below w.heap.size w wr) := hB
      clear hB
      by_cases hlt : k < n
      · obtain ⟨g, rfl, hc⟩ := HC.out k hlt
        have e0 := (Keeps.of_below HB.out) _ _ _ hc
        have lg := cell_lt e0
        have hi0 : (0 : Int) ≤ (k : Int) := by omega
        have hi1 : (k : Int) < (n : Int) := by omega
        clear hc
        go_wp2_with fail
        go_roundw
        case rel => exact ⟨k + 1, by omega, by go_num, HB.out⟩
        case measure => simp [intOf]; omega
      · go_wp2_with fail
        go_ret
        exact ⟨rfl, HB.out⟩

set_option maxRecDepth 20000 in
set_option maxHeartbeats 2000000 in
theorem stillFlags_any (mark : Nat) (hm : mark ≤ 1) (v0 v1 v2 v3 : Value) (w : World) (lo hi : Nat) (h0 : Mk 4 1 w lo hi v0 [.bool (decide (mark = 0))]) (h1 : Mk 4 1 w lo hi v1 [.bool (decide (mark = 0))]) (h2 : Mk 4 1 w lo hi v2 [.bool (decide (mark = 0))]) (h3 : Mk 4 1 w lo hi v3 [.bool (decide (mark = 0))]) :
    Calls Tryz.prog 48 #[.agg #[v0, v1, v2, v3, .int .i64 mark]] w fun e w' => e = .returned (.bool true) ∧ Below w.heap.size w w' := by
  obtain ⟨a0, n0, c0, rfl⟩ := h0.shape
  obtain ⟨a1, n1, c1, rfl⟩ := h1.shape
  obtain ⟨a2, n2, c2, rfl⟩ := h2.shape
  obtain ⟨a3, n3, c3, rfl⟩ := h3.shape
  have hb0 : Below w.heap.size w (w.alloc (.cells #[.slice a0 n0 c0, .slice a1 n1 c1, .slice a2 n2 c2, .slice a3 n3 c3, .int .i64 mark] 120)) := (Below.refl _ _).alloc (Nat.le_refl _) _
  have HB0 : Hid _ := hb0
  have HX : Hid (Box (w.alloc (.cells #[.slice a0 n0 c0, .slice a1 n1 c1, .slice a2 n2 c2, .slice a3 n3 c3, .int .i64 mark] 120)) w.heap.size #[.slice a0 n0 c0, .slice a1 n1 c1, .slice a2 n2 c2, .slice a3 n3 c3, .int .i64 mark] 120) := Box.new _ _ _
  have H0 : Hid _ := h0.call hb0
  have H1 : Hid _ := h1.call hb0
  have H2 : Hid _ := h2.call hb0
  have H3 : Hid _ := h3.call hb0
  clear h0 h1 h2 h3 hb0
  go_enter Tryz.func48, Tryz.ntmps48
  go_wp2_with fail
  generalize w.alloc (.cells #[.slice a0 n0 c0, .slice a1 n1 c1, .slice a2 n2 c2, .slice a3 n3 c3, .int .i64 mark] 120) = wA at *
  refine (allFlags_any mark hm _ _ lo hi H0.out).mono ?_
  rintro e w1 ⟨rfl, hb1⟩
  have HX1 : Hid (Box w1 w.heap.size #[.slice a0 n0 c0, .slice a1 n1 c1, .slice a2 n2 c2, .slice a3 n3 c3, .int .i64 mark] 120) := HX.out.call hb1
  have HB1 : Hid (Below w.heap.size w w1) := Below.step hb1 HB0.out HB0.out.size
  have H11 : Hid (Mk _ _ _ _ _ _ _) := Mk.call H1.out hb1
  have H21 : Hid (Mk _ _ _ _ _ _ _) := Mk.call H2.out hb1
  have H31 : Hid (Mk _ _ _ _ _ _ _) := Mk.call H3.out hb1
  obtain ⟨x1, y1, z1⟩ := HX1.out.all
  clear hb1
  go_wp2_with fail
  refine (allFlags_any mark hm _ _ lo hi H11.out).mono ?_
  rintro e w2 ⟨rfl, hb2⟩
  have HX2 : Hid (Box w2 w.heap.size #[.slice a0 n0 c0, .slice a1 n1 c1, .slice a2 n2 c2, .slice a3 n3 c3, .int .i64 mark] 120) := HX1.out.call hb2
  have HB2 : Hid (Below w.heap.size w w2) := Below.step hb2 HB1.out HB1.out.size
  have H22 : Hid (Mk _ _ _ _ _ _ _) := Mk.call H21.out hb2
  have H32 : Hid (Mk _ _ _ _ _ _ _) := Mk.call H31.out hb2
  clear hb2 x1 y1 z1
  obtain ⟨x1, y1, z1⟩ := HX2.out.all
  go_wp2_with fail
  refine (allFlags_any mark hm _ _ lo hi H22.out).mono ?_
  rintro e w3 ⟨rfl, hb3⟩
  have HX3 : Hid (Box w3 w.heap.size #[.slice a0 n0 c0, .slice a1 n1 c1, .slice a2 n2 c2, .slice a3 n3 c3, .int .i64 mark] 120) := HX2.out.call hb3
  have HB3 : Hid (Below w.heap.size w w3) := Below.step hb3 HB2.out HB2.out.size
  have H33 : Hid (Mk _ _ _ _ _ _ _) := Mk.call H32.out hb3
  clear hb3 x1 y1 z1
  obtain ⟨x1, y1, z1⟩ := HX3.out.all
  go_wp2_with fail
  refine (allFlags_any mark hm _ _ lo hi H33.out).mono ?_
  rintro e w4 ⟨rfl, hb4⟩
  have HB4 : Hid (Below w.heap.size w w4) := Below.step hb4 HB3.out HB3.out.size
  clear hb4 x1 y1 z1
  go_wp2_with fail
  go_ret
  exact ⟨rfl, HB4.out⟩

set_option maxRecDepth 20000 in
set_option maxHeartbeats 2000000 in
theorem allWords_any (mark : Nat) (hm : mark ≤ 1000000000000) (v : Value) (w : World) (lo hi : Nat) (B : Nat) (hTB : B ≤ w.heap.size) (hT : TabB B w) (h : Mk 9 1 w lo hi v [.string (labelOf mark)]) :
    Calls Tryz.prog 50 #[v, .int .i64 mark] w fun e w' => e = .returned (.bool true) ∧ Below w.heap.size w w' := by
  obtain ⟨a, n, c, rfl, hn, hc⟩ := h.cells
  have HC : Hid (∀ j, j < n → ∃ g, a = some ⟨g, 0, none⟩ ∧ w.cell? ⟨g, j, none⟩ = some (.string (labelOf mark))) := hc
  clear h hc
  have HT : Hid (TabB B w) := hT
  clear hT
  go_enter Tryz.func50, Tryz.ntmps50
  go_wp2
  go_loopw [5] (fun i W => ∃ k : Nat, k ≤ n ∧ i = .int .i64 k ∧ Below w.heap.size w W) (fun i _ => n - (intOf i).toNat)
  case atStart => exact ⟨0, Nat.zero_le _, rfl, Below.refl _ _⟩
  case round =>
    obtain ⟨k, hk, rfl, hB⟩ := hrel
    have HB : Hid (Below w.heap.size w wr) := hB
    clear hB
    by_cases hlt : k < n
    · obtain ⟨g, rfl, hc⟩ := HC.out k hlt
      have e0 := (Keeps.of_below HB.out) _ _ _ hc
      have lg := cell_lt e0
      have hi0 : (0 : Int) ≤ (k : Int) := by omega
      have hi1 : (k : Int) < (n : Int) := by omega
      clear hc
      have HT2 : Hid (Tab wr.drew) := (HT.out.on (HB.out.mono hTB).drew).here
      go_upto_region 4 with fail
      go_region_held3 (fun W => W.cell? ⟨g, k, none⟩ = some (.string (labelOf mark)))
        (first | (go_keep; done) | exact (Keeps.of_below hb1) _ _ _ (by assumption) | exact (Keeps.of_below hb1) _ _ _ e0)
        (first | (go_at_call 67; refine (label_any mark (by omega) (by omega) _ HT2.out).mono ?_; rintro e w1 ⟨rfl, hb1⟩))
      have HB1 : Hid (Below w.heap.size w w1) := Below.step hb1 HB.out.drew (by have := HB.out.size; simp; omega)
      clear hb1
      go_wp2_with fail
      go_roundw
      case rel => exact ⟨k + 1, by omega, by go_num, HB1.out⟩
      case measure => simp [intOf]; omega
    · go_wp2_with fail
      go_ret
      exact ⟨rfl, HB.out⟩

set_option maxRecDepth 20000 in
set_option maxHeartbeats 2000000 in
theorem stillWords_any (mark : Nat) (hm : mark ≤ 1000000000000) (v0 v1 v2 v3 : Value) (w : World) (lo hi : Nat) (B : Nat) (hTB : B ≤ w.heap.size) (hT : TabB B w) (h0 : Mk 9 1 w lo hi v0 [.string (labelOf mark)]) (h1 : Mk 9 1 w lo hi v1 [.string (labelOf mark)]) (h2 : Mk 9 1 w lo hi v2 [.string (labelOf mark)]) (h3 : Mk 9 1 w lo hi v3 [.string (labelOf mark)]) :
    Calls Tryz.prog 26 #[.agg #[v0, v1, v2, v3, .int .i64 mark]] w fun e w' => e = .returned (.bool true) ∧ Below w.heap.size w w' := by
  obtain ⟨a0, n0, c0, rfl⟩ := h0.shape
  obtain ⟨a1, n1, c1, rfl⟩ := h1.shape
  obtain ⟨a2, n2, c2, rfl⟩ := h2.shape
  obtain ⟨a3, n3, c3, rfl⟩ := h3.shape
  have hb0 : Below w.heap.size w (w.alloc (.cells #[.slice a0 n0 c0, .slice a1 n1 c1, .slice a2 n2 c2, .slice a3 n3 c3, .int .i64 mark] 76)) := (Below.refl _ _).alloc (Nat.le_refl _) _
  have HB0 : Hid _ := hb0
  have HX : Hid (Box (w.alloc (.cells #[.slice a0 n0 c0, .slice a1 n1 c1, .slice a2 n2 c2, .slice a3 n3 c3, .int .i64 mark] 76)) w.heap.size #[.slice a0 n0 c0, .slice a1 n1 c1, .slice a2 n2 c2, .slice a3 n3 c3, .int .i64 mark] 76) := Box.new _ _ _
  have H0 : Hid _ := h0.call hb0
  have H1 : Hid _ := h1.call hb0
  have H2 : Hid _ := h2.call hb0
  have H3 : Hid _ := h3.call hb0
  clear h0 h1 h2 h3 hb0
  have HT : Hid (TabB B w) := hT
  clear hT
  go_enter Tryz.func26, Tryz.ntmps26
  go_wp2_with fail
  generalize w.alloc (.cells #[.slice a0 n0 c0, .slice a1 n1 c1, .slice a2 n2 c2, .slice a3 n3 c3, .int .i64 mark] 76) = wA at *
  refine (allWords_any mark hm _ _ lo hi B (Nat.le_trans hTB HB0.out.size) (HT.out.on (HB0.out.mono hTB)) H0.out).mono ?_
  rintro e w1 ⟨rfl, hb1⟩
  have HX1 : Hid (Box w1 w.heap.size #[.slice a0 n0 c0, .slice a1 n1 c1, .slice a2 n2 c2, .slice a3 n3 c3, .int .i64 mark] 76) := HX.out.call hb1
  have HB1 : Hid (Below w.heap.size w w1) := Below.step hb1 HB0.out HB0.out.size
  have H11 : Hid (Mk _ _ _ _ _ _ _) := Mk.call H1.out hb1
  have H21 : Hid (Mk _ _ _ _ _ _ _) := Mk.call H2.out hb1
  have H31 : Hid (Mk _ _ _ _ _ _ _) := Mk.call H3.out hb1
  obtain ⟨x1, y1, z1⟩ := HX1.out.all
  clear hb1
  go_wp2_with fail
  refine (allWords_any mark hm _ _ lo hi B (Nat.le_trans hTB HB1.out.size) (HT.out.on (HB1.out.mono hTB)) H11.out).mono ?_
  rintro e w2 ⟨rfl, hb2⟩
  have HX2 : Hid (Box w2 w.heap.size #[.slice a0 n0 c0, .slice a1 n1 c1, .slice a2 n2 c2, .slice a3 n3 c3, .int .i64 mark] 76) := HX1.out.call hb2
  have HB2 : Hid (Below w.heap.size w w2) := Below.step hb2 HB1.out HB1.out.size
  have H22 : Hid (Mk _ _ _ _ _ _ _) := Mk.call H21.out hb2
  have H32 : Hid (Mk _ _ _ _ _ _ _) := Mk.call H31.out hb2
  clear hb2 x1 y1 z1
  obtain ⟨x1, y1, z1⟩ := HX2.out.all
  go_wp2_with fail
  refine (allWords_any mark hm _ _ lo hi B (Nat.le_trans hTB HB2.out.size) (HT.out.on (HB2.out.mono hTB)) H22.out).mono ?_
  rintro e w3 ⟨rfl, hb3⟩
  have HX3 : Hid (Box w3 w.heap.size #[.slice a0 n0 c0, .slice a1 n1 c1, .slice a2 n2 c2, .slice a3 n3 c3, .int .i64 mark] 76) := HX2.out.call hb3
  have HB3 : Hid (Below w.heap.size w w3) := Below.step hb3 HB2.out HB2.out.size
  have H33 : Hid (Mk _ _ _ _ _ _ _) := Mk.call H32.out hb3
  clear hb3 x1 y1 z1
  obtain ⟨x1, y1, z1⟩ := HX3.out.all
  go_wp2_with fail
  refine (allWords_any mark hm _ _ lo hi B (Nat.le_trans hTB HB3.out.size) (HT.out.on (HB3.out.mono hTB)) H33.out).mono ?_
  rintro e w4 ⟨rfl, hb4⟩
  have HB4 : Hid (Below w.heap.size w w4) := Below.step hb4 HB3.out HB3.out.size
  clear hb4 x1 y1 z1
  go_wp2_with fail
  go_ret
  exact ⟨rfl, HB4.out⟩

end Go.Proofs.YtekkicgbloidkaaGreatDoor
