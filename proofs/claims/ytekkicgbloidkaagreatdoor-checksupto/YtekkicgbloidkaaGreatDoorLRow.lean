/- Copies that are lent: each list with one entry of spare room. -/
import Derived.Test.YtekkicgbloidkaaGreatDoorGrow
namespace Go.Proofs.YtekkicgbloidkaaGreatDoor
open Go Go.RowKit
attribute [local go_sem] run_eql_slice_nil

theorem app_empty {P : Program} {t e : TypeId} {z : Value} {size bytes : Nat} (E : Elem P t e z size bytes) (w : World) {ops : Array Oper} {rest : List Oper} {o : Oper} {a : Act} {Q : Exit → Act → World → Prop} (hgd : o.guard = none) (s x : Operand)
    (ho : o.op = .call { callee := .builtin .append, args := #[s, x], argTypes := #[t, t] }) (hs : a.eval s = .slice none 0 0) (ax : Option Addr) (cx : Nat) (hx : a.eval x = .slice ax 0 cx)
    (h : wpList P ops Q rest (a.put o.dst (.slice none 0 0)) w) : wpList P ops Q (o :: rest) a w := by
  obtain ⟨i, hi, hz, hsz, hby⟩ := info_parts E.hi
  refine wpList_plain hgd fun K hK' => ?_
  have hrun : (Builtin.append_ #[t, t] o.type #[.slice none 0 0, .slice ax 0 cx]).run P w = .ok (.slice none 0 0) w := by
    have hf : (Builtin.firstCells i.size 0 (.slice ax 0 cx)).run P w = .ok #[] w := by
      cases ax with
      | none => exact run_firstCells_none w i.size 0 0 cx
      | some ad => exact run_firstCells_some w i.size 0 ad 0 cx [] (by simp) (fun j v hv => by simp at hv)
    have hlen : (Builtin.lenOf (.slice ax 0 cx)).run P w = .ok 0 w := rfl
    simp [Builtin.append_, run_underlying E.ht, sizeOf, typeInfo, hi, hf, hlen]
  unfold Oper.wp
  simp [execOp, ho, resolve, invoke, builtin, hs, hx, hrun, Result.andThen]
  exact hK' _ _ h

/-- A row of one's own that is one longer than what is lent of it. -/
theorem Lent.owns {w : World} {T : TypeId} {sz base hi : Nat} {v0 : Value} {g cap n : Nat} {xs : List Value} (h : w.ownsRow base T sz (.slice (some ⟨g, 0, none⟩) (n + 1) cap) (n + 1) xs) (h0 : ∃ a c, v0 = .slice (some a) n c) (hi' : w.heap.size ≤ hi) : Lent w T sz base hi v0 (.slice (some ⟨g, 0, none⟩) n cap) n xs := by
  refine .inr ⟨h0, ?_⟩
  rcases h.2 with ⟨h1, _⟩ | ⟨g', cap', cur, hv, hb, hg, hc, hm, hs, ht⟩
  · simp at h1
  · simp only [Value.slice.injEq, Option.some.injEq, Addr.mk.injEq, and_true, true_and] at hv
    obtain ⟨rfl, rfl⟩ := hv
    exact ⟨g, cap, cur, rfl, hb, Nat.lt_of_lt_of_le (Box.lt (show Box w g cur T from hg)) hi', hg, hc, hm, hs, ht⟩

set_option maxRecDepth 20000 in
set_option maxHeartbeats 2000000 in
theorem ints64_any (l : List Int) (v : Value) (w : World) (hv : RSl w 1 RI64 v l) (hsm : l.length ≤ 2000000) :
    Calls Tryz.prog 29 #[v] w fun e w' => ∃ v', e = .returned v' ∧ Lent w' 2 1 w.heap.size w'.heap.size v v' l.length (l.flatMap flInt ++ [.int .i64 (-77)]) ∧ Below w.heap.size w w' := by
  obtain ⟨ao, cap, rfl, hl⟩ := hv.shape
  cases ao with
  | none =>
    have h0 : l.length = 0 := by
      obtain ⟨ao', cap', h1, -, hel⟩ := hv
      simp only [Value.slice.injEq] at h1
      obtain ⟨rfl, -, -⟩ := h1
      by_cases hp : 0 < l.length
      · obtain ⟨b, off, hb, -⟩ := hel 0 hp
        simp at hb
      · omega
    rw [h0]
    go_enter Tryz.func29, Tryz.ntmps29
    go_wp2
    go_ret
    exact ⟨_, rfl, .inl ⟨⟨cap, rfl⟩, rfl, rfl⟩, Below.refl _ _⟩
  | some ad =>
    by_cases hp : 0 < l.length
    · obtain ⟨b, off, ha, hcells⟩ := hv.flat flat_int hp
      simp only [Option.some.injEq] at ha
      subst ha
      have HC : Hid _ := hcells
      have HO0 : Hid (w.ownsRow w.heap.size 2 1 (.slice none 0 0) 0 []) := World.ownsRow_nil _ _ _ _
      have HB0 : Hid (Below w.heap.size w w) := Below.refl _ _
      clear hcells hv
      go_enter Tryz.func29, Tryz.ntmps29
      go_wp2_with (at_builtin; first
        | (refine app_src elem_i64 _ (by rfl) _ _ (by rfl) w.heap.size (.slice none 0 0) 0 [] (by rfl) HO0.out b off l.length cap (l.flatMap flInt) (by rfl) (flat_length _ _ (Flat.len flat_int) _) HC.out (flat_one flat_int _) hp (by omega) (by omega) (Nat.le_refl _) w.heap.size rfl ?_; intro g3 cap3 w3 hown3 hg3 hat3 hlt3
           have HB3 : Hid (Below w.heap.size w w3) := HB0.out.grown hg3 (Nat.le_refl _) (fun g hg => by simp [Value.ownBlock] at hg)
           have HO3 : Hid ((w3.alloc (.cells #[.int .i64 (-77)] 2)).ownsRow w.heap.size 2 1 (.slice (some ⟨g3, 0, none⟩) l.length cap3) l.length (l.flatMap flInt)) := by
             have := hown3.alloc (.cells #[.int .i64 (-77)] 2)
             unfold Hid; simpa using this
           have HS3 : Hid ((w3.alloc (.cells #[.int .i64 (-77)] 2)).heap.size = w3.heap.size + 1) := by unfold Hid; simp
           have HS4 : Hid (w.heap.size ≤ (w3.alloc (.cells #[.int .i64 (-77)] 2)).heap.size) := by have := HB3.out.size; unfold Hid; simp; omega
           have HN3 : Hid (∀ j u, ([.int .i64 (-77)] : List Value)[j]? = some u → (w3.alloc (.cells #[.int .i64 (-77)] 2)).cell? ⟨w3.heap.size, j, none⟩ = some u) := fun j u hu => by
             rw [(Box.new w3 #[.int .i64 (-77)] 2).rules.1 j, ← Array.getElem?_toList]; exact hu
           rw [show 0 + l.length = l.length by omega]
           clear hg3 hown3 hat3 hlt3)
        | (refine app_one elem_i64 _ (by rfl) _ _ (by rfl) w.heap.size (.slice (some ⟨g3, 0, none⟩) l.length cap3) l.length (l.flatMap flInt) (by rfl) HO3.out w3.heap.size 1 1 [.int .i64 (-77)] (by rfl) rfl HN3.out (by simp [Value.oneCell']) (by omega) (by omega) (by omega) HS4.out (w3.heap.size + 1) HS3.out ?_; intro g4 cap4 w4 hown4 hg4 hat4 hlt4
           have HB4 : Hid (Below w.heap.size w w4) := (HB3.out.alloc HB3.out.size _).grown hg4 HS4.out (fun g hg => (HO3.out.lt g hg).1)
           have HO4 : Hid (w4.ownsRow w.heap.size 2 1 (.slice (some ⟨g4, 0, none⟩) (l.length + 1) cap4) (l.length + 1) (l.flatMap flInt ++ [.int .i64 (-77)])) := hown4
           have hc4 : l.length + 1 ≤ cap4 := by
             rcases hown4.2 with ⟨h1, _⟩ | ⟨g', cap', cur, hv, hb, hg, hc, hm, hs, ht⟩
             · simp at h1
             · simp only [Value.slice.injEq, Option.some.injEq, Addr.mk.injEq, and_true, true_and] at hv
               obtain ⟨rfl, rfl⟩ := hv; exact hc
           clear hg4 hown4 hat4 hlt4))
      go_ret
      exact ⟨_, rfl, Lent.owns HO4.out ⟨_, _, rfl⟩ (Nat.le_refl _), HB4.out⟩
    · have h0 : l = [] := List.eq_nil_of_length_eq_zero (by omega)
      subst h0
      have HO3 : Hid ((w.alloc (.cells #[.int .i64 (-77)] 2)).ownsRow w.heap.size 2 1 (.slice none 0 0) 0 []) := World.ownsRow_nil _ _ _ _
      have HS3 : Hid ((w.alloc (.cells #[.int .i64 (-77)] 2)).heap.size = w.heap.size + 1) := by unfold Hid; simp
      have HS4 : Hid (w.heap.size ≤ (w.alloc (.cells #[.int .i64 (-77)] 2)).heap.size) := by unfold Hid; simp
      have HN3 : Hid (∀ j u, ([.int .i64 (-77)] : List Value)[j]? = some u → (w.alloc (.cells #[.int .i64 (-77)] 2)).cell? ⟨w.heap.size, j, none⟩ = some u) := fun j u hu => by
        rw [(Box.new w #[.int .i64 (-77)] 2).rules.1 j, ← Array.getElem?_toList]; exact hu
      simp only [List.length_nil, List.flatMap_nil, List.nil_append]
      clear hv hl hsm hp
      go_enter Tryz.func29, Tryz.ntmps29
      go_wp2_with (at_builtin; first
        | (refine app_empty elem_i64 _ (by rfl) _ _ (by rfl) (by rfl) (some ad) cap (by rfl) ?_)
        | (refine app_one elem_i64 _ (by rfl) _ _ (by rfl) w.heap.size (.slice none 0 0) 0 [] (by rfl) HO3.out w.heap.size 1 1 [.int .i64 (-77)] (by rfl) rfl HN3.out (by simp [Value.oneCell']) (by omega) (by omega) (by omega) HS4.out (w.heap.size + 1) HS3.out ?_; intro g4 cap4 w4 hown4 hg4 hat4 hlt4
           have HB4 : Hid (Below w.heap.size w w4) := ((Below.refl _ _).alloc (Nat.le_refl _) _).grown hg4 HS4.out (fun g hg => by simp [Value.ownBlock] at hg)
           have HO4 : Hid (w4.ownsRow w.heap.size 2 1 (.slice (some ⟨g4, 0, none⟩) (0 + 1) cap4) (0 + 1) [.int .i64 (-77)]) := hown4
           have hc4 : 1 ≤ cap4 := by
             rcases hown4.2 with ⟨h1, _⟩ | ⟨g', cap', cur, hv, hb, hg, hc, hm, hs, ht⟩
             · simp at h1
             · simp only [Value.slice.injEq, Option.some.injEq, Addr.mk.injEq, and_true, true_and] at hv
               obtain ⟨rfl, rfl⟩ := hv; exact hc
           clear hg4 hown4 hat4 hlt4))
      go_ret
      exact ⟨_, rfl, Lent.owns HO4.out ⟨_, _, rfl⟩ (Nat.le_refl _), HB4.out⟩

set_option maxRecDepth 20000 in
set_option maxHeartbeats 2000000 in
theorem strs_any (l : List ByteArray) (v : Value) (w : World) (hv : RSl w 1 RStr v l) (hsm : l.length ≤ 2000000) :
    Calls Tryz.prog 30 #[v] w fun e w' => ∃ v', e = .returned v' ∧ Lent w' 9 1 w.heap.size w'.heap.size v v' l.length (l.flatMap flStr ++ [.string ⟨#[115, 112, 97, 114, 101]⟩]) ∧ Below w.heap.size w w' := by
  obtain ⟨ao, cap, rfl, hl⟩ := hv.shape
  cases ao with
  | none =>
    have h0 : l.length = 0 := by
      obtain ⟨ao', cap', h1, -, hel⟩ := hv
      simp only [Value.slice.injEq] at h1
      obtain ⟨rfl, -, -⟩ := h1
      by_cases hp : 0 < l.length
      · obtain ⟨b, off, hb, -⟩ := hel 0 hp
        simp at hb
      · omega
    rw [h0]
    go_enter Tryz.func30, Tryz.ntmps30
    go_wp2
    go_ret
    exact ⟨_, rfl, .inl ⟨⟨cap, rfl⟩, rfl, rfl⟩, Below.refl _ _⟩
  | some ad =>
    by_cases hp : 0 < l.length
    · obtain ⟨b, off, ha, hcells⟩ := hv.flat flat_str hp
      simp only [Option.some.injEq] at ha
      subst ha
      have HC : Hid _ := hcells
      have HO0 : Hid (w.ownsRow w.heap.size 9 1 (.slice none 0 0) 0 []) := World.ownsRow_nil _ _ _ _
      have HB0 : Hid (Below w.heap.size w w) := Below.refl _ _
      clear hcells hv
      go_enter Tryz.func30, Tryz.ntmps30
      go_wp2_with (at_builtin; first
        | (refine app_src elem_str _ (by rfl) _ _ (by rfl) w.heap.size (.slice none 0 0) 0 [] (by rfl) HO0.out b off l.length cap (l.flatMap flStr) (by rfl) (flat_length _ _ (Flat.len flat_str) _) HC.out (flat_one flat_str _) hp (by omega) (by omega) (Nat.le_refl _) w.heap.size rfl ?_; intro g3 cap3 w3 hown3 hg3 hat3 hlt3
           have HB3 : Hid (Below w.heap.size w w3) := HB0.out.grown hg3 (Nat.le_refl _) (fun g hg => by simp [Value.ownBlock] at hg)
           have HO3 : Hid ((w3.alloc (.cells #[.string ⟨#[115, 112, 97, 114, 101]⟩] 9)).ownsRow w.heap.size 9 1 (.slice (some ⟨g3, 0, none⟩) l.length cap3) l.length (l.flatMap flStr)) := by
             have := hown3.alloc (.cells #[.string ⟨#[115, 112, 97, 114, 101]⟩] 9)
             unfold Hid; simpa using this
           have HS3 : Hid ((w3.alloc (.cells #[.string ⟨#[115, 112, 97, 114, 101]⟩] 9)).heap.size = w3.heap.size + 1) := by unfold Hid; simp
           have HS4 : Hid (w.heap.size ≤ (w3.alloc (.cells #[.string ⟨#[115, 112, 97, 114, 101]⟩] 9)).heap.size) := by have := HB3.out.size; unfold Hid; simp; omega
           have HN3 : Hid (∀ j u, ([.string ⟨#[115, 112, 97, 114, 101]⟩] : List Value)[j]? = some u → (w3.alloc (.cells #[.string ⟨#[115, 112, 97, 114, 101]⟩] 9)).cell? ⟨w3.heap.size, j, none⟩ = some u) := fun j u hu => by
             rw [(Box.new w3 #[.string ⟨#[115, 112, 97, 114, 101]⟩] 9).rules.1 j, ← Array.getElem?_toList]; exact hu
           rw [show 0 + l.length = l.length by omega]
           clear hg3 hown3 hat3 hlt3)
        | (refine app_one elem_str _ (by rfl) _ _ (by rfl) w.heap.size (.slice (some ⟨g3, 0, none⟩) l.length cap3) l.length (l.flatMap flStr) (by rfl) HO3.out w3.heap.size 1 1 [.string ⟨#[115, 112, 97, 114, 101]⟩] (by rfl) rfl HN3.out (by simp [Value.oneCell']) (by omega) (by omega) (by omega) HS4.out (w3.heap.size + 1) HS3.out ?_; intro g4 cap4 w4 hown4 hg4 hat4 hlt4
           have HB4 : Hid (Below w.heap.size w w4) := (HB3.out.alloc HB3.out.size _).grown hg4 HS4.out (fun g hg => (HO3.out.lt g hg).1)
           have HO4 : Hid (w4.ownsRow w.heap.size 9 1 (.slice (some ⟨g4, 0, none⟩) (l.length + 1) cap4) (l.length + 1) (l.flatMap flStr ++ [.string ⟨#[115, 112, 97, 114, 101]⟩])) := hown4
           have hc4 : l.length + 1 ≤ cap4 := by
             rcases hown4.2 with ⟨h1, _⟩ | ⟨g', cap', cur, hv, hb, hg, hc, hm, hs, ht⟩
             · simp at h1
             · simp only [Value.slice.injEq, Option.some.injEq, Addr.mk.injEq, and_true, true_and] at hv
               obtain ⟨rfl, rfl⟩ := hv; exact hc
           clear hg4 hown4 hat4 hlt4))
      go_ret
      exact ⟨_, rfl, Lent.owns HO4.out ⟨_, _, rfl⟩ (Nat.le_refl _), HB4.out⟩
    · have h0 : l = [] := List.eq_nil_of_length_eq_zero (by omega)
      subst h0
      have HO3 : Hid ((w.alloc (.cells #[.string ⟨#[115, 112, 97, 114, 101]⟩] 9)).ownsRow w.heap.size 9 1 (.slice none 0 0) 0 []) := World.ownsRow_nil _ _ _ _
      have HS3 : Hid ((w.alloc (.cells #[.string ⟨#[115, 112, 97, 114, 101]⟩] 9)).heap.size = w.heap.size + 1) := by unfold Hid; simp
      have HS4 : Hid (w.heap.size ≤ (w.alloc (.cells #[.string ⟨#[115, 112, 97, 114, 101]⟩] 9)).heap.size) := by unfold Hid; simp
      have HN3 : Hid (∀ j u, ([.string ⟨#[115, 112, 97, 114, 101]⟩] : List Value)[j]? = some u → (w.alloc (.cells #[.string ⟨#[115, 112, 97, 114, 101]⟩] 9)).cell? ⟨w.heap.size, j, none⟩ = some u) := fun j u hu => by
        rw [(Box.new w #[.string ⟨#[115, 112, 97, 114, 101]⟩] 9).rules.1 j, ← Array.getElem?_toList]; exact hu
      simp only [List.length_nil, List.flatMap_nil, List.nil_append]
      clear hv hl hsm hp
      go_enter Tryz.func30, Tryz.ntmps30
      go_wp2_with (at_builtin; first
        | (refine app_empty elem_str _ (by rfl) _ _ (by rfl) (by rfl) (some ad) cap (by rfl) ?_)
        | (refine app_one elem_str _ (by rfl) _ _ (by rfl) w.heap.size (.slice none 0 0) 0 [] (by rfl) HO3.out w.heap.size 1 1 [.string ⟨#[115, 112, 97, 114, 101]⟩] (by rfl) rfl HN3.out (by simp [Value.oneCell']) (by omega) (by omega) (by omega) HS4.out (w.heap.size + 1) HS3.out ?_; intro g4 cap4 w4 hown4 hg4 hat4 hlt4
           have HB4 : Hid (Below w.heap.size w w4) := ((Below.refl _ _).alloc (Nat.le_refl _) _).grown hg4 HS4.out (fun g hg => by simp [Value.ownBlock] at hg)
           have HO4 : Hid (w4.ownsRow w.heap.size 9 1 (.slice (some ⟨g4, 0, none⟩) (0 + 1) cap4) (0 + 1) [.string ⟨#[115, 112, 97, 114, 101]⟩]) := hown4
           have hc4 : 1 ≤ cap4 := by
             rcases hown4.2 with ⟨h1, _⟩ | ⟨g', cap', cur, hv, hb, hg, hc, hm, hs, ht⟩
             · simp at h1
             · simp only [Value.slice.injEq, Option.some.injEq, Addr.mk.injEq, and_true, true_and] at hv
               obtain ⟨rfl, rfl⟩ := hv; exact hc
           clear hg4 hown4 hat4 hlt4))
      go_ret
      exact ⟨_, rfl, Lent.owns HO4.out ⟨_, _, rfl⟩ (Nat.le_refl _), HB4.out⟩

set_option maxRecDepth 20000 in
set_option maxHeartbeats 2000000 in
theorem bools_any (l : List Bool) (v : Value) (w : World) (hv : RSl w 1 RBool v l) (hsm : l.length ≤ 2000000) :
    Calls Tryz.prog 31 #[v] w fun e w' => ∃ v', e = .returned v' ∧ Lent w' 4 1 w.heap.size w'.heap.size v v' l.length (l.flatMap flBool ++ [.bool true]) ∧ Below w.heap.size w w' := by
  obtain ⟨ao, cap, rfl, hl⟩ := hv.shape
  cases ao with
  | none =>
    have h0 : l.length = 0 := by
      obtain ⟨ao', cap', h1, -, hel⟩ := hv
      simp only [Value.slice.injEq] at h1
      obtain ⟨rfl, -, -⟩ := h1
      by_cases hp : 0 < l.length
      · obtain ⟨b, off, hb, -⟩ := hel 0 hp
        simp at hb
      · omega
    rw [h0]
    go_enter Tryz.func31, Tryz.ntmps31
    go_wp2
    go_ret
    exact ⟨_, rfl, .inl ⟨⟨cap, rfl⟩, rfl, rfl⟩, Below.refl _ _⟩
  | some ad =>
    by_cases hp : 0 < l.length
    · obtain ⟨b, off, ha, hcells⟩ := hv.flat flat_bool hp
      simp only [Option.some.injEq] at ha
      subst ha
      have HC : Hid _ := hcells
      have HO0 : Hid (w.ownsRow w.heap.size 4 1 (.slice none 0 0) 0 []) := World.ownsRow_nil _ _ _ _
      have HB0 : Hid (Below w.heap.size w w) := Below.refl _ _
      clear hcells hv
      go_enter Tryz.func31, Tryz.ntmps31
      go_wp2_with (at_builtin; first
        | (refine app_src elem_bool _ (by rfl) _ _ (by rfl) w.heap.size (.slice none 0 0) 0 [] (by rfl) HO0.out b off l.length cap (l.flatMap flBool) (by rfl) (flat_length _ _ (Flat.len flat_bool) _) HC.out (flat_one flat_bool _) hp (by omega) (by omega) (Nat.le_refl _) w.heap.size rfl ?_; intro g3 cap3 w3 hown3 hg3 hat3 hlt3
           have HB3 : Hid (Below w.heap.size w w3) := HB0.out.grown hg3 (Nat.le_refl _) (fun g hg => by simp [Value.ownBlock] at hg)
           have HO3 : Hid ((w3.alloc (.cells #[.bool true] 4)).ownsRow w.heap.size 4 1 (.slice (some ⟨g3, 0, none⟩) l.length cap3) l.length (l.flatMap flBool)) := by
             have := hown3.alloc (.cells #[.bool true] 4)
             unfold Hid; simpa using this
           have HS3 : Hid ((w3.alloc (.cells #[.bool true] 4)).heap.size = w3.heap.size + 1) := by unfold Hid; simp
           have HS4 : Hid (w.heap.size ≤ (w3.alloc (.cells #[.bool true] 4)).heap.size) := by have := HB3.out.size; unfold Hid; simp; omega
           have HN3 : Hid (∀ j u, ([.bool true] : List Value)[j]? = some u → (w3.alloc (.cells #[.bool true] 4)).cell? ⟨w3.heap.size, j, none⟩ = some u) := fun j u hu => by
             rw [(Box.new w3 #[.bool true] 4).rules.1 j, ← Array.getElem?_toList]; exact hu
           rw [show 0 + l.length = l.length by omega]
           clear hg3 hown3 hat3 hlt3)
        | (refine app_one elem_bool _ (by rfl) _ _ (by rfl) w.heap.size (.slice (some ⟨g3, 0, none⟩) l.length cap3) l.length (l.flatMap flBool) (by rfl) HO3.out w3.heap.size 1 1 [.bool true] (by rfl) rfl HN3.out (by simp [Value.oneCell']) (by omega) (by omega) (by omega) HS4.out (w3.heap.size + 1) HS3.out ?_; intro g4 cap4 w4 hown4 hg4 hat4 hlt4
           have HB4 : Hid (Below w.heap.size w w4) := (HB3.out.alloc HB3.out.size _).grown hg4 HS4.out (fun g hg => (HO3.out.lt g hg).1)
           have HO4 : Hid (w4.ownsRow w.heap.size 4 1 (.slice (some ⟨g4, 0, none⟩) (l.length + 1) cap4) (l.length + 1) (l.flatMap flBool ++ [.bool true])) := hown4
           have hc4 : l.length + 1 ≤ cap4 := by
             rcases hown4.2 with ⟨h1, _⟩ | ⟨g', cap', cur, hv, hb, hg, hc, hm, hs, ht⟩
             · simp at h1
             · simp only [Value.slice.injEq, Option.some.injEq, Addr.mk.injEq, and_true, true_and] at hv
               obtain ⟨rfl, rfl⟩ := hv; exact hc
           clear hg4 hown4 hat4 hlt4))
      go_ret
      exact ⟨_, rfl, Lent.owns HO4.out ⟨_, _, rfl⟩ (Nat.le_refl _), HB4.out⟩
    · have h0 : l = [] := List.eq_nil_of_length_eq_zero (by omega)
      subst h0
      have HO3 : Hid ((w.alloc (.cells #[.bool true] 4)).ownsRow w.heap.size 4 1 (.slice none 0 0) 0 []) := World.ownsRow_nil _ _ _ _
      have HS3 : Hid ((w.alloc (.cells #[.bool true] 4)).heap.size = w.heap.size + 1) := by unfold Hid; simp
      have HS4 : Hid (w.heap.size ≤ (w.alloc (.cells #[.bool true] 4)).heap.size) := by unfold Hid; simp
      have HN3 : Hid (∀ j u, ([.bool true] : List Value)[j]? = some u → (w.alloc (.cells #[.bool true] 4)).cell? ⟨w.heap.size, j, none⟩ = some u) := fun j u hu => by
        rw [(Box.new w #[.bool true] 4).rules.1 j, ← Array.getElem?_toList]; exact hu
      simp only [List.length_nil, List.flatMap_nil, List.nil_append]
      clear hv hl hsm hp
      go_enter Tryz.func31, Tryz.ntmps31
      go_wp2_with (at_builtin; first
        | (refine app_empty elem_bool _ (by rfl) _ _ (by rfl) (by rfl) (some ad) cap (by rfl) ?_)
        | (refine app_one elem_bool _ (by rfl) _ _ (by rfl) w.heap.size (.slice none 0 0) 0 [] (by rfl) HO3.out w.heap.size 1 1 [.bool true] (by rfl) rfl HN3.out (by simp [Value.oneCell']) (by omega) (by omega) (by omega) HS4.out (w.heap.size + 1) HS3.out ?_; intro g4 cap4 w4 hown4 hg4 hat4 hlt4
           have HB4 : Hid (Below w.heap.size w w4) := ((Below.refl _ _).alloc (Nat.le_refl _) _).grown hg4 HS4.out (fun g hg => by simp [Value.ownBlock] at hg)
           have HO4 : Hid (w4.ownsRow w.heap.size 4 1 (.slice (some ⟨g4, 0, none⟩) (0 + 1) cap4) (0 + 1) [.bool true]) := hown4
           have hc4 : 1 ≤ cap4 := by
             rcases hown4.2 with ⟨h1, _⟩ | ⟨g', cap', cur, hv, hb, hg, hc, hm, hs, ht⟩
             · simp at h1
             · simp only [Value.slice.injEq, Option.some.injEq, Addr.mk.injEq, and_true, true_and] at hv
               obtain ⟨rfl, rfl⟩ := hv; exact hc
           clear hg4 hown4 hat4 hlt4))
      go_ret
      exact ⟨_, rfl, Lent.owns HO4.out ⟨_, _, rfl⟩ (Nat.le_refl _), HB4.out⟩

set_option maxRecDepth 20000 in
set_option maxHeartbeats 2000000 in
theorem ints_any (l : List Int) (v : Value) (w : World) (hv : RSl w 1 RI64 v l) (hsm : l.length ≤ 2000000) :
    Calls Tryz.prog 33 #[v] w fun e w' => ∃ v', e = .returned v' ∧ Lent w' 3 1 w.heap.size w'.heap.size v v' l.length (l.flatMap flInt ++ [.int .i64 (-77)]) ∧ Below w.heap.size w w' := by
  obtain ⟨ao, cap, rfl, hl⟩ := hv.shape
  cases ao with
  | none =>
    have h0 : l.length = 0 := by
      obtain ⟨ao', cap', h1, -, hel⟩ := hv
      simp only [Value.slice.injEq] at h1
      obtain ⟨rfl, -, -⟩ := h1
      by_cases hp : 0 < l.length
      · obtain ⟨b, off, hb, -⟩ := hel 0 hp
        simp at hb
      · omega
    rw [h0]
    go_enter Tryz.func33, Tryz.ntmps33
    go_wp2
    go_ret
    exact ⟨_, rfl, .inl ⟨⟨cap, rfl⟩, rfl, rfl⟩, Below.refl _ _⟩
  | some ad =>
    by_cases hp : 0 < l.length
    · obtain ⟨b, off, ha, hcells⟩ := hv.flat flat_int hp
      simp only [Option.some.injEq] at ha
      subst ha
      have HC : Hid _ := hcells
      have HO0 : Hid (w.ownsRow w.heap.size 3 1 (.slice none 0 0) 0 []) := World.ownsRow_nil _ _ _ _
      have HB0 : Hid (Below w.heap.size w w) := Below.refl _ _
      clear hcells hv
      go_enter Tryz.func33, Tryz.ntmps33
      go_wp2_with (at_builtin; first
        | (refine app_src elem_int _ (by rfl) _ _ (by rfl) w.heap.size (.slice none 0 0) 0 [] (by rfl) HO0.out b off l.length cap (l.flatMap flInt) (by rfl) (flat_length _ _ (Flat.len flat_int) _) HC.out (flat_one flat_int _) hp (by omega) (by omega) (Nat.le_refl _) w.heap.size rfl ?_; intro g3 cap3 w3 hown3 hg3 hat3 hlt3
           have HB3 : Hid (Below w.heap.size w w3) := HB0.out.grown hg3 (Nat.le_refl _) (fun g hg => by simp [Value.ownBlock] at hg)
           have HO3 : Hid ((w3.alloc (.cells #[.int .i64 (-77)] 3)).ownsRow w.heap.size 3 1 (.slice (some ⟨g3, 0, none⟩) l.length cap3) l.length (l.flatMap flInt)) := by
             have := hown3.alloc (.cells #[.int .i64 (-77)] 3)
             unfold Hid; simpa using this
           have HS3 : Hid ((w3.alloc (.cells #[.int .i64 (-77)] 3)).heap.size = w3.heap.size + 1) := by unfold Hid; simp
           have HS4 : Hid (w.heap.size ≤ (w3.alloc (.cells #[.int .i64 (-77)] 3)).heap.size) := by have := HB3.out.size; unfold Hid; simp; omega
           have HN3 : Hid (∀ j u, ([.int .i64 (-77)] : List Value)[j]? = some u → (w3.alloc (.cells #[.int .i64 (-77)] 3)).cell? ⟨w3.heap.size, j, none⟩ = some u) := fun j u hu => by
             rw [(Box.new w3 #[.int .i64 (-77)] 3).rules.1 j, ← Array.getElem?_toList]; exact hu
           rw [show 0 + l.length = l.length by omega]
           clear hg3 hown3 hat3 hlt3)
        | (refine app_one elem_int _ (by rfl) _ _ (by rfl) w.heap.size (.slice (some ⟨g3, 0, none⟩) l.length cap3) l.length (l.flatMap flInt) (by rfl) HO3.out w3.heap.size 1 1 [.int .i64 (-77)] (by rfl) rfl HN3.out (by simp [Value.oneCell']) (by omega) (by omega) (by omega) HS4.out (w3.heap.size + 1) HS3.out ?_; intro g4 cap4 w4 hown4 hg4 hat4 hlt4
           have HB4 : Hid (Below w.heap.size w w4) := (HB3.out.alloc HB3.out.size _).grown hg4 HS4.out (fun g hg => (HO3.out.lt g hg).1)
           have HO4 : Hid (w4.ownsRow w.heap.size 3 1 (.slice (some ⟨g4, 0, none⟩) (l.length + 1) cap4) (l.length + 1) (l.flatMap flInt ++ [.int .i64 (-77)])) := hown4
           have hc4 : l.length + 1 ≤ cap4 := by
             rcases hown4.2 with ⟨h1, _⟩ | ⟨g', cap', cur, hv, hb, hg, hc, hm, hs, ht⟩
             · simp at h1
             · simp only [Value.slice.injEq, Option.some.injEq, Addr.mk.injEq, and_true, true_and] at hv
               obtain ⟨rfl, rfl⟩ := hv; exact hc
           clear hg4 hown4 hat4 hlt4))
      go_ret
      exact ⟨_, rfl, Lent.owns HO4.out ⟨_, _, rfl⟩ (Nat.le_refl _), HB4.out⟩
    · have h0 : l = [] := List.eq_nil_of_length_eq_zero (by omega)
      subst h0
      have HO3 : Hid ((w.alloc (.cells #[.int .i64 (-77)] 3)).ownsRow w.heap.size 3 1 (.slice none 0 0) 0 []) := World.ownsRow_nil _ _ _ _
      have HS3 : Hid ((w.alloc (.cells #[.int .i64 (-77)] 3)).heap.size = w.heap.size + 1) := by unfold Hid; simp
      have HS4 : Hid (w.heap.size ≤ (w.alloc (.cells #[.int .i64 (-77)] 3)).heap.size) := by unfold Hid; simp
      have HN3 : Hid (∀ j u, ([.int .i64 (-77)] : List Value)[j]? = some u → (w.alloc (.cells #[.int .i64 (-77)] 3)).cell? ⟨w.heap.size, j, none⟩ = some u) := fun j u hu => by
        rw [(Box.new w #[.int .i64 (-77)] 3).rules.1 j, ← Array.getElem?_toList]; exact hu
      simp only [List.length_nil, List.flatMap_nil, List.nil_append]
      clear hv hl hsm hp
      go_enter Tryz.func33, Tryz.ntmps33
      go_wp2_with (at_builtin; first
        | (refine app_empty elem_int _ (by rfl) _ _ (by rfl) (by rfl) (some ad) cap (by rfl) ?_)
        | (refine app_one elem_int _ (by rfl) _ _ (by rfl) w.heap.size (.slice none 0 0) 0 [] (by rfl) HO3.out w.heap.size 1 1 [.int .i64 (-77)] (by rfl) rfl HN3.out (by simp [Value.oneCell']) (by omega) (by omega) (by omega) HS4.out (w.heap.size + 1) HS3.out ?_; intro g4 cap4 w4 hown4 hg4 hat4 hlt4
           have HB4 : Hid (Below w.heap.size w w4) := ((Below.refl _ _).alloc (Nat.le_refl _) _).grown hg4 HS4.out (fun g hg => by simp [Value.ownBlock] at hg)
           have HO4 : Hid (w4.ownsRow w.heap.size 3 1 (.slice (some ⟨g4, 0, none⟩) (0 + 1) cap4) (0 + 1) [.int .i64 (-77)]) := hown4
           have hc4 : 1 ≤ cap4 := by
             rcases hown4.2 with ⟨h1, _⟩ | ⟨g', cap', cur, hv, hb, hg, hc, hm, hs, ht⟩
             · simp at h1
             · simp only [Value.slice.injEq, Option.some.injEq, Addr.mk.injEq, and_true, true_and] at hv
               obtain ⟨rfl, rfl⟩ := hv; exact hc
           clear hg4 hown4 hat4 hlt4))
      go_ret
      exact ⟨_, rfl, Lent.owns HO4.out ⟨_, _, rfl⟩ (Nat.le_refl _), HB4.out⟩

set_option maxRecDepth 20000 in
set_option maxHeartbeats 2000000 in
theorem aggs_any (l : List (Int × Int)) (v : Value) (w : World) (hv : RSl w 2 RTy v l) (hsm : l.length ≤ 2000000) :
    Calls Tryz.prog 34 #[v] w fun e w' => ∃ v', e = .returned v' ∧ Lent w' 126 2 w.heap.size w'.heap.size v v' l.length (l.flatMap flTy ++ [.int .i64 (-77), .int .i64 0]) ∧ Below w.heap.size w w' := by
  obtain ⟨ao, cap, rfl, hl⟩ := hv.shape
  cases ao with
  | none =>
    have h0 : l.length = 0 := by
      obtain ⟨ao', cap', h1, -, hel⟩ := hv
      simp only [Value.slice.injEq] at h1
      obtain ⟨rfl, -, -⟩ := h1
      by_cases hp : 0 < l.length
      · obtain ⟨b, off, hb, -⟩ := hel 0 hp
        simp at hb
      · omega
    rw [h0]
    go_enter Tryz.func34, Tryz.ntmps34
    go_wp2
    go_ret
    exact ⟨_, rfl, .inl ⟨⟨cap, rfl⟩, rfl, rfl⟩, Below.refl _ _⟩
  | some ad =>
    by_cases hp : 0 < l.length
    · obtain ⟨b, off, ha, hcells⟩ := hv.flat flat_ty hp
      simp only [Option.some.injEq] at ha
      subst ha
      have HC : Hid _ := hcells
      have HO0 : Hid (w.ownsRow w.heap.size 126 2 (.slice none 0 0) 0 []) := World.ownsRow_nil _ _ _ _
      have HB0 : Hid (Below w.heap.size w w) := Below.refl _ _
      clear hcells hv
      go_enter Tryz.func34, Tryz.ntmps34
      go_wp2_with (at_builtin; first
        | (refine app_src elem_agg _ (by rfl) _ _ (by rfl) w.heap.size (.slice none 0 0) 0 [] (by rfl) HO0.out b off l.length cap (l.flatMap flTy) (by rfl) (flat_length _ _ (Flat.len flat_ty) _) HC.out (flat_one flat_ty _) hp (by omega) (by omega) (Nat.le_refl _) w.heap.size rfl ?_; intro g3 cap3 w3 hown3 hg3 hat3 hlt3
           have HB3 : Hid (Below w.heap.size w w3) := HB0.out.grown hg3 (Nat.le_refl _) (fun g hg => by simp [Value.ownBlock] at hg)
           have HO3 : Hid ((w3.alloc (.cells #[.int .i64 (-77), .int .i64 0] 126)).ownsRow w.heap.size 126 2 (.slice (some ⟨g3, 0, none⟩) l.length cap3) l.length (l.flatMap flTy)) := by
             have := hown3.alloc (.cells #[.int .i64 (-77), .int .i64 0] 126)
             unfold Hid; simpa using this
           have HS3 : Hid ((w3.alloc (.cells #[.int .i64 (-77), .int .i64 0] 126)).heap.size = w3.heap.size + 1) := by unfold Hid; simp
           have HS4 : Hid (w.heap.size ≤ (w3.alloc (.cells #[.int .i64 (-77), .int .i64 0] 126)).heap.size) := by have := HB3.out.size; unfold Hid; simp; omega
           have HN3 : Hid (∀ j u, ([.int .i64 (-77), .int .i64 0] : List Value)[j]? = some u → (w3.alloc (.cells #[.int .i64 (-77), .int .i64 0] 126)).cell? ⟨w3.heap.size, j, none⟩ = some u) := fun j u hu => by
             rw [(Box.new w3 #[.int .i64 (-77), .int .i64 0] 126).rules.1 j, ← Array.getElem?_toList]; exact hu
           rw [show 0 + l.length = l.length by omega]
           clear hg3 hown3 hat3 hlt3)
        | (refine app_one elem_agg _ (by rfl) _ _ (by rfl) w.heap.size (.slice (some ⟨g3, 0, none⟩) l.length cap3) l.length (l.flatMap flTy) (by rfl) HO3.out w3.heap.size 1 1 [.int .i64 (-77), .int .i64 0] (by rfl) rfl HN3.out (by simp [Value.oneCell']) (by omega) (by omega) (by omega) HS4.out (w3.heap.size + 1) HS3.out ?_; intro g4 cap4 w4 hown4 hg4 hat4 hlt4
           have HB4 : Hid (Below w.heap.size w w4) := (HB3.out.alloc HB3.out.size _).grown hg4 HS4.out (fun g hg => (HO3.out.lt g hg).1)
           have HO4 : Hid (w4.ownsRow w.heap.size 126 2 (.slice (some ⟨g4, 0, none⟩) (l.length + 1) cap4) (l.length + 1) (l.flatMap flTy ++ [.int .i64 (-77), .int .i64 0])) := hown4
           have hc4 : l.length + 1 ≤ cap4 := by
             rcases hown4.2 with ⟨h1, _⟩ | ⟨g', cap', cur, hv, hb, hg, hc, hm, hs, ht⟩
             · simp at h1
             · simp only [Value.slice.injEq, Option.some.injEq, Addr.mk.injEq, and_true, true_and] at hv
               obtain ⟨rfl, rfl⟩ := hv; exact hc
           clear hg4 hown4 hat4 hlt4))
      go_ret
      exact ⟨_, rfl, Lent.owns HO4.out ⟨_, _, rfl⟩ (Nat.le_refl _), HB4.out⟩
    · have h0 : l = [] := List.eq_nil_of_length_eq_zero (by omega)
      subst h0
      have HO3 : Hid ((w.alloc (.cells #[.int .i64 (-77), .int .i64 0] 126)).ownsRow w.heap.size 126 2 (.slice none 0 0) 0 []) := World.ownsRow_nil _ _ _ _
      have HS3 : Hid ((w.alloc (.cells #[.int .i64 (-77), .int .i64 0] 126)).heap.size = w.heap.size + 1) := by unfold Hid; simp
      have HS4 : Hid (w.heap.size ≤ (w.alloc (.cells #[.int .i64 (-77), .int .i64 0] 126)).heap.size) := by unfold Hid; simp
      have HN3 : Hid (∀ j u, ([.int .i64 (-77), .int .i64 0] : List Value)[j]? = some u → (w.alloc (.cells #[.int .i64 (-77), .int .i64 0] 126)).cell? ⟨w.heap.size, j, none⟩ = some u) := fun j u hu => by
        rw [(Box.new w #[.int .i64 (-77), .int .i64 0] 126).rules.1 j, ← Array.getElem?_toList]; exact hu
      simp only [List.length_nil, List.flatMap_nil, List.nil_append]
      clear hv hl hsm hp
      go_enter Tryz.func34, Tryz.ntmps34
      go_wp2_with (at_builtin; first
        | (refine app_empty elem_agg _ (by rfl) _ _ (by rfl) (by rfl) (some ad) cap (by rfl) ?_)
        | (refine app_one elem_agg _ (by rfl) _ _ (by rfl) w.heap.size (.slice none 0 0) 0 [] (by rfl) HO3.out w.heap.size 1 1 [.int .i64 (-77), .int .i64 0] (by rfl) rfl HN3.out (by simp [Value.oneCell']) (by omega) (by omega) (by omega) HS4.out (w.heap.size + 1) HS3.out ?_; intro g4 cap4 w4 hown4 hg4 hat4 hlt4
           have HB4 : Hid (Below w.heap.size w w4) := ((Below.refl _ _).alloc (Nat.le_refl _) _).grown hg4 HS4.out (fun g hg => by simp [Value.ownBlock] at hg)
           have HO4 : Hid (w4.ownsRow w.heap.size 126 2 (.slice (some ⟨g4, 0, none⟩) (0 + 1) cap4) (0 + 1) [.int .i64 (-77), .int .i64 0]) := hown4
           have hc4 : 1 ≤ cap4 := by
             rcases hown4.2 with ⟨h1, _⟩ | ⟨g', cap', cur, hv, hb, hg, hc, hm, hs, ht⟩
             · simp at h1
             · simp only [Value.slice.injEq, Option.some.injEq, Addr.mk.injEq, and_true, true_and] at hv
               obtain ⟨rfl, rfl⟩ := hv; exact hc
           clear hg4 hown4 hat4 hlt4))
      go_ret
      exact ⟨_, rfl, Lent.owns HO4.out ⟨_, _, rfl⟩ (Nat.le_refl _), HB4.out⟩

set_option maxRecDepth 20000 in
set_option maxHeartbeats 2000000 in
theorem terms_any (l : List DTerm) (v : Value) (w : World) (hv : RSl w 4 RTerm v l) (hsm : l.length ≤ 2000000) :
    Calls Tryz.prog 32 #[v] w fun e w' => ∃ v', e = .returned v' ∧ Lent w' 87 4 w.heap.size w'.heap.size v v' l.length (l.flatMap flTerm ++ [.int .i64 (-77), .int .i64 0, .int .i64 0, .string ByteArray.empty]) ∧ Below w.heap.size w w' := by
  obtain ⟨ao, cap, rfl, hl⟩ := hv.shape
  cases ao with
  | none =>
    have h0 : l.length = 0 := by
      obtain ⟨ao', cap', h1, -, hel⟩ := hv
      simp only [Value.slice.injEq] at h1
      obtain ⟨rfl, -, -⟩ := h1
      by_cases hp : 0 < l.length
      · obtain ⟨b, off, hb, -⟩ := hel 0 hp
        simp at hb
      · omega
    rw [h0]
    go_enter Tryz.func32, Tryz.ntmps32
    go_wp2
    go_ret
    exact ⟨_, rfl, .inl ⟨⟨cap, rfl⟩, rfl, rfl⟩, Below.refl _ _⟩
  | some ad =>
    by_cases hp : 0 < l.length
    · obtain ⟨b, off, ha, hcells⟩ := hv.flat flat_term hp
      simp only [Option.some.injEq] at ha
      subst ha
      have HC : Hid _ := hcells
      have HO0 : Hid (w.ownsRow w.heap.size 87 4 (.slice none 0 0) 0 []) := World.ownsRow_nil _ _ _ _
      have HB0 : Hid (Below w.heap.size w w) := Below.refl _ _
      clear hcells hv
      go_enter Tryz.func32, Tryz.ntmps32
      go_wp2_with (at_builtin; first
        | (refine app_src elem_term _ (by rfl) _ _ (by rfl) w.heap.size (.slice none 0 0) 0 [] (by rfl) HO0.out b off l.length cap (l.flatMap flTerm) (by rfl) (flat_length _ _ (Flat.len flat_term) _) HC.out (flat_one flat_term _) hp (by omega) (by omega) (Nat.le_refl _) w.heap.size rfl ?_; intro g3 cap3 w3 hown3 hg3 hat3 hlt3
           have HB3 : Hid (Below w.heap.size w w3) := HB0.out.grown hg3 (Nat.le_refl _) (fun g hg => by simp [Value.ownBlock] at hg)
           have HO3 : Hid ((w3.alloc (.cells #[.int .i64 (-77), .int .i64 0, .int .i64 0, .string ByteArray.empty] 87)).ownsRow w.heap.size 87 4 (.slice (some ⟨g3, 0, none⟩) l.length cap3) l.length (l.flatMap flTerm)) := by
             have := hown3.alloc (.cells #[.int .i64 (-77), .int .i64 0, .int .i64 0, .string ByteArray.empty] 87)
             unfold Hid; simpa using this
           have HS3 : Hid ((w3.alloc (.cells #[.int .i64 (-77), .int .i64 0, .int .i64 0, .string ByteArray.empty] 87)).heap.size = w3.heap.size + 1) := by unfold Hid; simp
           have HS4 : Hid (w.heap.size ≤ (w3.alloc (.cells #[.int .i64 (-77), .int .i64 0, .int .i64 0, .string ByteArray.empty] 87)).heap.size) := by have := HB3.out.size; unfold Hid; simp; omega
           have HN3 : Hid (∀ j u, ([.int .i64 (-77), .int .i64 0, .int .i64 0, .string ByteArray.empty] : List Value)[j]? = some u → (w3.alloc (.cells #[.int .i64 (-77), .int .i64 0, .int .i64 0, .string ByteArray.empty] 87)).cell? ⟨w3.heap.size, j, none⟩ = some u) := fun j u hu => by
             rw [(Box.new w3 #[.int .i64 (-77), .int .i64 0, .int .i64 0, .string ByteArray.empty] 87).rules.1 j, ← Array.getElem?_toList]; exact hu
           rw [show 0 + l.length = l.length by omega]
           clear hg3 hown3 hat3 hlt3)
        | (refine app_one elem_term _ (by rfl) _ _ (by rfl) w.heap.size (.slice (some ⟨g3, 0, none⟩) l.length cap3) l.length (l.flatMap flTerm) (by rfl) HO3.out w3.heap.size 1 1 [.int .i64 (-77), .int .i64 0, .int .i64 0, .string ByteArray.empty] (by rfl) rfl HN3.out (by simp [Value.oneCell']) (by omega) (by omega) (by omega) HS4.out (w3.heap.size + 1) HS3.out ?_; intro g4 cap4 w4 hown4 hg4 hat4 hlt4
           have HB4 : Hid (Below w.heap.size w w4) := (HB3.out.alloc HB3.out.size _).grown hg4 HS4.out (fun g hg => (HO3.out.lt g hg).1)
           have HO4 : Hid (w4.ownsRow w.heap.size 87 4 (.slice (some ⟨g4, 0, none⟩) (l.length + 1) cap4) (l.length + 1) (l.flatMap flTerm ++ [.int .i64 (-77), .int .i64 0, .int .i64 0, .string ByteArray.empty])) := hown4
           have hc4 : l.length + 1 ≤ cap4 := by
             rcases hown4.2 with ⟨h1, _⟩ | ⟨g', cap', cur, hv, hb, hg, hc, hm, hs, ht⟩
             · simp at h1
             · simp only [Value.slice.injEq, Option.some.injEq, Addr.mk.injEq, and_true, true_and] at hv
               obtain ⟨rfl, rfl⟩ := hv; exact hc
           clear hg4 hown4 hat4 hlt4))
      go_ret
      exact ⟨_, rfl, Lent.owns HO4.out ⟨_, _, rfl⟩ (Nat.le_refl _), HB4.out⟩
    · have h0 : l = [] := List.eq_nil_of_length_eq_zero (by omega)
      subst h0
      have HO3 : Hid ((w.alloc (.cells #[.int .i64 (-77), .int .i64 0, .int .i64 0, .string ByteArray.empty] 87)).ownsRow w.heap.size 87 4 (.slice none 0 0) 0 []) := World.ownsRow_nil _ _ _ _
      have HS3 : Hid ((w.alloc (.cells #[.int .i64 (-77), .int .i64 0, .int .i64 0, .string ByteArray.empty] 87)).heap.size = w.heap.size + 1) := by unfold Hid; simp
      have HS4 : Hid (w.heap.size ≤ (w.alloc (.cells #[.int .i64 (-77), .int .i64 0, .int .i64 0, .string ByteArray.empty] 87)).heap.size) := by unfold Hid; simp
      have HN3 : Hid (∀ j u, ([.int .i64 (-77), .int .i64 0, .int .i64 0, .string ByteArray.empty] : List Value)[j]? = some u → (w.alloc (.cells #[.int .i64 (-77), .int .i64 0, .int .i64 0, .string ByteArray.empty] 87)).cell? ⟨w.heap.size, j, none⟩ = some u) := fun j u hu => by
        rw [(Box.new w #[.int .i64 (-77), .int .i64 0, .int .i64 0, .string ByteArray.empty] 87).rules.1 j, ← Array.getElem?_toList]; exact hu
      simp only [List.length_nil, List.flatMap_nil, List.nil_append]
      clear hv hl hsm hp
      go_enter Tryz.func32, Tryz.ntmps32
      go_wp2_with (at_builtin; first
        | (refine app_empty elem_term _ (by rfl) _ _ (by rfl) (by rfl) (some ad) cap (by rfl) ?_)
        | (refine app_one elem_term _ (by rfl) _ _ (by rfl) w.heap.size (.slice none 0 0) 0 [] (by rfl) HO3.out w.heap.size 1 1 [.int .i64 (-77), .int .i64 0, .int .i64 0, .string ByteArray.empty] (by rfl) rfl HN3.out (by simp [Value.oneCell']) (by omega) (by omega) (by omega) HS4.out (w.heap.size + 1) HS3.out ?_; intro g4 cap4 w4 hown4 hg4 hat4 hlt4
           have HB4 : Hid (Below w.heap.size w w4) := ((Below.refl _ _).alloc (Nat.le_refl _) _).grown hg4 HS4.out (fun g hg => by simp [Value.ownBlock] at hg)
           have HO4 : Hid (w4.ownsRow w.heap.size 87 4 (.slice (some ⟨g4, 0, none⟩) (0 + 1) cap4) (0 + 1) [.int .i64 (-77), .int .i64 0, .int .i64 0, .string ByteArray.empty]) := hown4
           have hc4 : 1 ≤ cap4 := by
             rcases hown4.2 with ⟨h1, _⟩ | ⟨g', cap', cur, hv, hb, hg, hc, hm, hs, ht⟩
             · simp at h1
             · simp only [Value.slice.injEq, Option.some.injEq, Addr.mk.injEq, and_true, true_and] at hv
               obtain ⟨rfl, rfl⟩ := hv; exact hc
           clear hg4 hown4 hat4 hlt4))
      go_ret
      exact ⟨_, rfl, Lent.owns HO4.out ⟨_, _, rfl⟩ (Nat.le_refl _), HB4.out⟩

end Go.Proofs.YtekkicgbloidkaaGreatDoor
/- Lists of things that were lent, each in an interval of blocks of its own. Plain facts. -/
namespace Go.Proofs.YtekkicgbloidkaaGreatDoor
open Go Go.RowKit

structure LList {α : Type} (sz : Nat) (P : Nat → World → Nat → Nat → (Nat → Option Value) → α → Prop) (w : World) (xs : List Value) (l : List α) (ivs : List (Nat × Nat)) : Prop where
  lenx : xs.length = l.length * sz
  leni : ivs.length = l.length
  pw : ivs.Pairwise (fun a b => a.2 ≤ b.1)
  each : ∀ k (h : k < l.length) (h' : k < ivs.length), P k w ivs[k].1 ivs[k].2 (fun j => xs[k * sz + j]?) l[k]

/-- What stays where nothing in its interval turns; and what reads a certain number of cells. -/
structure Stays {α : Type} (sz : Nat) (P : Nat → World → Nat → Nat → (Nat → Option Value) → α → Prop) : Prop where
  only : ∀ k w w' lo hi rd x (S : Nat → Prop), Only S w w' → (∀ b, lo ≤ b → b < hi → ¬ S b) → P k w lo hi rd x → P k w' lo hi rd x
  cells : ∀ k w lo hi rd rd' x, (∀ j, j < sz → rd' j = rd j) → P k w lo hi rd x → P k w lo hi rd' x

theorem LList.nil {α : Type} (sz : Nat) (P : Nat → World → Nat → Nat → (Nat → Option Value) → α → Prop) (w : World) : LList sz P w [] ([] : List α) [] :=
  ⟨by simp, rfl, List.Pairwise.nil, fun k h => by simp at h⟩
theorem LList.only {α : Type} {sz : Nat} {P : Nat → World → Nat → Nat → (Nat → Option Value) → α → Prop} (hP : Stays sz P) {w w' : World} {xs : List Value} {l : List α} {ivs : List (Nat × Nat)} (h : LList sz P w xs l ivs) {S : Nat → Prop} (ho : Only S w w') (hs : ∀ iv ∈ ivs, ∀ b, iv.1 ≤ b → b < iv.2 → ¬ S b) : LList sz P w' xs l ivs :=
  ⟨h.lenx, h.leni, h.pw, fun k hk hk' => hP.only _ _ _ _ _ _ _ S ho (hs _ (List.getElem_mem hk')) (h.each k hk hk')⟩
theorem LList.call {α : Type} {sz : Nat} {P : Nat → World → Nat → Nat → (Nat → Option Value) → α → Prop} (hP : Stays sz P) {w w' : World} {xs : List Value} {l : List α} {ivs : List (Nat × Nat)} (h : LList sz P w xs l ivs) (hb : Below w.heap.size w w') : LList sz P w' xs l ivs :=
  h.only hP (S := fun _ => False) (Only.below hb) (fun _ _ _ _ _ => id)
theorem LList.snoc {α : Type} {sz : Nat} {P : Nat → World → Nat → Nat → (Nat → Option Value) → α → Prop} (hP : Stays sz P) {w : World} {xs : List Value} {l : List α} {ivs : List (Nat × Nat)} (h : LList sz P w xs l ivs) {cs : List Value} {x : α} {lo hi : Nat} (hc : cs.length = sz) (hlo : ∀ iv ∈ ivs, iv.2 ≤ lo) (hx : P l.length w lo hi (fun j => cs[j]?) x) : LList sz P w (xs ++ cs) (l ++ [x]) (ivs ++ [(lo, hi)]) := by
  have hlx := h.lenx
  have hli := h.leni
  refine ⟨by simp [hlx, hc, Nat.add_mul], by simp [hli], ?_, ?_⟩
  · rw [List.pairwise_append]
    refine ⟨h.pw, List.pairwise_singleton _ _, fun a ha b hb => ?_⟩
    simp only [List.mem_singleton] at hb
    subst hb; exact hlo a ha
  · intro k hk hk'
    simp only [List.length_append, List.length_singleton] at hk hk'
    by_cases hkl : k < l.length
    · rw [List.getElem_append_left hkl]
      have e1 : (ivs ++ [(lo, hi)])[k] = ivs[k]'(by omega) := List.getElem_append_left (by omega)
      rw [e1]
      refine hP.cells _ _ _ _ _ _ _ (fun j hj => ?_) (h.each k hkl (by omega))
      have : (k + 1) * sz ≤ l.length * sz := Nat.mul_le_mul_right _ hkl
      rw [Nat.add_mul] at this
      exact List.getElem?_append_left (by omega)
    · have hkk : k = l.length := by omega
      subst hkk
      have e1 : (ivs ++ [(lo, hi)])[l.length] = (lo, hi) := by rw [List.getElem_append_right (by omega)]; simp [hli]
      have e2 : (l ++ [x])[l.length] = x := by rw [List.getElem_append_right (by omega)]; simp
      rw [e1, e2]
      refine hP.cells _ _ _ _ _ _ _ (fun j hj => ?_) hx
      rw [List.getElem?_append_right (by omega)]
      congr 1; omega

/-- A list of such things in a block of its own, with one entry of spare room. -/
def LRow {α : Type} (T : TypeId) (sz : Nat) (P : Nat → World → Nat → Nat → (Nat → Option Value) → α → Prop) (w : World) (lo hi : Nat) (v : Value) (l : List α) (zs : List Value) : Prop :=
  ∃ g cap cur xs ivs, v = .slice (some ⟨g, 0, none⟩) l.length cap ∧ lo ≤ g ∧ g < hi ∧ Box w g cur T ∧ l.length + 1 ≤ cap ∧ cap ≤ 9223372036854775807 ∧ cur.size = cap * sz ∧ cur.toList.take ((l.length + 1) * sz) = xs ++ zs ∧ LList sz P w xs l ivs ∧
    (∀ iv ∈ ivs, lo ≤ iv.1 ∧ iv.2 ≤ hi ∧ ¬ (iv.1 ≤ g ∧ g < iv.2))

theorem LRow.only {α : Type} {T : TypeId} {sz : Nat} {P : Nat → World → Nat → Nat → (Nat → Option Value) → α → Prop} (hP : Stays sz P) {w w' : World} {lo hi : Nat} {v : Value} {l : List α} {zs : List Value} (h : LRow T sz P w lo hi v l zs) {S : Nat → Prop} (ho : Only S w w') (hs : ∀ b, lo ≤ b → b < hi → ¬ S b) : LRow T sz P w' lo hi v l zs := by
  obtain ⟨g, cap, cur, xs, ivs, hv, h1, h2, hb, h3, h4, h5, h6, hl, hi'⟩ := h
  exact ⟨g, cap, cur, xs, ivs, hv, h1, h2, hb.only ho (hs g h1 h2), h3, h4, h5, h6, hl.only hP ho (fun iv hiv b hb1 hb2 => hs b (by have := hi' iv hiv; omega) (by have := hi' iv hiv; omega)), hi'⟩
theorem LRow.wide {α : Type} {T : TypeId} {sz : Nat} {P : Nat → World → Nat → Nat → (Nat → Option Value) → α → Prop} {w : World} {lo hi lo' hi' : Nat} {v : Value} {l : List α} {zs : List Value} (h : LRow T sz P w lo hi v l zs) (h1 : lo' ≤ lo) (h2 : hi ≤ hi') : LRow T sz P w lo' hi' v l zs := by
  obtain ⟨g, cap, cur, xs, ivs, hv, k1, k2, hb, h3, h4, h5, h6, hl, hiv⟩ := h
  exact ⟨g, cap, cur, xs, ivs, hv, by omega, by omega, hb, h3, h4, h5, h6, hl, fun iv hm => ⟨by have := hiv iv hm; omega, by have := hiv iv hm; omega, (hiv iv hm).2.2⟩⟩
/-- A row of one's own, one longer than what is lent of it. -/
theorem LRow.owns {α : Type} {T : TypeId} {sz : Nat} {P : Nat → World → Nat → Nat → (Nat → Option Value) → α → Prop} {w : World} {lo hi g cap : Nat} {l : List α} {xs zs : List Value} {ivs : List (Nat × Nat)} (h : w.ownsRow lo T sz (.slice (some ⟨g, 0, none⟩) (l.length + 1) cap) (l.length + 1) (xs ++ zs)) (hl : LList sz P w xs l ivs) (hi' : w.heap.size ≤ hi) (hiv : ∀ iv ∈ ivs, lo ≤ iv.1 ∧ iv.2 ≤ hi ∧ ¬ (iv.1 ≤ g ∧ g < iv.2)) : LRow T sz P w lo hi (.slice (some ⟨g, 0, none⟩) l.length cap) l zs := by
  rcases h.2 with ⟨h1, _⟩ | ⟨g', cap', cur, hv, hb, hg, hc, hm, hs, ht⟩
  · simp at h1
  · simp only [Value.slice.injEq, Option.some.injEq, Addr.mk.injEq, and_true, true_and] at hv
    obtain ⟨rfl, rfl⟩ := hv
    exact ⟨g, cap, cur, xs, ivs, rfl, hb, Nat.lt_of_lt_of_le (Box.lt (show Box w g cur T from hg)) hi', hg, hc, hm, hs, ht, hl, hiv⟩
/-- Such a list reads as what it was made of. -/
theorem LRow.reads {α : Type} {T : TypeId} {sz : Nat} {P : Nat → World → Nat → Nat → (Nat → Option Value) → α → Prop} {R : World → (Nat → Option Value) → α → Prop} (hP : Stays sz P) (hR : ∀ k w lo hi rd x, P k w lo hi rd x → R w rd x) (hsz : 0 < sz) {w : World} {lo hi : Nat} {v : Value} {l : List α} {zs : List Value} (h : LRow T sz P w lo hi v l zs) : RSl w sz R v l := by
  obtain ⟨g, cap, cur, xs, ivs, rfl, h1, h2, hb, h3, h4, h5, h6, hl, hi'⟩ := h
  refine ⟨_, cap, rfl, by omega, fun i hi => ⟨g, 0, rfl, hR i _ _ _ _ _ (hP.cells _ _ _ _ (fun j => xs[i * sz + j]?) _ _ (fun j hj => ?_) (hl.each i hi (by rw [hl.leni]; exact hi)))⟩⟩
  have hlt : i * sz + j < l.length * sz := by
    have : (i + 1) * sz ≤ l.length * sz := Nat.mul_le_mul_right _ hi
    rw [Nat.add_mul] at this; omega
  rw [Nat.zero_add, hb.rules.1, ← Array.getElem?_toList]
  have e1 : (xs ++ zs)[i * sz + j]? = xs[i * sz + j]? := List.getElem?_append_left (by rw [hl.lenx]; exact hlt)
  rw [← e1, ← h6, List.getElem?_take, if_pos (by rw [Nat.add_mul]; omega)]

/-- A column that was lent. -/
def PCol (_ : Nat) (w : World) (lo hi : Nat) (rd : Nat → Option Value) (c : DCol) : Prop :=
  ∃ vi vs vn vi0 vs0 vn0, rd 0 = some (.int .i64 c.kind) ∧ rd 1 = some (.int .i64 c.scale) ∧ rd 2 = some vi ∧ rd 3 = some vs ∧ rd 4 = some vn ∧
    Lent w 2 1 lo hi vi0 vi c.ints.length (c.ints.flatMap flInt ++ [.int .i64 (-77)]) ∧
    Lent w 9 1 lo hi vs0 vs c.strs.length (c.strs.flatMap flStr ++ [.string ⟨#[115, 112, 97, 114, 101]⟩]) ∧
    Lent w 4 1 lo hi vn0 vn c.nulls.length (c.nulls.flatMap flBool ++ [.bool true]) ∧ (∀ s ∈ c.strs, s.size ≤ 9223372036854775807)
theorem stays_PCol : Stays 5 PCol := ⟨fun k w w' lo hi rd x S ho hs ⟨vi, vs, vn, a, b, c, h0, h1, h2, h3, h4, l1, l2, l3, hz⟩ => ⟨vi, vs, vn, a, b, c, h0, h1, h2, h3, h4, l1.only ho hs, l2.only ho hs, l3.only ho hs, hz⟩,
  fun k w lo hi rd rd' x hr ⟨vi, vs, vn, a, b, c, h0, h1, h2, h3, h4, l1, l2, l3, hz⟩ => ⟨vi, vs, vn, a, b, c, by rw [hr 0 (by omega)]; exact h0, by rw [hr 1 (by omega)]; exact h1, by rw [hr 2 (by omega)]; exact h2, by rw [hr 3 (by omega)]; exact h3, by rw [hr 4 (by omega)]; exact h4, l1, l2, l3, hz⟩⟩
theorem PCol.reads (k : Nat) (w : World) (lo hi : Nat) (rd : Nat → Option Value) (c : DCol) (h : PCol k w lo hi rd c) : RCol w rd c := by
  obtain ⟨vi, vs, vn, a, b, d, h0, h1, h2, h3, h4, l1, l2, l3, hz⟩ := h
  exact ⟨vi, vs, vn, h0, h1, h2, h3, h4, ⟨l1.reads flat_int (fun _ _ => trivial), l2.reads flat_str hz, l3.reads flat_bool (fun _ _ => trivial)⟩⟩
abbrev zCol : List Value := [.int .i64 (-77), .int .i64 0, .slice none 0 0, .slice none 0 0, .slice none 0 0]
/-- A table that was lent. -/
def PTab (_ : Nat) (w : World) (lo hi : Nat) (rd : Nat → Option Value) (t : List DCol) : Prop := ∃ v, rd 0 = some v ∧ LRow 67 5 PCol w lo hi v t zCol
theorem stays_PTab : Stays 1 PTab := ⟨fun k w w' lo hi rd x S ho hs ⟨v, h0, hl⟩ => ⟨v, h0, hl.only stays_PCol ho hs⟩, fun k w lo hi rd rd' x hr ⟨v, h0, hl⟩ => ⟨v, by rw [hr 0 (by omega)]; exact h0, hl⟩⟩
theorem PTab.reads (k : Nat) (w : World) (lo hi : Nat) (rd : Nat → Option Value) (t : List DCol) (h : PTab k w lo hi rd t) : RTab w rd t := by
  obtain ⟨v, h0, hl⟩ := h
  exact ⟨v, h0, hl.reads stays_PCol PCol.reads (by omega)⟩

/-- What the statement's second form bounds. -/
structure ColSm (c : DCol) : Prop where
  ints : c.ints.length ≤ 2000000
  strs : c.strs.length ≤ 2000000
  nulls : c.nulls.length ≤ 2000000
structure TabSm (t : List DCol) : Prop where
  len : t.length ≤ 2000000
  each : ∀ c ∈ t, ColSm c
structure TabsSm (ts : List (List DCol)) : Prop where
  len : ts.length ≤ 2000000
  each : ∀ t ∈ ts, TabSm t

end Go.Proofs.YtekkicgbloidkaaGreatDoor
