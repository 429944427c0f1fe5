/- The types of all nodes are types: plain facts. -/
import Derived.Test.YtekkicgbloidkaaGreatDoorRfB
import Derived.Test.YtekkicgbloidkaaGreatDoorRfF
import Derived.Test.YtekkicgbloidkaaGreatDoorSvJ
import Derived.Test.YtekkicgbloidkaaGreatDoorSvA
namespace Go.Proofs.YtekkicgbloidkaaGreatDoor
open Go Go.RowKit

def AllOk (tys : List (List (Int × Int))) : Prop := ∀ l ∈ tys, TysOk l

theorem storable_ok {t : Int × Int} (h : storable t = true) : TyOk t := by
  obtain ⟨k, s⟩ := t
  unfold storable at h
  simp only at h
  split at h
  · rename_i hk
    simp at h
    subst h
    exact .inr ⟨by rcases hk with h | h <;> simp [h], rfl⟩
  · split at h
    · rename_i hk
      subst hk
      exact scFits_ok h
    · simp at h
theorem tabTys_ok {t : List DCol} (h : rightTab t = true) : TysOk (tabTys t) := by
  intro x hx
  unfold tabTys at hx
  rw [List.mem_map] at hx
  obtain ⟨c, hc, rfl⟩ := hx
  unfold rightTab at h
  simp only [Bool.and_eq_true, List.all_eq_true] at h
  have := h.2 c hc
  unfold rightCol rightColN at this
  simp only [Bool.and_eq_true] at this
  exact storable_ok this.1.1
theorem exprRun_ok {cols : List (Int × Int)} (hc : TysOk cols) {e : List DTerm} : ∀ {st st' : List (Int × Int)}, TysOk st → exprRun cols e st = some st' → TysOk st' := by
  induction e with
  | nil => intro st st' hs h; simp only [exprRun, Option.some.injEq] at h; subst h; exact hs
  | cons t r ih =>
    intro st st' hs h
    simp only [exprRun] at h
    cases hp : exprStep cols st t with
    | none => rw [hp] at h; simp at h
    | some s => rw [hp] at h; exact ih (exprStep_ok hc hs hp).1 h
theorem exprTy_ok {cols : List (Int × Int)} (hc : TysOk cols) {e : List DTerm} (h : (exprTy e cols).2 = true) : TyOk (exprTy e cols).1 := by
  unfold exprTy at *
  by_cases hl : e.length < 1 ∨ 20 < e.length
  · rw [if_pos hl] at h; simp at h
  · rw [if_neg hl] at h ⊢
    cases hp : exprRun cols e [] with
    | none => rw [hp] at h; simp at h
    | some s =>
      rw [hp] at h
      match s, h with
      | [], h => simp at h
      | [t], _ => exact exprRun_ok hc (fun x hx => by simp at hx) hp t (by simp)
      | _ :: _ :: _, h => simp at h
theorem projRun_ok {cols : List (Int × Int)} (hc : TysOk cols) {es : List (List DTerm)} : ∀ {l : List (Int × Int)}, projRun cols es = some l → TysOk l := by
  induction es with
  | nil => intro l h; simp only [projRun, Option.some.injEq] at h; subst h; intro x hx; simp at hx
  | cons a r ih =>
    intro l h
    simp only [projRun] at h
    split at h
    · rename_i ha
      cases hp : projRun cols r with
      | none => rw [hp] at h; simp at h
      | some s =>
        rw [hp] at h
        simp only [Option.map_some, Option.some.injEq] at h
        subst h
        intro x hx
        rw [List.mem_cons] at hx
        rcases hx with rfl | hx
        · exact exprTy_ok hc ha.1
        · exact ih hp x hx
    · simp at h
theorem mapOk_ok {α : Type} {f : α → (Int × Int) × Bool} (hf : ∀ a, (f a).2 = true → TyOk (f a).1) {es : List α} : ∀ {l : List (Int × Int)}, mapOk f es = some l → TysOk l := by
  induction es with
  | nil => intro l h; simp only [mapOk, Option.some.injEq] at h; subst h; intro x hx; simp at hx
  | cons a r ih =>
    intro l h
    simp only [mapOk] at h
    split at h
    · rename_i ha
      cases hp : mapOk f r with
      | none => rw [hp] at h; simp at h
      | some s =>
        rw [hp] at h
        simp only [Option.map_some, Option.some.injEq] at h
        subst h
        intro x hx
        rw [List.mem_cons] at hx
        rcases hx with rfl | hx
        · exact hf a ha
        · exact ih hp x hx
    · simp at h
theorem aggTy_ok {cols : List (Int × Int)} (hc : TysOk cols) (g : Int × Int) (h : (aggTy g cols).2 = true) : TyOk (aggTy g cols).1 := by
  have h1 : TyOk (1, 0) := .inr ⟨.inl rfl, rfl⟩
  unfold aggTy at *
  split
  · exact h1
  · rename_i h0
    rw [if_neg h0] at h
    split
    · exact h1
    · rename_i h2
      rw [if_neg h2] at h
      split
      · rename_i h3
        rw [if_pos h3] at h
        simp only [Bool.and_eq_true] at h
        exact colAt_ok hc h.1
      · rename_i h3
        rw [if_neg h3] at h
        split
        · rename_i h4
          rw [if_pos h4] at h
          exact colAt_ok hc h
        · rename_i h4
          rw [if_neg h4] at h
          simp at h
theorem getD_ok {tys : List (List (Int × Int))} (h : AllOk tys) (p : Nat) : TysOk (tys.getD p []) := by
  by_cases hp : p < tys.length
  · rw [List.getD_eq_getElem?_getD, List.getElem?_eq_getElem hp]; exact h _ (List.getElem_mem hp)
  · rw [List.getD_eq_getElem?_getD, List.getElem?_eq_none (by omega)]; intro x hx; simp at hx
theorem colsRun_ok {n : DNode} {ts : List (List DCol)} {tys : List (List (Int × Int))} (ht : ∀ j (hj : j < ts.length), rightTab ts[j] = true) (hw : AllOk tys) {l : List (Int × Int)} (h : colsRun n ts tys = some l) : TysOk l := by
  unfold colsRun at h
  split at h
  · simp only [Option.some.injEq] at h
    subst h
    by_cases hp : n.a.toNat < ts.length
    · rw [List.getD_eq_getElem?_getD, List.getElem?_eq_getElem hp]; exact tabTys_ok (ht _ hp)
    · rw [List.getD_eq_getElem?_getD, List.getElem?_eq_none (by omega)]; intro x hx; simp [tabTys] at hx
  · split at h
    · split at h
      · simp only [Option.some.injEq] at h
        subst h; exact getD_ok hw _
      · simp at h
    · split at h
      · exact projRun_ok (getD_ok hw _) h
      · split at h
        · unfold joinRun at h
          split at h
          · simp only [Option.some.injEq] at h
            subst h
            intro x hx
            rw [List.mem_append] at hx
            rcases hx with hx | hx
            · exact getD_ok hw _ x hx
            · exact getD_ok hw _ x hx
          · simp at h
        · unfold groupRun at h
          split at h
          · simp at h
          · rename_i a ha
            split at h
            · simp at h
            · rename_i b hb
              split at h
              · simp only [Option.some.injEq] at h
                subst h
                intro x hx
                rw [List.mem_append] at hx
                rcases hx with hx | hx
                · exact mapOk_ok (f := colAt (tys.getD n.a.toNat [])) (fun a h => colAt_ok (getD_ok hw _) h) ha x hx
                · exact mapOk_ok (f := fun g => aggTy g (tys.getD n.a.toNat [])) (fun a h => aggTy_ok (getD_ok hw _) a h) hb x hx
              · simp at h

end Go.Proofs.YtekkicgbloidkaaGreatDoor
/- What the reference knows of a plan, with the memory that it owns. -/
namespace Go.Proofs.YtekkicgbloidkaaGreatDoor
open Go Go.RowKit

/-- What is known of a plan, and the memory that holds it. -/
structure ROwn (w0 w : World) (bs : Nat) (vt vn vy vk : Value) (ts : List (List DCol)) (ns : List DNode) (tys : List (List (Int × Int))) (tk : List Bool) (vals : List Value) : Prop where
  below : Below w0.heap.size w0 w
  tabs : RTabs w0 vt ts
  nodes : RNodes w0 vn ns
  bsge : w0.heap.size ≤ bs
  box : Box w bs #[vy, vk] 107
  owny : w.ownsRow w0.heap.size 104 1 vy tys.length vals
  ownk : w.ownsRow w0.heap.size 4 1 vk tk.length (tk.map .bool)
  small : tys.length ≤ 1000
  smallk : tk.length ≤ 1000
  each : ∀ j (h : j < tys.length), ∃ v, vals[j]? = some v ∧ RTys w v tys[j] ∧ BlkOf 108 w v


/-- It stays behind a call that only makes memory. -/
theorem ROwn.call {w0 w w' : World} {bs : Nat} {vt vn vy vk : Value} {ts : List (List DCol)} {ns : List DNode} {tys : List (List (Int × Int))} {tk : List Bool} {vals : List Value} (h : ROwn w0 w bs vt vn vy vk ts ns tys tk vals) (hb : Below w.heap.size w w') : ROwn w0 w' bs vt vn vy vk ts ns tys tk vals :=
  ⟨h.below.trans (hb.mono h.below.size), h.tabs, h.nodes, h.bsge, h.box.call hb, owns_call h.owny hb, owns_call h.ownk hb, h.small, h.smallk, fun j hj => let ⟨v, a, b, c⟩ := h.each j hj; ⟨v, a, RSl.mono mono_RTy (Keeps.of_below hb) b, c.call hb⟩⟩


theorem ROwn.take {w0 w : World} {bs : Nat} {vt vn vy : Value} {gk nk ck q : Nat} {ts : List (List DCol)} {ns : List DNode} {tys : List (List (Int × Int))} {tk : List Bool} {vals : List Value} (h : ROwn w0 w bs vt vn vy (.slice (some ⟨gk, 0, none⟩) nk ck) ts ns tys tk vals) (hq : q < tk.length) :
    ROwn w0 (w.setCell ⟨gk, q, none⟩ (.bool true)) bs vt vn vy (.slice (some ⟨gk, 0, none⟩) nk ck) ts ns tys (tk.set q true) vals := by
  have hok := h.ownk
  have hnk : nk = tk.length := by
    rcases hok.2 with ⟨h0, _⟩ | ⟨g, c, cur, h0, _⟩
    · simp at h0
    · simp only [Value.slice.injEq] at h0; exact h0.2.1
  subst hnk
  obtain ⟨gkb, gkl⟩ := hok.lt gk rfl
  obtain ⟨cur, hcur⟩ : ∃ cur, Box w gk cur 4 := by
    rcases hok.2 with ⟨h0, _⟩ | ⟨g, c, cur, h0, _, hg, _⟩
    · simp at h0
    · simp only [Value.slice.injEq, Option.some.injEq, Addr.mk.injEq, and_true] at h0
      obtain ⟨rfl, -, -⟩ := h0; exact ⟨cur, hg⟩
  have hne : ∀ {T : TypeId} {v : Value}, BlkOf T w v → T ≠ 4 → ∀ b off n c, v = .slice (some ⟨b, off, none⟩) n c → (w.setCell ⟨gk, q, none⟩ (.bool true)).heap[b]? = w.heap[b]? := by
    intro T v hv hT b off n c e
    subst e
    exact Below.heap_setCell _ _ _ _ (hv.ne hcur hT)
  refine ⟨h.below.setCell gkb _, h.tabs, h.nodes, h.bsge, ?_, ?_, ?_, h.small, by simpa using h.smallk, ?_⟩
  · refine h.box.set_ne ?_ _
    rintro rfl
    have h1 := shape_box h.box
    rw [shape_box hcur] at h1
    simp at h1
  · refine ⟨h.owny.1, ?_⟩
    rcases h.owny.2 with hn | ⟨g, cap, cu, e, hb, hg, rest⟩
    · exact .inl hn
    · refine .inr ⟨g, cap, cu, e, hb, ?_, rest⟩
      rw [Below.heap_setCell _ _ _ _ (show g ≠ gk from ?_)]
      · exact hg
      · rintro rfl
        have h1 := shape_box (show Box w g cu 104 from hg)
        rw [shape_box hcur] at h1
        simp at h1
  · have := owns_set hok hq (.bool true)
    rw [List.length_set, List.map_set]; exact this
  · intro j hj
    obtain ⟨v, a, b, c⟩ := h.each j hj
    exact ⟨v, a, b.blk (hne c (by decide)), c.set _ _⟩


/-- Types are laid behind the others. -/
theorem ROwn.pushTy {w0 w w2 : World} {bs : Nat} {vt vn vy vk : Value} {ts : List (List DCol)} {ns : List DNode} {tys : List (List (Int × Int))} {tk : List Bool} {vals : List Value} (h : ROwn w0 w bs vt vn vy vk ts ns tys tk vals)
    {v1 : Value} {l : List (Int × Int)} (hv : RTys w v1 l) (hb : BlkOf 108 w v1) (hsm : tys.length + 1 ≤ 1000) {g cap : Nat}
    (hown : w2.ownsRow w0.heap.size 104 1 (.slice (some ⟨g, 0, none⟩) (tys.length + 1) cap) (tys.length + 1) (vals ++ [v1])) (hgr : (w.alloc (.cells #[v1] 104)).grownBy w2 vy.ownBlock) :
    ROwn w0 (w2.setCell ⟨bs, 0, none⟩ (.slice (some ⟨g, 0, none⟩) (tys.length + 1) cap)) bs vt vn (.slice (some ⟨g, 0, none⟩) (tys.length + 1) cap) vk ts ns (tys ++ [l]) tk (vals ++ [v1]) := by
  have h1 := h.call ((Below.refl w.heap.size w).alloc (Nat.le_refl _) (.cells #[v1] 104))
  have hv1 : RTys (w.alloc (.cells #[v1] 104)) v1 l := RSl.mono mono_RTy ((Keeps.refl w).alloc _) hv
  have hb1 : BlkOf 108 (w.alloc (.cells #[v1] 104)) v1 := hb.call ((Below.refl w.heap.size w).alloc (Nat.le_refl _) _)
  generalize w.alloc (.cells #[v1] 104) = w1 at *
  clear h hv hb
  have hrow : ∀ k, vy.ownBlock = some k → w0.heap.size ≤ k := fun k hk => (h1.owny.lt k hk).1
  have hby : Below w0.heap.size w0 w2 := h1.below.grown hgr h1.below.size hrow
  -- a block of another element type stands
  have hst : ∀ {T : TypeId} {b : Nat} {cs : Array Value}, Box w1 b cs T → T ≠ 104 → w2.heap[b]? = w1.heap[b]? := by
    intro T b cs hbx hT
    refine hgr.block b hbx.lt (fun e => ?_)
    obtain ⟨cur, hcur⟩ := owns_own h1.owny e.symm
    exact hbx.ne hcur hT rfl
  have hbox2 : Box w2 bs #[vy, vk] 107 := by
    have := hst h1.box (by decide)
    unfold Box; rw [this]; exact h1.box
  have hset : ∀ {T : TypeId} {b : Nat} {cs : Array Value}, Box w2 b cs T → T ≠ 107 → (w2.setCell ⟨bs, 0, none⟩ (.slice (some ⟨g, 0, none⟩) (tys.length + 1) cap)).heap[b]? = w2.heap[b]? := by
    intro T b cs hbx hT
    exact Below.heap_setCell _ _ _ _ (hbx.ne hbox2 hT)
  have hty : ∀ {v : Value} {l : List (Int × Int)}, RTys w1 v l → BlkOf 108 w1 v → RTys (w2.setCell ⟨bs, 0, none⟩ (.slice (some ⟨g, 0, none⟩) (tys.length + 1) cap)) v l ∧ BlkOf 108 (w2.setCell ⟨bs, 0, none⟩ (.slice (some ⟨g, 0, none⟩) (tys.length + 1) cap)) v := by
    intro v l hr hbk
    have hk : ∀ b off n c, v = .slice (some ⟨b, off, none⟩) n c → (w2.setCell ⟨bs, 0, none⟩ (.slice (some ⟨g, 0, none⟩) (tys.length + 1) cap)).heap[b]? = w1.heap[b]? := by
      intro b off n c e
      obtain ⟨k, hk⟩ := hbk b off n c e
      obtain ⟨cs, hcs⟩ : ∃ cs fr, w1.heap[b]? = some (.cells cs 108 fr) := by
        simp only [World.shape?] at hk
        split at hk
        · rename_i cs el fr heq
          simp only [Option.some.injEq, Prod.mk.injEq] at hk
          obtain ⟨rfl, -⟩ := hk
          exact ⟨cs, fr, heq⟩
        · simp at hk
      obtain ⟨fr, hcs⟩ := hcs
      have h12 : w2.heap[b]? = w1.heap[b]? := by
        refine hgr.block b (by rcases Nat.lt_or_ge b w1.heap.size with h | h; exact h; rw [Array.getElem?_eq_none h] at hcs; simp at hcs) (fun e => ?_)
        obtain ⟨cur, hcur⟩ := owns_own h1.owny e.symm
        unfold Box at hcur; rw [hcs] at hcur; simp at hcur
      rw [Below.heap_setCell _ _ _ _ (show b ≠ bs from ?_), h12]
      rintro rfl
      have := h1.box; unfold Box at this; rw [hcs] at this; simp at this
    exact ⟨hr.blk hk, hbk.blk hk⟩
  refine ⟨hby.setCell h1.bsge _, h1.tabs, h1.nodes, h1.bsge, hbox2.set 0 _, ?_, ?_, by simpa using hsm, h1.smallk, ?_⟩
  · rw [List.length_append, List.length_singleton]
    refine owns_blk hown (fun g' hg' => ?_)
    obtain ⟨cur, hcur⟩ := owns_own hown hg'
    exact hset hcur (by decide)
  · refine owns_blk h1.ownk (fun g' hg' => ?_)
    obtain ⟨cur, hcur⟩ := owns_own h1.ownk hg'
    have h2 := hst hcur (by decide)
    have hcur2 : Box w2 g' cur 4 := by unfold Box; rw [h2]; exact hcur
    rw [hset hcur2 (by decide), h2]
  · intro j hj
    rw [List.length_append, List.length_singleton] at hj
    have hvl : vals.length = tys.length := by have := h1.owny.1; omega
    by_cases hjl : j < tys.length
    · obtain ⟨v, a, b, c⟩ := h1.each j hjl
      obtain ⟨p, q⟩ := hty b c
      refine ⟨v, by rw [List.getElem?_append_left (by omega)]; exact a, ?_, q⟩
      rw [List.getElem_append_left hjl]; exact p
    · have hje : j = tys.length := by omega
      subst hje
      obtain ⟨p, q⟩ := hty hv1 hb1
      refine ⟨v1, by rw [← hvl]; simp, ?_, q⟩
      rw [List.getElem_append_right (Nat.le_refl _)]; simpa using p


theorem ROwn.pushTk {w0 w w2 : World} {bs : Nat} {vt vn vy vk : Value} {ts : List (List DCol)} {ns : List DNode} {tys : List (List (Int × Int))} {tk : List Bool} {vals : List Value} (h : ROwn w0 w bs vt vn vy vk ts ns tys tk vals)
    (hsm : tk.length + 1 ≤ 1000) {g cap : Nat}
    (hown : w2.ownsRow w0.heap.size 4 1 (.slice (some ⟨g, 0, none⟩) (tk.length + 1) cap) (tk.length + 1) (tk.map .bool ++ [.bool false])) (hgr : (w.alloc (.cells #[.bool false] 4)).grownBy w2 vk.ownBlock) :
    ROwn w0 (w2.setCell ⟨bs, 1, none⟩ (.slice (some ⟨g, 0, none⟩) (tk.length + 1) cap)) bs vt vn vy (.slice (some ⟨g, 0, none⟩) (tk.length + 1) cap) ts ns tys (tk ++ [false]) vals := by
  have h1 := h.call ((Below.refl w.heap.size w).alloc (Nat.le_refl _) (.cells #[.bool false] 4))
  generalize w.alloc (.cells #[.bool false] 4) = w1 at *
  clear h
  have hrow : ∀ k, vk.ownBlock = some k → w0.heap.size ≤ k := fun k hk => (h1.ownk.lt k hk).1
  have hby : Below w0.heap.size w0 w2 := h1.below.grown hgr h1.below.size hrow
  have hst : ∀ {T : TypeId} {b : Nat} {cs : Array Value}, Box w1 b cs T → T ≠ 4 → w2.heap[b]? = w1.heap[b]? := by
    intro T b cs hbx hT
    refine hgr.block b hbx.lt (fun e => ?_)
    obtain ⟨cur, hcur⟩ := owns_own h1.ownk e.symm
    exact hbx.ne hcur hT rfl
  have hbox2 : Box w2 bs #[vy, vk] 107 := by
    have := hst h1.box (by decide)
    unfold Box; rw [this]; exact h1.box
  have hset : ∀ {T : TypeId} {b : Nat} {cs : Array Value}, Box w2 b cs T → T ≠ 107 → (w2.setCell ⟨bs, 1, none⟩ (.slice (some ⟨g, 0, none⟩) (tk.length + 1) cap)).heap[b]? = w2.heap[b]? := by
    intro T b cs hbx hT
    exact Below.heap_setCell _ _ _ _ (hbx.ne hbox2 hT)
  refine ⟨hby.setCell h1.bsge _, h1.tabs, h1.nodes, h1.bsge, hbox2.set 1 _, ?_, ?_, h1.small, by simpa using hsm, ?_⟩
  · refine owns_blk h1.owny (fun g' hg' => ?_)
    obtain ⟨cur, hcur⟩ := owns_own h1.owny hg'
    have h2 := hst hcur (by decide)
    have hcur2 : Box w2 g' cur 104 := by unfold Box; rw [h2]; exact hcur
    rw [hset hcur2 (by decide), h2]
  · rw [List.length_append, List.length_singleton, List.map_append]
    refine owns_blk hown (fun g' hg' => ?_)
    obtain ⟨cur, hcur⟩ := owns_own hown hg'
    exact hset hcur (by decide)
  · intro j hj
    obtain ⟨v, a, hr, hbk⟩ := h1.each j hj
    have hk : ∀ b off n c, v = .slice (some ⟨b, off, none⟩) n c → (w2.setCell ⟨bs, 1, none⟩ (.slice (some ⟨g, 0, none⟩) (tk.length + 1) cap)).heap[b]? = w1.heap[b]? := by
      intro b off n c e
      obtain ⟨k, hk⟩ := hbk b off n c e
      obtain ⟨cs, hcs⟩ : ∃ cs fr, w1.heap[b]? = some (.cells cs 108 fr) := by
        simp only [World.shape?] at hk
        split at hk
        · rename_i cs el fr heq
          simp only [Option.some.injEq, Prod.mk.injEq] at hk
          obtain ⟨rfl, -⟩ := hk
          exact ⟨cs, fr, heq⟩
        · simp at hk
      obtain ⟨fr, hcs⟩ := hcs
      have h12 : w2.heap[b]? = w1.heap[b]? := by
        refine hgr.block b (by rcases Nat.lt_or_ge b w1.heap.size with h | h; exact h; rw [Array.getElem?_eq_none h] at hcs; simp at hcs) (fun e => ?_)
        obtain ⟨cur, hcur⟩ := owns_own h1.ownk e.symm
        unfold Box at hcur; rw [hcs] at hcur; simp at hcur
      rw [Below.heap_setCell _ _ _ _ (show b ≠ bs from ?_), h12]
      rintro rfl
      have := h1.box; unfold Box at this; rw [hcs] at this; simp at this
    exact ⟨v, a, hr.blk hk, hbk.blk hk⟩


theorem ROwn.box_ty {w0 w w2 : World} {bs : Nat} {vt vn vy vk : Value} {ts : List (List DCol)} {ns : List DNode} {tys : List (List (Int × Int))} {tk : List Bool} {vals : List Value} (h : ROwn w0 w bs vt vn vy vk ts ns tys tk vals) {o : Obj} (hgr : (w.alloc o).grownBy w2 vy.ownBlock) : Box w2 bs #[vy, vk] 107 := by
  have h1 := h.call ((Below.refl w.heap.size w).alloc (Nat.le_refl _) o)
  refine h1.box.grown hgr (fun g hg => ?_)
  obtain ⟨cur, hcur⟩ := owns_own h1.owny hg
  exact h1.box.ne hcur (by decide)
theorem ROwn.box_tk {w0 w w2 : World} {bs : Nat} {vt vn vy vk : Value} {ts : List (List DCol)} {ns : List DNode} {tys : List (List (Int × Int))} {tk : List Bool} {vals : List Value} (h : ROwn w0 w bs vt vn vy vk ts ns tys tk vals) {o : Obj} (hgr : (w.alloc o).grownBy w2 vk.ownBlock) : Box w2 bs #[vy, vk] 107 := by
  have h1 := h.call ((Below.refl w.heap.size w).alloc (Nat.le_refl _) o)
  refine h1.box.grown hgr (fun g hg => ?_)
  obtain ⟨cur, hcur⟩ := owns_own h1.ownk hg
  exact h1.box.ne hcur (by decide)

end Go.Proofs.YtekkicgbloidkaaGreatDoor
/- The reference's types of a node: a Join, a Group. -/
namespace Go.Proofs.YtekkicgbloidkaaGreatDoor
open Go Go.RowKit
attribute [local go_sem ↓] Go.wp_at_zero Go.wp_at_succ

/-- The same, of a value and a flag. -/
def RTysIs (w : World) (v : Value) (ok : Bool) (o : Option (List (Int × Int))) : Prop :=
  match o with
  | some l => ok = true ∧ RTys w v l ∧ BlkOf 108 w v
  | none => ok = false
theorem RTysRet.shape {w : World} {e : Ending} {o : Option (List (Int × Int))} (h : RTysRet w e o) : ∃ v ok, e = .returned (.tuple #[v, .bool ok]) ∧ RTysIs w v ok o := by
  cases o with
  | none => obtain ⟨v, h⟩ := h; exact ⟨v, false, h, rfl⟩
  | some l => obtain ⟨v, h, hv⟩ := h; exact ⟨v, true, h, rfl, hv⟩
theorem RTysIs.ret {w : World} {v : Value} {ok : Bool} {o : Option (List (Int × Int))} (h : RTysIs w v ok o) : RTysRet w (.returned (.tuple #[v, .bool ok])) o := by
  cases o with
  | none => simp only [RTysIs] at h; subst h; exact ⟨v, rfl⟩
  | some l => obtain ⟨h, hv⟩ := h; subst h; exact ⟨v, rfl, hv⟩

set_option maxRecDepth 20000 in
set_option maxHeartbeats 2000000 in
theorem typed5_any (bs p : Nat) (b : Int) (es : List (List DTerm)) (ks os : List Int) (ags : List (Int × Int)) (vy : Value) (tys : List (List (Int × Int))) (ve vk vo va vtab : Value) (w : World) (hn : NodeIs w ve vk vo va ⟨5, p, b, es, ks, os, ags⟩) (hc2 : w.cell? ⟨bs, 0, none⟩ = some vy) (ht : RTyss w vy tys) (hp : p < tys.length) (h4 : ks.length ≤ 4) (h6 : ags.length ≤ 6) :
    Calls Tryz.prog 58 #[.pointer (some ⟨bs, 0, none⟩), .agg #[.int .i64 5, .int .i64 p, .int .i64 b, ve, vk, vo, va], vtab] w fun e w' => RTysRet w' e (groupRun ⟨5, p, b, es, ks, os, ags⟩ tys[p]) ∧ Below w.heap.size w w' := by
  obtain ⟨bt, ot, ct, a, c, rfl, hbt, d0, hty⟩ := tys_at ht hp
  have hbs := cell_lt hc2
  have hi0 : (0 : Int) ≤ (p : Int) := by omega
  have hi1 : (p : Int) < (tys.length : Int) := by omega
  obtain ⟨ae, ce, ak, ck, ao, co, aa, ca, rfl, rfl, rfl, rfl⟩ := hn.shape
  simp only at hn
  have kp := ((Keeps.refl w).alloc (.cells #[.int .i64 5, .int .i64 p, .int .i64 b, .slice ae es.length ce, .slice ak ks.length ck, .slice ao os.length co, .slice aa ags.length ca] 71)).drew
  have hty' := RSl.mono mono_RTy kp hty
  have hn' := hn.mono kp
  have HC : Hid (RTys _ _ tys[p]) := hty'
  have HN : Hid _ := hn'
  have HB0 : Hid _ := ((Below.refl w.heap.size w).alloc (Nat.le_refl _) (.cells #[.int .i64 5, .int .i64 p, .int .i64 b, .slice ae es.length ce, .slice ak ks.length ck, .slice ao os.length co, .slice aa ags.length ca] 71)).drew
  clear kp hty hty' ht hn hn'
  generalize hO : (groupRun ⟨5, p, b, es, ks, os, ags⟩ tys[p]) = o
  have HO : Hid _ := hO
  clear hO
  go_enter Tryz.func58, Tryz.ntmps58
  go_wp2_with fail
  go_region_held3 (fun W => W.cell? ⟨bs, 0, none⟩ = some (.slice (some ⟨bt, ot, none⟩) tys.length ct) ∧ W.cell? ⟨w.heap.size, 0, none⟩ = some (.int .i64 5) ∧ W.cell? ⟨w.heap.size, 1, none⟩ = some (.int .i64 p) ∧ W.cell? ⟨w.heap.size, 2, none⟩ = some (.int .i64 b) ∧ W.cell? ⟨w.heap.size, 3, none⟩ = some (.slice ae es.length ce) ∧ W.cell? ⟨w.heap.size, 4, none⟩ = some (.slice ak ks.length ck) ∧ W.cell? ⟨w.heap.size, 5, none⟩ = some (.slice ao os.length co) ∧ W.cell? ⟨w.heap.size, 6, none⟩ = some (.slice aa ags.length ca) ∧ W.cell? ⟨bt, ot + p, none⟩ = some (.slice a tys[p].length c))
    ((go_split_ands; refine ⟨?_, ?_, ?_, ?_, ?_, ?_, ?_, ?_, ?_⟩ <;> first | (exact (Keeps.of_below hb1) _ _ _ (by assumption)) | (go_keep; done)))
    (first | (go_at_call 76; refine (rgroup_any ⟨5, p, b, es, ks, os, ags⟩ _ _ _ _ _ tys[p] _ HN.out h4 h6 HC.out).mono ?_; rintro e w1 ⟨hret, hb1⟩; obtain ⟨v1, ok1, rfl, hti⟩ := RTysRet.shape hret))
  have HB1 : Hid (Below w.heap.size w w1) := Below.step hb1 HB0.out (by simp)
  have HTI : Hid (RTysIs w1 v1 ok1 _) := hti
  clear hb1 hret hti
  go_wp2_with fail
  go_ret2
  exact ⟨by rw [← HO.out]; exact HTI.out.ret, HB1.out⟩

set_option maxRecDepth 20000 in
set_option maxHeartbeats 2000000 in
theorem typed4_any (bs p q : Nat) (es : List (List DTerm)) (ks os : List Int) (ags : List (Int × Int)) (vy : Value) (tys : List (List (Int × Int))) (ve vk vo va vtab : Value) (w : World) (hn : NodeIs w ve vk vo va ⟨4, p, q, es, ks, os, ags⟩) (hc2 : w.cell? ⟨bs, 0, none⟩ = some vy) (ht : RTyss w vy tys) (hp : p < tys.length) (hq : q < tys.length) (h4 : ks.length ≤ 4) (hko : os.length = ks.length) (h1p : 0 < tys[p].length) (h1q : 0 < tys[q].length) (h8p : tys[p].length ≤ 8) (h8q : tys[q].length ≤ 8) :
    Calls Tryz.prog 58 #[.pointer (some ⟨bs, 0, none⟩), .agg #[.int .i64 4, .int .i64 p, .int .i64 q, ve, vk, vo, va], vtab] w fun e w' => RTysRet w' e (joinRun ⟨4, p, q, es, ks, os, ags⟩ tys[p] tys[q]) ∧ Below w.heap.size w w' := by
  obtain ⟨bt, ot, ct, a, c, rfl, hbt, d0, hty⟩ := tys_at ht hp
  obtain ⟨bt2, ot2, ct2, a2, c2, hvq, -, d2, htq⟩ := tys_at ht hq
  simp only [Value.slice.injEq, Option.some.injEq, Addr.mk.injEq, and_true, true_and] at hvq
  obtain ⟨⟨rfl, rfl⟩, rfl⟩ := hvq
  have hj0 : (0 : Int) ≤ (q : Int) := by omega
  have hj1 : (q : Int) < (tys.length : Int) := by omega
  have hbs := cell_lt hc2
  have hi0 : (0 : Int) ≤ (p : Int) := by omega
  have hi1 : (p : Int) < (tys.length : Int) := by omega
  obtain ⟨ae, ce, ak, ck, ao, co, aa, ca, rfl, rfl, rfl, rfl⟩ := hn.shape
  simp only at hn
  have kp := ((Keeps.refl w).alloc (.cells #[.int .i64 4, .int .i64 p, .int .i64 q, .slice ae es.length ce, .slice ak ks.length ck, .slice ao os.length co, .slice aa ags.length ca] 71)).drew
  have hty' := RSl.mono mono_RTy kp hty
  have hn' := hn.mono kp
  have HC : Hid (RTys _ _ tys[p]) := hty'
  have HCQ : Hid (RTys _ _ tys[q]) := RSl.mono mono_RTy kp htq
  have HKO : Hid (os.length = ks.length) := hko
  have HN : Hid _ := hn'
  have HB0 : Hid _ := ((Below.refl w.heap.size w).alloc (Nat.le_refl _) (.cells #[.int .i64 4, .int .i64 p, .int .i64 q, .slice ae es.length ce, .slice ak ks.length ck, .slice ao os.length co, .slice aa ags.length ca] 71)).drew
  clear kp hty hty' ht hn hn' htq hko
  generalize hO : (joinRun ⟨4, p, q, es, ks, os, ags⟩ tys[p] tys[q]) = o
  have HO : Hid _ := hO
  clear hO
  go_enter Tryz.func58, Tryz.ntmps58
  go_wp2_with fail
  go_region_held3 (fun W => W.cell? ⟨bs, 0, none⟩ = some (.slice (some ⟨bt, ot, none⟩) tys.length ct) ∧ W.cell? ⟨w.heap.size, 0, none⟩ = some (.int .i64 4) ∧ W.cell? ⟨w.heap.size, 1, none⟩ = some (.int .i64 p) ∧ W.cell? ⟨w.heap.size, 2, none⟩ = some (.int .i64 q) ∧ W.cell? ⟨w.heap.size, 3, none⟩ = some (.slice ae es.length ce) ∧ W.cell? ⟨w.heap.size, 4, none⟩ = some (.slice ak ks.length ck) ∧ W.cell? ⟨w.heap.size, 5, none⟩ = some (.slice ao os.length co) ∧ W.cell? ⟨w.heap.size, 6, none⟩ = some (.slice aa ags.length ca) ∧ W.cell? ⟨bt, ot + p, none⟩ = some (.slice a tys[p].length c) ∧ W.cell? ⟨bt, ot + q, none⟩ = some (.slice a2 tys[q].length c2))
    ((go_split_ands; refine ⟨?_, ?_, ?_, ?_, ?_, ?_, ?_, ?_, ?_, ?_⟩ <;> first | (exact (Keeps.of_below hb1) _ _ _ (by assumption)) | (go_keep; done)))
    (first | (go_at_call 75; refine (rjoin_any ⟨4, p, q, es, ks, os, ags⟩ _ _ _ _ _ _ tys[p] tys[q] _ HN.out h4 HKO.out HC.out HCQ.out h1p h1q h8p h8q).mono ?_; rintro e w1 ⟨hret, hb1⟩; obtain ⟨v1, ok1, rfl, hti⟩ := RTysRet.shape hret))
  have HB1 : Hid (Below w.heap.size w w1) := Below.step hb1 HB0.out (by simp)
  have HTI : Hid (RTysIs w1 v1 ok1 _) := hti
  clear hb1 hret hti
  go_wp2_with fail
  go_ret2
  exact ⟨by rw [← HO.out]; exact HTI.out.ret, HB1.out⟩


end Go.Proofs.YtekkicgbloidkaaGreatDoor
/- The reference's types of a node: a Scan. -/
namespace Go.Proofs.YtekkicgbloidkaaGreatDoor
open Go Go.RowKit
attribute [local go_sem ↓] Go.wp_at_zero Go.wp_at_succ

set_option maxRecDepth 20000 in
set_option maxHeartbeats 4000000 in
theorem typed1_any (bs p : Nat) (b : Int) (vt : Value) (ts : List (List DCol)) (ae ak ao aa : Option Addr) (le lk lo la ce ck co ca : Nat) (w : World) (ht : RTabs w vt ts) (hp : p < ts.length) (h8 : ts[p].length ≤ 8) :
    Calls Tryz.prog 58 #[.pointer (some ⟨bs, 0, none⟩), .agg #[.int .i64 1, .int .i64 p, .int .i64 b, .slice ae le ce, .slice ak lk ck, .slice ao lo co, .slice aa la ca], vt] w fun e w' => RTysRet w' e (some (tabTys ts[p])) ∧ Below w.heap.size w w' := by
  obtain ⟨bt, ot, ct, a, c, rfl, hbt, d0, hcols⟩ := tab_at ht hp
  have hi0 : (0 : Int) ≤ (p : Int) := by omega
  have hi1 : (p : Int) < (ts.length : Int) := by omega
  have HC : Hid (RCols w (.slice a ts[p].length c) ts[p]) := hcols
  generalize ts[p] = t at *
  clear ht hcols
  have HN : Hid (Box (w.alloc (.cells #[.int .i64 1, .int .i64 p, .int .i64 b, .slice ae le ce, .slice ak lk ck, .slice ao lo co, .slice aa la ca] 71)) w.heap.size #[.int .i64 1, .int .i64 p, .int .i64 b, .slice ae le ce, .slice ak lk ck, .slice ao lo co, .slice aa la ca] 71) := Box.new _ _ _
  have HS : Hid ((w.alloc (.cells #[.int .i64 1, .int .i64 p, .int .i64 b, .slice ae le ce, .slice ak lk ck, .slice ao lo co, .slice aa la ca] 71)).heap.size = w.heap.size + 1) := by unfold Hid; simp
  have HB0 : Hid (Below w.heap.size w (w.alloc (.cells #[.int .i64 1, .int .i64 p, .int .i64 b, .slice ae le ce, .slice ak lk ck, .slice ao lo co, .slice aa la ca] 71))) := (Below.refl _ _).alloc (Nat.le_refl _) _
  go_enter Tryz.func58, Tryz.ntmps58
  go_upto_region 4 with fail
  generalize w.alloc (.cells #[.int .i64 1, .int .i64 p, .int .i64 b, .slice ae le ce, .slice ak lk ck, .slice ao lo co, .slice aa la ca] 71) = wN at *
  go_wp2_with fail
  go_loopw [8, 9] (fun v i W => ∃ (k : Nat), k ≤ t.length ∧ i = .int .i64 k ∧ W.ownsRow (w.heap.size + 1) 108 2 v k (flatTy ((tabTys t).take k)) ∧ Below (w.heap.size + 1) wN W)
    (fun _ i _ => t.length - (intOf i).toNat)
  case atStart => exact ⟨0, Nat.zero_le _, rfl, by simpa [flatTy] using World.ownsRow_nil _ _ _ _, Below.refl _ _⟩
  case round =>
    obtain ⟨k, hk, rfl, hown, hB⟩ := hrel
    have HO : Hid (wr.ownsRow (w.heap.size + 1) 108 2 u8 k (flatTy ((tabTys t).take k))) := hown
    have HB : Hid (Below (w.heap.size + 1) wN wr) := hB
    have HBW : Hid (Below w.heap.size w wr) := HB0.out.trans (hB.mono (by omega))
    have HX : Hid (Box wr w.heap.size _ 71) := HN.out.below hB (by omega)
    have HSR : Hid (w.heap.size + 1 ≤ wr.heap.size) := by have := hB.size; have := HS.out; unfold Hid; omega
    have kp := Keeps.of_below HBW.out
    have e0 := kp _ _ _ d0
    have hb0 := cell_lt e0
    obtain ⟨hcn, hfn, hln⟩ := HX.out.all
    clear hown hB
    by_cases hlt : k < t.length
    · obtain ⟨bc, oc, ccp, ai, ci, az, cz, an, cn, hvc, hbc, c0, c1, c2, c3, c4, hcol⟩ := col_at HC.out hlt
      simp only [Value.slice.injEq, true_and] at hvc
      obtain ⟨rfl, rfl⟩ := hvc
      have f0 := kp _ _ _ c0
      have f1 := kp _ _ _ c1
      have hbf := cell_lt f0
      have hj0 : (0 : Int) ≤ (k : Int) := by omega
      have hj1 : (k : Int) < (t.length : Int) := by omega
      have HTK : Hid (flatTy ((tabTys t).take (k + 1)) = flatTy ((tabTys t).take k) ++ [.int .i64 t[k].kind, .int .i64 t[k].scale]) := by
        unfold Hid
        rw [List.take_succ_eq_append_getElem (by simp [tabTys]; exact hlt)]
        simp [flatTy, tabTys]
      generalize t[k] = C at *
      clear kp c0 c1 c2 c3 c4 hcol
      have HOG : Hid ((wr.alloc (.cells #[.int .i64 C.kind, .int .i64 C.scale] 108)).drew.ownsRow (w.heap.size + 1) 108 2 u8 k (flatTy ((tabTys t).take k))) := HO.out.alloc _
      have HNW : Hid (∀ j u, ([.int .i64 C.kind, .int .i64 C.scale] : List Value)[j]? = some u → (wr.alloc (.cells #[.int .i64 C.kind, .int .i64 C.scale] 108)).drew.cell? ⟨wr.heap.size, j, none⟩ = some u) := new_two (Box.new wr _ _).drew
      have HS0 : Hid ((wr.alloc (.cells #[.int .i64 C.kind, .int .i64 C.scale] 108)).drew.heap.size = wr.heap.size + 1) := by unfold Hid; simp
      have HS1 : Hid (w.heap.size + 1 ≤ (wr.alloc (.cells #[.int .i64 C.kind, .int .i64 C.scale] 108)).drew.heap.size) := by have := HSR.out; unfold Hid; simp; omega
      have m0 : wr.cell? ⟨w.heap.size, 1, none⟩ = some (.int .i64 p) := hcn 1
      go_upto_region 7 with fail
      go_region_held3 (fun W => W.cell? ⟨w.heap.size, 1, none⟩ = some (.int .i64 p) ∧ W.cell? ⟨bt, ot + p, none⟩ = some (.slice (some ⟨bc, oc, none⟩) t.length c) ∧ W.cell? ⟨bc, oc + k * 5, none⟩ = some (.int .i64 C.kind) ∧ W.cell? ⟨bc, oc + k * 5 + 1, none⟩ = some (.int .i64 C.scale))
        (first | (go_keep; done) | exact ⟨hg3.cell (Keeps.alloc (Keeps.refl _) _ _ _ _ m0) (fun e => by have h : w.heap.size + 1 ≤ w.heap.size := (HO.out.lt _ e.symm).1; omega), hg3.cell (Keeps.alloc (Keeps.refl _) _ _ _ _ e0) (fun e => by have h : w.heap.size + 1 ≤ bt := (HO.out.lt _ e.symm).1; omega), hg3.cell (Keeps.alloc (Keeps.refl _) _ _ _ _ f0) (fun e => by have h : w.heap.size + 1 ≤ bc := (HO.out.lt _ e.symm).1; omega), hg3.cell (Keeps.alloc (Keeps.refl _) _ _ _ _ f1) (fun e => by have h : w.heap.size + 1 ≤ bc := (HO.out.lt _ e.symm).1; omega)⟩)
        ((refine step_app elem_rty _ (by rfl) _ _ (by rfl) (w.heap.size + 1) _ _ _ (by rfl) HOG.out wr.heap.size 1 1 _ (by rfl) rfl HNW.out (one_two _ _) (by omega) (by omega) (by omega) HS1.out (wr.heap.size + 1) HS0.out ?_; intro g3 cap3 w3 hown3 hg3 hat3 hlt3))
      have HO3 : Hid (w3.ownsRow (w.heap.size + 1) 108 2 (.slice (some ⟨g3, 0, none⟩) (k + 1) cap3) (k + 1) (flatTy ((tabTys t).take (k + 1)))) := by unfold Hid; rw [HTK.out]; exact hown3
      have HB3 : Hid (Below (w.heap.size + 1) wN w3) := (HB.out.alloc (by have := HSR.out; omega) _).drew.grown hg3 HS1.out (fun g hg => (HO.out.lt g hg).1)
      clear hown3 hg3 hat3 hlt3
      go_wp2_with fail
      go_roundw
      case rel => exact ⟨k + 1, by omega, by go_num, HO3.out, HB3.out⟩
      case measure => simp [intOf]; omega
    · have hke : (tabTys t).take k = tabTys t := List.take_of_length_le (by simp [tabTys]; omega)
      have hkl : k = (tabTys t).length := by simp [tabTys]; omega
      have HO3 : Hid (wr.ownsRow (w.heap.size + 1) 108 2 u8 (tabTys t).length (flatTy (tabTys t))) := by have := HO.out; rw [hke] at this; rw [← hkl]; exact this
      clear hke hkl kp
      go_wp2_with fail
      go_ret2
      exact ⟨⟨_, rfl, RTys.owns HO3.out (by simp [tabTys]; omega), BlkOf.owns HO3.out⟩, HBW.out⟩

end Go.Proofs.YtekkicgbloidkaaGreatDoor
/- The reference's types of a node: a Filter. -/
namespace Go.Proofs.YtekkicgbloidkaaGreatDoor
open Go Go.RowKit
attribute [local go_sem ↓] Go.wp_at_zero Go.wp_at_succ

set_option maxRecDepth 20000 in
set_option maxHeartbeats 4000000 in
theorem typed2_any (bs p : Nat) (b : Int) (es : List (List DTerm)) (ks os : List Int) (ags : List (Int × Int)) (vy : Value) (tys : List (List (Int × Int))) (ve vk vo va vtab : Value) (w : World) (hn : NodeIs w ve vk vo va ⟨2, p, b, es, ks, os, ags⟩) (hc2 : w.cell? ⟨bs, 0, none⟩ = some vy) (ht : RTyss w vy tys) (hp : p < tys.length) (h1 : 0 < es.length) (hok : TysOk tys[p]) (hblk : ∀ b off cap v, vy = .slice (some ⟨b, off, none⟩) tys.length cap → w.cell? ⟨b, off + p, none⟩ = some v → BlkOf 108 w v) :
    Calls Tryz.prog 58 #[.pointer (some ⟨bs, 0, none⟩), .agg #[.int .i64 2, .int .i64 p, .int .i64 b, ve, vk, vo, va], vtab] w fun e w' => RTysRet w' e (if filterOk ⟨2, p, b, es, ks, os, ags⟩ tys[p] = true then some tys[p] else none) ∧ Below w.heap.size w w' := by
  obtain ⟨bt, ot, ct, a, c, rfl, hbt, d0, hty⟩ := tys_at ht hp
  have hbs := cell_lt hc2
  have hi0 : (0 : Int) ≤ (p : Int) := by omega
  have hi1 : (p : Int) < (tys.length : Int) := by omega
  have hes1 : (0 : Int) < (es.length : Int) := by omega
  obtain ⟨ae, ce, ak, ck, ao, co, aa, ca, rfl, rfl, rfl, rfl⟩ := hn.shape
  simp only at hn
  obtain ⟨be, oe, cpe, vE, hve, hbe, c0, hex⟩ := exprs_at hn.exprs h1
  simp only [Value.slice.injEq, true_and] at hve
  obtain ⟨rfl, rfl⟩ := hve
  obtain ⟨aE, cE, rfl, -⟩ := hex.shape
  simp only [Nat.add_zero] at c0
  have HCU : Hid (∀ W, Keeps w W → RTys W (.slice a tys[p].length c) tys[p]) := fun W k => RSl.mono mono_RTy k hty
  have HEU : Hid (∀ W, Keeps w W → RTerms W (.slice aE es[0].length cE) es[0]) := fun W k => RSl.mono mono_RTerm k hex
  have K1 : Hid (Keeps w (w.alloc (.cells #[.int .i64 2, .int .i64 p, .int .i64 b, .slice (some ⟨be, oe, none⟩) es.length ce, .slice ak ks.length ck, .slice ao os.length co, .slice aa ags.length ca] 71)).drew) := ((Keeps.refl w).alloc _).drew
  have K2 : Hid (Keeps w ((w.alloc (.cells #[.int .i64 2, .int .i64 p, .int .i64 b, .slice (some ⟨be, oe, none⟩) es.length ce, .slice ak ks.length ck, .slice ao os.length co, .slice aa ags.length ca] 71)).alloc (.cells #[.int .i64 0, .int .i64 0] 108)).drew) := (((Keeps.refl w).alloc _).alloc _).drew
  have bX : Box ((w.alloc (.cells #[.int .i64 2, .int .i64 p, .int .i64 b, .slice (some ⟨be, oe, none⟩) es.length ce, .slice ak ks.length ck, .slice ao os.length co, .slice aa ags.length ca] 71)).alloc (.cells #[.int .i64 0, .int .i64 0] 108)).drew (w.heap.size + 1) #[.int .i64 0, .int .i64 0] 108 := by
    have := (Box.new (w.alloc (.cells #[.int .i64 2, .int .i64 p, .int .i64 b, .slice (some ⟨be, oe, none⟩) es.length ce, .slice ak ks.length ck, .slice ao os.length co, .slice aa ags.length ca] 71)) #[.int .i64 0, .int .i64 0] 108).drew
    simpa using this
  have HBX : Hid (Box (w.alloc (.cells #[.int .i64 2, .int .i64 p, .int .i64 b, .slice (some ⟨be, oe, none⟩) es.length ce, .slice ak ks.length ck, .slice ao os.length co, .slice aa ags.length ca] 71)) w.heap.size #[.int .i64 2, .int .i64 p, .int .i64 b, .slice (some ⟨be, oe, none⟩) es.length ce, .slice ak ks.length ck, .slice ao os.length co, .slice aa ags.length ca] 71) := Box.new _ _ _
  have HB1 : Hid (Below w.heap.size w (w.alloc (.cells #[.int .i64 2, .int .i64 p, .int .i64 b, .slice (some ⟨be, oe, none⟩) es.length ce, .slice ak ks.length ck, .slice ao os.length co, .slice aa ags.length ca] 71)).drew) := ((Below.refl w.heap.size w).alloc (Nat.le_refl _) _).drew
  have HB2 : Hid (Below w.heap.size w ((w.alloc (.cells #[.int .i64 2, .int .i64 p, .int .i64 b, .slice (some ⟨be, oe, none⟩) es.length ce, .slice ak ks.length ck, .slice ao os.length co, .slice aa ags.length ca] 71)).alloc (.cells #[.int .i64 0, .int .i64 0] 108)).drew) := (((Below.refl w.heap.size w).alloc (Nat.le_refl _) _).alloc (by simp) _).drew
  have HBK : Hid (BlkOf 108 w (.slice a tys[p].length c)) := hblk _ _ _ _ rfl d0
  have HTY : Hid (RTys w (.slice a tys[p].length c) tys[p]) := hty
  have HOK : Hid _ := hok
  have HFO : Hid (filterOk ⟨2, p, b, es, ks, os, ags⟩ tys[p] = ((exprTy es[0] tys[p]).2 && ((exprTy es[0] tys[p]).1.1 == 4))) := by
    unfold Hid filterOk; simp [h1]
  clear hblk hty ht hn hex hok
  generalize hO : (if filterOk ⟨2, p, b, es, ks, os, ags⟩ tys[p] = true then some tys[p] else none) = o
  have HO : Hid _ := hO
  clear hO
  generalize hT : tys[p] = cols at *
  generalize es[0] = E at *
  clear hT
  go_enter Tryz.func58, Tryz.ntmps58
  go_upto_region 10 with fail
  generalize hR : exprTy E cols = R at *
  have HR : Hid _ := hR
  clear hR
  have n1 : bs ≠ w.heap.size + 1 := by omega
  have n4 : be ≠ w.heap.size + 1 := by omega
  have n5 : bt ≠ w.heap.size + 1 := by omega
  have nx : w.heap.size ≠ w.heap.size + 1 := by omega
  go_cut [10, 11] (fun q ok W => ∃ B t, q = .pointer (some ⟨B, 0, none⟩) ∧ ok = .bool R.2 ∧ Box W B #[.int .i64 t.1, .int .i64 t.2] 108 ∧ (R.2 = true → t = R.1) ∧ Below w.heap.size w W ∧ Box W w.heap.size #[.int .i64 2, .int .i64 p, .int .i64 b, .slice (some ⟨be, oe, none⟩) es.length ce, .slice ak ks.length ck, .slice ao os.length co, .slice aa ags.length ca] 71)
  case first =>
    go_region_held3 (fun W => W.cell? ⟨bs, 0, none⟩ = some (.slice (some ⟨bt, ot, none⟩) tys.length ct) ∧ W.cell? ⟨w.heap.size, 1, none⟩ = some (.int .i64 p) ∧ W.cell? ⟨w.heap.size, 3, none⟩ = some (.slice (some ⟨be, oe, none⟩) es.length ce) ∧ W.cell? ⟨be, oe, none⟩ = some (.slice aE E.length cE) ∧ W.cell? ⟨bt, ot + p, none⟩ = some (.slice a cols.length c))
      (first | (go_keep; done) | exact ⟨by first | exact (K1.out.trans (Keeps.of_below hb1)) _ _ _ hc2 | exact (K2.out.trans (Keeps.of_below hb1)) _ _ _ hc2 | exact (Keeps.alloc (K1.out.trans (Keeps.of_below hb1)) _) _ _ _ hc2 | exact cell_set_ne (cell_set_ne ((K2.out.trans (Keeps.of_below hb1)) _ _ _ hc2) n1) n1, by first | exact (HBX.out.drew.call hb1).rules.1 _ | exact ((HBX.out.alloc _).drew.call hb1).rules.1 _ | exact ((HBX.out.drew.call hb1).alloc _).rules.1 _ | exact ((((HBX.out.alloc _).drew.call hb1).set_ne nx _).set_ne nx _).rules.1 _, by first | exact (HBX.out.drew.call hb1).rules.1 _ | exact ((HBX.out.alloc _).drew.call hb1).rules.1 _ | exact ((HBX.out.drew.call hb1).alloc _).rules.1 _ | exact ((((HBX.out.alloc _).drew.call hb1).set_ne nx _).set_ne nx _).rules.1 _, by first | exact (K1.out.trans (Keeps.of_below hb1)) _ _ _ c0 | exact (K2.out.trans (Keeps.of_below hb1)) _ _ _ c0 | exact (Keeps.alloc (K1.out.trans (Keeps.of_below hb1)) _) _ _ _ c0 | exact cell_set_ne (cell_set_ne ((K2.out.trans (Keeps.of_below hb1)) _ _ _ c0) n4) n4, by first | exact (K1.out.trans (Keeps.of_below hb1)) _ _ _ d0 | exact (K2.out.trans (Keeps.of_below hb1)) _ _ _ d0 | exact (Keeps.alloc (K1.out.trans (Keeps.of_below hb1)) _) _ _ _ d0 | exact cell_set_ne (cell_set_ne ((K2.out.trans (Keeps.of_below hb1)) _ _ _ d0) n5) n5⟩)
      (first | (go_at_call 74; refine (exprType_any E cols HOK.out _ _ _ (HEU.out _ K1.out) (HCU.out _ K1.out)).mono ?_; rw [HR.out]; rintro e w1 ⟨⟨t, rfl, hteq⟩, hb1⟩) | (go_at_call 74; refine (exprType_any E cols HOK.out _ _ _ (HEU.out _ K2.out) (HCU.out _ K2.out)).mono ?_; rw [HR.out]; rintro e w1 ⟨⟨t, rfl, hteq⟩, hb1⟩; have bX2 := bX.call hb1; obtain ⟨hcX, hfX, hlX⟩ := bX2.all))
    · have HTQ : Hid _ := hteq
      clear hteq
      go_wp2_with fail
      go_meet
      case rel => exact ⟨_, t, rfl, rfl, Box.new _ _ _, HTQ.out, (Below.step hb1 HB1.out (by simp)).alloc (by have := hb1.size; simp at this; omega) _, (HBX.out.drew.call hb1).alloc _⟩
    · have HTQ : Hid _ := hteq
      clear hteq
      go_wp2_with fail
      go_meet
      case rel => exact ⟨_, t, rfl, rfl, (bX2.set 0 _).set 1 _, HTQ.out, ((Below.step hb1 HB2.out (by simp; omega)).setCell (by simp) _).setCell (by simp) _, (((HBX.out.alloc _).drew.call hb1).set_ne (by simp) _).set_ne (by simp) _⟩
  case rest =>
    obtain ⟨B, t, rfl, rfl, hbt2, hteq, hbw, hbn⟩ := hcut
    have HBW : Hid (Below w.heap.size w wc) := hbw
    have kp := Keeps.of_below hbw
    have f0 := kp _ _ _ hc2
    have f1 := kp _ _ _ d0
    have l0 := cell_lt f0
    have l1 := cell_lt f1
    obtain ⟨hcB, hfB, hlB⟩ := hbt2.all
    obtain ⟨hcN, hfN, hlN⟩ := hbn.all
    have HRET : Hid (∀ W, Below wc.heap.size wc W → RTys W (.slice a cols.length c) cols ∧ BlkOf 108 W (.slice a cols.length c)) := fun W hW =>
      ⟨RSl.mono mono_RTy (Keeps.of_below (Below.step hW HBW.out HBW.out.size)) HTY.out, (HBK.out.call HBW.out).call hW⟩
    clear hbw kp hc2 d0 c0 hbn hbt2 bX n1 n4 n5 nx
    by_cases hr : R.2 = true
    · have hte := hteq hr
      subst hte
      have HFE : Hid (filterOk ⟨2, p, b, es, ks, os, ags⟩ cols = (R.1.1 == 4)) := by unfold Hid; rw [HFO.out, hr]; rfl
      rw [hr]
      clear hteq hr
      by_cases h4 : R.1.1 = 4
      · go_upto_region 11 with fail
        go_quiet (fail)
        go_wp2_with fail
        go_ret2
        refine ⟨?_, below_drewN HBW.out _⟩
        rw [← HO.out, HFE.out, if_pos (by simp [h4])]
        exact ⟨.slice a cols.length c, by simp, HRET.out _ (below_drewN (Below.refl _ _) _)⟩
      · go_upto_region 11 with fail
        go_quiet (fail)
        go_wp2_with fail
        go_ret2
        refine ⟨?_, below_drewN HBW.out _⟩
        rw [← HO.out, HFE.out, if_neg (by simp [h4])]
        exact ⟨.slice a cols.length c, by simp [h4]⟩
    · have hr' : R.2 = false := by simpa using hr
      have HFE : Hid (filterOk ⟨2, p, b, es, ks, os, ags⟩ cols = false) := by unfold Hid; rw [HFO.out, hr']; rfl
      rw [hr']
      clear hteq hr hr'
      go_upto_region 11 with fail
      go_quiet (fail)
      go_wp2_with fail
      go_ret2
      refine ⟨?_, below_drewN HBW.out _⟩
      rw [← HO.out, HFE.out]
      exact ⟨_, rfl⟩

end Go.Proofs.YtekkicgbloidkaaGreatDoor
/- The reference's types of a node: a Project. -/
namespace Go.Proofs.YtekkicgbloidkaaGreatDoor
open Go Go.RowKit
attribute [local go_sem ↓] Go.wp_at_zero Go.wp_at_succ

set_option maxRecDepth 20000 in
set_option maxHeartbeats 8000000 in
theorem typed3_any (bs p : Nat) (b : Int) (es : List (List DTerm)) (ks os : List Int) (ags : List (Int × Int)) (vy : Value) (tys : List (List (Int × Int))) (ve vk vo va vtab : Value) (w : World) (hn : NodeIs w ve vk vo va ⟨3, p, b, es, ks, os, ags⟩) (hc2 : w.cell? ⟨bs, 0, none⟩ = some vy) (ht : RTyss w vy tys) (hp : p < tys.length) (h8 : es.length ≤ 8) (hok : TysOk tys[p]) :
    Calls Tryz.prog 58 #[.pointer (some ⟨bs, 0, none⟩), .agg #[.int .i64 3, .int .i64 p, .int .i64 b, ve, vk, vo, va], vtab] w fun e w' => RTysRet w' e (projRun tys[p] es) ∧ Below w.heap.size w w' := by
  obtain ⟨bt, ot, ct, a, c, rfl, hbt, d0, hty⟩ := tys_at ht hp
  have hbs := cell_lt hc2
  have hi0 : (0 : Int) ≤ (p : Int) := by omega
  have hi1 : (p : Int) < (tys.length : Int) := by omega
  obtain ⟨ae, ce, ak, ck, ao, co, aa, ca, rfl, rfl, rfl, rfl⟩ := hn.shape
  simp only at hn
  have HEX : Hid (RExprs w (.slice ae es.length ce) es) := hn.exprs
  have HTY : Hid (RTys w (.slice a tys[p].length c) tys[p]) := hty
  have HOK : Hid _ := hok
  have HC2 : Hid _ := hc2
  have HD0 : Hid _ := d0
  generalize hT : tys[p] = cols at *
  clear hn hty ht hok hT
  have HN : Hid (Box (w.alloc (.cells #[.int .i64 3, .int .i64 p, .int .i64 b, .slice ae es.length ce, .slice ak ks.length ck, .slice ao os.length co, .slice aa ags.length ca] 71)) w.heap.size #[.int .i64 3, .int .i64 p, .int .i64 b, .slice ae es.length ce, .slice ak ks.length ck, .slice ao os.length co, .slice aa ags.length ca] 71) := Box.new _ _ _
  have HS : Hid ((w.alloc (.cells #[.int .i64 3, .int .i64 p, .int .i64 b, .slice ae es.length ce, .slice ak ks.length ck, .slice ao os.length co, .slice aa ags.length ca] 71)).heap.size = w.heap.size + 1) := by unfold Hid; simp
  have HB0 : Hid (Below w.heap.size w (w.alloc (.cells #[.int .i64 3, .int .i64 p, .int .i64 b, .slice ae es.length ce, .slice ak ks.length ck, .slice ao os.length co, .slice aa ags.length ca] 71))) := (Below.refl _ _).alloc (Nat.le_refl _) _
  go_enter Tryz.func58, Tryz.ntmps58
  go_upto_region 13 with fail
  generalize w.alloc (.cells #[.int .i64 3, .int .i64 p, .int .i64 b, .slice ae es.length ce, .slice ak ks.length ck, .slice ao os.length co, .slice aa ags.length ca] 71) = wN at *
  clear hc2 d0
  obtain ⟨hcn, hfn, hln⟩ := HN.out.all
  go_wp2_with fail
  clear hcn hfn hln
  go_loopw [8, 12] (fun v i W => ∃ (k : Nat) (st : List (Int × Int)), k ≤ es.length ∧ i = .int .i64 k ∧ projRun cols (es.take k) = some st ∧ st.length = k ∧ W.ownsRow (w.heap.size + 1) 108 2 v st.length (flatTy st) ∧ Below (w.heap.size + 1) wN W)
    (fun _ i _ => es.length - (intOf i).toNat)
  case atStart => exact ⟨0, [], Nat.zero_le _, rfl, rfl, rfl, World.ownsRow_nil _ _ _ _, Below.refl _ _⟩
  case round =>
    obtain ⟨k, st, hk, rfl, hrun, hstk, hown, hB⟩ := hrel
    have HRUN : Hid _ := hrun
    have HSK : Hid (st.length = k) := hstk
    have HO : Hid (wr.ownsRow (w.heap.size + 1) 108 2 u8 st.length (flatTy st)) := hown
    have HB : Hid (Below (w.heap.size + 1) wN wr) := hB
    have HBW : Hid (Below w.heap.size w wr) := HB0.out.trans (hB.mono (by omega))
    have HX : Hid (Box wr w.heap.size #[.int .i64 3, .int .i64 p, .int .i64 b, .slice ae es.length ce, .slice ak ks.length ck, .slice ao os.length co, .slice aa ags.length ca] 71) := HN.out.below hB (by omega)
    have HSR : Hid (w.heap.size + 1 ≤ wr.heap.size) := by have := hB.size; have := HS.out; unfold Hid; omega
    clear hrun hstk hown hB
    obtain ⟨hcn, hfn, hln⟩ := HX.out.all
    by_cases hlt : k < es.length
    · obtain ⟨be, oe, cpe, vE, hve, hbe, c0, hex⟩ := exprs_at HEX.out hlt
      simp only [Value.slice.injEq, true_and] at hve
      obtain ⟨rfl, rfl⟩ := hve
      obtain ⟨aE, cE, rfl, -⟩ := hex.shape
      have kp := Keeps.of_below HBW.out
      have hc2 := kp _ _ _ HC2.out
      have d0 := kp _ _ _ HD0.out
      have f0 := kp _ _ _ c0
      have lc := cell_lt hc2
      have ld := cell_lt d0
      have lf := cell_lt f0
      have hj0 : (0 : Int) ≤ (k : Int) := by omega
      have hj1 : (k : Int) < (es.length : Int) := by omega
      have HCU : Hid (∀ W, Keeps wr W → RTys W (.slice a cols.length c) cols) := fun W h => RSl.mono mono_RTy (kp.trans h) HTY.out
      have HEU : Hid (∀ W, Keeps wr W → RTerms W (.slice aE es[k].length cE) es[k]) := fun W h => RSl.mono mono_RTerm (kp.trans h) hex
      have HSTOP : Hid (¬ ((exprTy es[k] cols).2 = true ∧ (exprTy es[k] cols).1.1 ≠ 4) → projRun cols es = none) := fun h => projRun_stop hlt HRUN.out h
      have HGO : Hid ((exprTy es[k] cols).2 = true ∧ (exprTy es[k] cols).1.1 ≠ 4 → projRun cols (es.take (k + 1)) = some (st ++ [(exprTy es[k] cols).1])) := fun h => projRun_go hlt HRUN.out h
      generalize es[k] = E at *
      generalize hR : exprTy E cols = R at *
      have HR : Hid _ := hR
      clear hR c0 hex kp
      have m1 : wr.cell? ⟨w.heap.size, 1, none⟩ = some (.int .i64 p) := hcn 1
      have m3 : wr.cell? ⟨w.heap.size, 3, none⟩ = some (.slice (some ⟨be, oe, none⟩) es.length ce) := hcn 3
      have K1 : Hid (Keeps wr wr.drew) := (Keeps.refl wr).drew
      have K2 : Hid (Keeps wr (wr.alloc (.cells #[.int .i64 0, .int .i64 0] 108)).drew) := ((Keeps.refl wr).alloc _).drew
      have bX : Box (wr.alloc (.cells #[.int .i64 0, .int .i64 0] 108)).drew wr.heap.size #[.int .i64 0, .int .i64 0] 108 := (Box.new wr #[.int .i64 0, .int .i64 0] 108).drew
      have HB1 : Hid (Below wr.heap.size wr wr.drew) := (Below.refl _ _).drew
      have HB2 : Hid (Below wr.heap.size wr (wr.alloc (.cells #[.int .i64 0, .int .i64 0] 108)).drew) := ((Below.refl _ _).alloc (Nat.le_refl _) _).drew
      have n1 : bs ≠ wr.heap.size := by omega
      have n2 : w.heap.size ≠ wr.heap.size := by have := HSR.out; omega
      have n4 : be ≠ wr.heap.size := by omega
      have n5 : bt ≠ wr.heap.size := by omega
      go_upto_region 16 with fail
      go_cut [13, 14] (fun q ok W => ∃ B t, q = .pointer (some ⟨B, 0, none⟩) ∧ ok = .bool R.2 ∧ Box W B #[.int .i64 t.1, .int .i64 t.2] 108 ∧ (R.2 = true → t = R.1) ∧ Below wr.heap.size wr W)
      case first =>
        go_region_held3 (fun W => W.cell? ⟨bs, 0, none⟩ = some (.slice (some ⟨bt, ot, none⟩) tys.length ct) ∧ W.cell? ⟨w.heap.size, 1, none⟩ = some (.int .i64 p) ∧ W.cell? ⟨w.heap.size, 3, none⟩ = some (.slice (some ⟨be, oe, none⟩) es.length ce) ∧ W.cell? ⟨be, oe + k, none⟩ = some (.slice aE E.length cE) ∧ W.cell? ⟨bt, ot + p, none⟩ = some (.slice a cols.length c))
          (first | (go_keep; done) | exact ⟨by first | exact (K1.out.trans (Keeps.of_below hb1)) _ _ _ hc2 | exact (K2.out.trans (Keeps.of_below hb1)) _ _ _ hc2 | exact (Keeps.alloc (K1.out.trans (Keeps.of_below hb1)) _) _ _ _ hc2 | exact cell_set_ne (cell_set_ne ((K2.out.trans (Keeps.of_below hb1)) _ _ _ hc2) n1) n1, by first | exact (K1.out.trans (Keeps.of_below hb1)) _ _ _ m1 | exact (K2.out.trans (Keeps.of_below hb1)) _ _ _ m1 | exact (Keeps.alloc (K1.out.trans (Keeps.of_below hb1)) _) _ _ _ m1 | exact cell_set_ne (cell_set_ne ((K2.out.trans (Keeps.of_below hb1)) _ _ _ m1) n2) n2, by first | exact (K1.out.trans (Keeps.of_below hb1)) _ _ _ m3 | exact (K2.out.trans (Keeps.of_below hb1)) _ _ _ m3 | exact (Keeps.alloc (K1.out.trans (Keeps.of_below hb1)) _) _ _ _ m3 | exact cell_set_ne (cell_set_ne ((K2.out.trans (Keeps.of_below hb1)) _ _ _ m3) n2) n2, by first | exact (K1.out.trans (Keeps.of_below hb1)) _ _ _ f0 | exact (K2.out.trans (Keeps.of_below hb1)) _ _ _ f0 | exact (Keeps.alloc (K1.out.trans (Keeps.of_below hb1)) _) _ _ _ f0 | exact cell_set_ne (cell_set_ne ((K2.out.trans (Keeps.of_below hb1)) _ _ _ f0) n4) n4, by first | exact (K1.out.trans (Keeps.of_below hb1)) _ _ _ d0 | exact (K2.out.trans (Keeps.of_below hb1)) _ _ _ d0 | exact (Keeps.alloc (K1.out.trans (Keeps.of_below hb1)) _) _ _ _ d0 | exact cell_set_ne (cell_set_ne ((K2.out.trans (Keeps.of_below hb1)) _ _ _ d0) n5) n5⟩)
          (first | (go_at_call 74; refine (exprType_any E cols HOK.out _ _ _ (HEU.out _ K1.out) (HCU.out _ K1.out)).mono ?_; rw [HR.out]; rintro e w1 ⟨⟨t, rfl, hteq⟩, hb1⟩) | (go_at_call 74; refine (exprType_any E cols HOK.out _ _ _ (HEU.out _ K2.out) (HCU.out _ K2.out)).mono ?_; rw [HR.out]; rintro e w1 ⟨⟨t, rfl, hteq⟩, hb1⟩; have bX2 := bX.call hb1; obtain ⟨hcX, hfX, hlX⟩ := bX2.all))
        · have HTQ : Hid _ := hteq
          clear hteq
          go_wp2_with fail
          go_meet
          case rel => exact ⟨_, t, rfl, rfl, Box.new _ _ _, HTQ.out, (Below.step hb1 HB1.out (by simp)).alloc (by have := hb1.size; simpa using this) _⟩
        · have HTQ : Hid _ := hteq
          clear hteq
          go_wp2_with fail
          go_meet
          case rel => exact ⟨_, t, rfl, rfl, (bX2.set 0 _).set 1 _, HTQ.out, ((Below.step hb1 HB2.out (by simp)).setCell (by simp) _).setCell (by simp) _⟩
      case rest =>
        obtain ⟨B, t, rfl, rfl, hbt2, hteq, hbw⟩ := hcut
        have HBC : Hid (Below wr.heap.size wr wc) := hbw
        have HBB : Hid (Box wc B #[.int .i64 t.1, .int .i64 t.2] 108) := hbt2
        have HBCW : Hid (Below w.heap.size w wc) := HBW.out.trans (hbw.mono (by have := HSR.out; omega))
        obtain ⟨hcB, hfB, hlB⟩ := HBB.out.all
        clear hbw hbt2 bX n1 n2 n4 n5 hc2 d0 f0 m1 m3 hcn hfn hln lc ld lf
        by_cases hr : R.2 = true
        · have hte := hteq hr
          subst hte
          have HR2 : Hid _ := hr
          rw [hr]
          clear hteq hr
          by_cases h4 : R.1.1 = 4
          · have HNO : Hid (projRun cols es = none) := HSTOP.out (fun h => h.2 h4)
            go_wp2_with fail
            go_ret2
            exact ⟨by rw [HNO.out]; exact ⟨_, rfl⟩, HBCW.out⟩
          · have h4' : (R.1.1 == 4) = false := by simp [h4]
            have HYES : Hid _ := HGO.out ⟨HR2.out, h4⟩
            clear h4
            have HOG : Hid ((wc.alloc (.cells #[.int .i64 R.1.1, .int .i64 R.1.2] 108)).ownsRow (w.heap.size + 1) 108 2 u8 st.length (flatTy st)) := World.ownsRow.alloc (owns_call HO.out HBC.out) _
            have HNW : Hid (∀ j u, ([.int .i64 R.1.1, .int .i64 R.1.2] : List Value)[j]? = some u → (wc.alloc (.cells #[.int .i64 R.1.1, .int .i64 R.1.2] 108)).cell? ⟨wc.heap.size, j, none⟩ = some u) := new_two (Box.new wc _ _)
            have HS0 : Hid ((wc.alloc (.cells #[.int .i64 R.1.1, .int .i64 R.1.2] 108)).heap.size = wc.heap.size + 1) := by unfold Hid; simp
            have HS1 : Hid (w.heap.size + 1 ≤ (wc.alloc (.cells #[.int .i64 R.1.1, .int .i64 R.1.2] 108)).heap.size) := by have := HSR.out; have := HBC.out.size; unfold Hid; simp; omega
            have hst8 : st.length ≤ 8 := by have := HSK.out; omega
            go_wp2_with (at_builtin; refine app_one elem_rty _ (by rfl) _ _ (by rfl) (w.heap.size + 1) u8 st.length (flatTy st) (by rfl) HOG.out wc.heap.size 1 1 _ (by rfl) rfl HNW.out (one_two _ _) (by omega) (by omega) (by omega) HS1.out (wc.heap.size + 1) HS0.out ?_; intro g3 cap3 w3 hown3 hg3 hat3 hlt3)
            have hlen : (st ++ [R.1]).length = st.length + 1 := by simp
            have HO3 : Hid (w3.ownsRow (w.heap.size + 1) 108 2 (.slice (some ⟨g3, 0, none⟩) (st.length + 1) cap3) (st ++ [R.1]).length (flatTy (st ++ [R.1]))) := by unfold Hid; rw [hlen, ← flatTy_snoc]; exact hown3
            have HB3 : Hid (Below (w.heap.size + 1) wN w3) := ((HB.out.trans (HBC.out.mono HSR.out)).alloc (by have := HSR.out; have := HBC.out.size; omega) _).grown hg3 HS1.out (fun g hg => (HO.out.lt g hg).1)
            clear hown3 hg3 hat3 hlt3
            go_roundw
            case rel => exact ⟨k + 1, st ++ [R.1], by omega, by go_num, HYES.out, by rw [hlen, HSK.out], HO3.out, HB3.out⟩
            case measure => simp [intOf]; omega
        · have hr' : R.2 = false := by simpa using hr
          have HNO : Hid (projRun cols es = none) := HSTOP.out (fun h => hr h.1)
          rw [hr']
          clear hteq hr hr'
          go_wp2_with fail
          go_ret2
          exact ⟨by rw [HNO.out]; exact ⟨_, rfl⟩, HBCW.out⟩
    · have hke : es.take k = es := List.take_of_length_le (by omega)
      have HE : Hid (projRun cols es = some st) := by have := HRUN.out; rw [hke] at this; exact this
      have hst8 : st.length ≤ 8 := by have := HSK.out; omega
      clear hke
      go_wp2_with fail
      go_ret2
      exact ⟨by rw [HE.out]; exact ⟨_, rfl, RTys.owns HO.out (by omega), BlkOf.owns HO.out⟩, HBW.out⟩

end Go.Proofs.YtekkicgbloidkaaGreatDoor
