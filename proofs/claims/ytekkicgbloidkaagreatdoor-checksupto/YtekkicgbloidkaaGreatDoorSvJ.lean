/- The types of a node's columns. -/
import Derived.Test.YtekkicgbloidkaaGreatDoorSvF
namespace Go.Proofs.YtekkicgbloidkaaGreatDoor
open Go Go.RowKit
attribute [local go_sem ↓] Go.wp_at_zero Go.wp_at_succ

def colsRun (n : DNode) (ts : List (List DCol)) (tys : List (List (Int × Int))) : Option (List (Int × Int)) :=
  if n.op = 1 then some (tabTys (ts.getD n.a.toNat [])) else if n.op = 2 then (if filterOk n (tys.getD n.a.toNat []) = true then some (tys.getD n.a.toNat []) else none)
  else if n.op = 3 then projRun (tys.getD n.a.toNat []) n.exprs else if n.op = 4 then joinRun n (tys.getD n.a.toNat []) (tys.getD n.b.toNat []) else groupRun n (tys.getD n.a.toNat [])

/-- The same, of a value and a flag. -/
def TysIs (w : World) (v : Value) (ok : Bool) (o : Option (List (Int × Int))) : Prop :=
  match o with
  | some l => ok = true ∧ RTys w v l ∧ BlkOf 103 w v
  | none => ok = false
theorem TysRet.shape {w : World} {e : Ending} {o : Option (List (Int × Int))} (h : TysRet w e o) : ∃ v ok, e = .returned (.tuple #[v, .bool ok]) ∧ TysIs w v ok o := by
  cases o with
  | none => obtain ⟨v, h⟩ := h; exact ⟨v, false, h, rfl⟩
  | some l => obtain ⟨v, h, hv⟩ := h; exact ⟨v, true, h, rfl, hv⟩
theorem TysIs.ret {w : World} {v : Value} {ok : Bool} {o : Option (List (Int × Int))} (h : TysIs w v ok o) : TysRet w (.returned (.tuple #[v, .bool ok])) o := by
  cases o with
  | none => simp only [TysIs] at h; subst h; exact ⟨v, rfl⟩
  | some l => obtain ⟨h, hv⟩ := h; subst h; exact ⟨v, rfl, hv⟩
theorem tys_at {w : World} {v : Value} {tys : List (List (Int × Int))} (h : RTyss w v tys) {k : Nat} (hk : k < tys.length) :
    ∃ b off cap a c, v = .slice (some ⟨b, off, none⟩) tys.length cap ∧ b < w.heap.size ∧ w.cell? ⟨b, off + k, none⟩ = some (.slice a tys[k].length c) ∧ RTys w (.slice a tys[k].length c) tys[k] := by
  obtain ⟨ao, cap, rfl, hl, hel⟩ := h
  obtain ⟨b, off, rfl, v, h0, hv⟩ := hel k hk
  simp only [Nat.mul_one, Nat.add_zero] at h0
  obtain ⟨a, c, rfl, -⟩ := hv.shape
  exact ⟨b, off, cap, a, c, rfl, cell_lt h0, h0, hv⟩

theorem tabs_at2 {w : World} {v : Value} {ts : List (List DCol)} (h : RTabs w v ts) {k : Nat} (hk : k < ts.length) :
    ∃ b off cap a c, v = .slice (some ⟨b, off, none⟩) ts.length cap ∧ b < w.heap.size ∧ w.cell? ⟨b, off + k, none⟩ = some (.slice a ts[k].length c) ∧ RCols w (.slice a ts[k].length c) ts[k] := by
  obtain ⟨ao, cap, rfl, hl, hel⟩ := h
  obtain ⟨b, off, v, rfl, h0, hv⟩ := tabs_at hel hk
  obtain ⟨a, c, rfl, -⟩ := hv.shape
  exact ⟨b, off, cap, a, c, rfl, cell_lt h0, h0, hv⟩

set_option maxHeartbeats 2000000 in
theorem columns1_any (bs p : Nat) (b : Int) (vt : Value) (ts : List (List DCol)) (ae ak ao aa : Option Addr) (le lk lo la ce ck co ca : Nat) (w : World) (hc0 : w.cell? ⟨bs, 0, none⟩ = some vt) (ht : RTabs w vt ts) (hp : p < ts.length) (h8 : ts[p].length ≤ 8) :
    Calls Tryz.prog 70 #[.pointer (some ⟨bs, 0, none⟩), .agg #[.int .i64 1, .int .i64 p, .int .i64 b, .slice ae le ce, .slice ak lk ck, .slice ao lo co, .slice aa la ca]] w fun e w' => TysRet w' e (some (tabTys ts[p])) ∧ Below w.heap.size w w' := by
  obtain ⟨bt, ot, ct, a, c, rfl, hbt, d0, hcols⟩ := tabs_at2 ht hp
  have hbs := cell_lt hc0
  have hi0 : (0 : Int) ≤ (p : Int) := by omega
  have hi1 : (p : Int) < (ts.length : Int) := by omega
  have kp := ((Keeps.refl w).alloc (.cells #[.int .i64 1, .int .i64 p, .int .i64 b, .slice ae le ce, .slice ak lk ck, .slice ao lo co, .slice aa la ca] 71)).drew
  have hcols' := RSl.mono mono_RCol kp hcols
  have HC : Hid _ := hcols'
  have hB0 := ((Below.refl w.heap.size w).alloc (Nat.le_refl _) (.cells #[.int .i64 1, .int .i64 p, .int .i64 b, .slice ae le ce, .slice ak lk ck, .slice ao lo co, .slice aa la ca] 71)).drew
  have HB0 : Hid _ := hB0
  clear kp hcols hcols' ht hB0
  go_enter Tryz.func70, Tryz.ntmps70
  go_wp2_with fail
  go_region_held3 (fun W => W.cell? ⟨bs, 0, none⟩ = some (.slice (some ⟨bt, ot, none⟩) ts.length ct) ∧ W.cell? ⟨w.heap.size, 1, none⟩ = some (.int .i64 p) ∧ W.cell? ⟨bt, ot + p, none⟩ = some (.slice a ts[p].length c))
    ((go_split_ands; refine ⟨?_, ?_, ?_⟩ <;> first | (exact (Keeps.of_below hb1) _ _ _ (by assumption)) | (go_keep; done)))
    (first | (go_at_call 83; refine (tableTypes_any ts[p] _ _ HC.out (by omega)).mono ?_; rintro e w1 ⟨v1, rfl, hv1, hbv1, hb1⟩))
  have HB1 : Hid (Below w.heap.size w w1) := Below.step hb1 HB0.out (by simp)
  clear hb1
  go_wp2_with fail
  go_ret2
  exact ⟨⟨_, rfl, hv1, hbv1⟩, HB1.out⟩

theorem filtered_ret (n : DNode) (ve vk vo va vc : Value) (cols : List (Int × Int)) (w : World) (hn : NodeIs w ve vk vo va n) (h1 : 0 < n.exprs.length) (hv : RTys w vc cols) (hvb : BlkOf 103 w vc) :
    Calls Tryz.prog 84 #[nodeV n ve vk vo va, vc] w fun e w' => TysRet w' e (if filterOk n cols = true then some cols else none) ∧ Below w.heap.size w w' := by
  refine (filtered_any n ve vk vo va vc cols w hn h1 hv).mono ?_
  rintro e w1 ⟨rfl, hb1⟩
  refine ⟨?_, hb1⟩
  by_cases hf : filterOk n cols = true
  · rw [if_pos hf, hf]; exact ⟨_, rfl, RSl.mono mono_RTy (Keeps.of_below hb1) hv, hvb.call hb1⟩
  · rw [if_neg hf]; exact ⟨vc, by simp [hf]⟩

set_option maxHeartbeats 2000000 in
theorem columns2_any (bs p : Nat) (b : Int) (es : List (List DTerm)) (ks os : List Int) (ags : List (Int × Int)) (vy : Value) (tys : List (List (Int × Int))) (ve vk vo va : Value) (w : World) (hn : NodeIs w ve vk vo va ⟨2, p, b, es, ks, os, ags⟩) (hc2 : w.cell? ⟨bs, 2, none⟩ = some vy) (ht : RTyss w vy tys) (hp : p < tys.length) (h1 : 0 < es.length) (hblk : ∀ b off cap v, vy = .slice (some ⟨b, off, none⟩) tys.length cap → w.cell? ⟨b, off + p, none⟩ = some v → BlkOf 103 w v) :
    Calls Tryz.prog 70 #[.pointer (some ⟨bs, 0, none⟩), .agg #[.int .i64 2, .int .i64 p, .int .i64 b, ve, vk, vo, va]] w fun e w' => TysRet w' e (if filterOk ⟨2, p, b, es, ks, os, ags⟩ tys[p] = true then some tys[p] else none) ∧ Below w.heap.size w w' := by
  obtain ⟨bt, ot, ct, a, c, rfl, hbt, d0, hty⟩ := tys_at ht hp
  have hbs := cell_lt hc2
  have hi0 : (0 : Int) ≤ (p : Int) := by omega
  have hi1 : (p : Int) < (tys.length : Int) := by omega
  obtain ⟨ae, ce, ak, ck, ao, co, aa, ca, rfl, rfl, rfl, rfl⟩ := hn.shape
  simp only at hn
  have kp := ((Keeps.refl w).alloc (.cells #[.int .i64 2, .int .i64 p, .int .i64 b, .slice ae es.length ce, .slice ak ks.length ck, .slice ao os.length co, .slice aa ags.length ca] 71)).drew
  have hty' := RSl.mono mono_RTy kp hty
  have hn' := hn.mono kp
  have HC : Hid (RTys _ _ tys[p]) := hty'
  have HBK : Hid (BlkOf 103 _ _) := (hblk _ _ _ _ rfl d0).call (((Below.refl w.heap.size w).alloc (Nat.le_refl _) (.cells #[.int .i64 2, .int .i64 p, .int .i64 b, .slice ae es.length ce, .slice ak ks.length ck, .slice ao os.length co, .slice aa ags.length ca] 71)).drew)
  have HN : Hid _ := hn'
  have HB0 : Hid _ := ((Below.refl w.heap.size w).alloc (Nat.le_refl _) (.cells #[.int .i64 2, .int .i64 p, .int .i64 b, .slice ae es.length ce, .slice ak ks.length ck, .slice ao os.length co, .slice aa ags.length ca] 71)).drew
  clear hblk kp hty hty' ht hn hn'
  generalize hO : (if filterOk ⟨2, p, b, es, ks, os, ags⟩ tys[p] = true then some tys[p] else none) = o
  have HO : Hid _ := hO
  clear hO
  go_enter Tryz.func70, Tryz.ntmps70
  go_wp2_with fail
  go_region_held3 (fun W => W.cell? ⟨bs, 2, none⟩ = some (.slice (some ⟨bt, ot, none⟩) tys.length ct) ∧ W.cell? ⟨w.heap.size, 0, none⟩ = some (.int .i64 2) ∧ W.cell? ⟨w.heap.size, 1, none⟩ = some (.int .i64 p) ∧ W.cell? ⟨w.heap.size, 2, none⟩ = some (.int .i64 b) ∧ W.cell? ⟨w.heap.size, 3, none⟩ = some (.slice ae es.length ce) ∧ W.cell? ⟨w.heap.size, 4, none⟩ = some (.slice ak ks.length ck) ∧ W.cell? ⟨w.heap.size, 5, none⟩ = some (.slice ao os.length co) ∧ W.cell? ⟨w.heap.size, 6, none⟩ = some (.slice aa ags.length ca) ∧ W.cell? ⟨bt, ot + p, none⟩ = some (.slice a tys[p].length c))
    ((go_split_ands; refine ⟨?_, ?_, ?_, ?_, ?_, ?_, ?_, ?_, ?_⟩ <;> first | (exact (Keeps.of_below hb1) _ _ _ (by assumption)) | (go_keep; done)))
    (first | (go_at_call 84; refine (filtered_ret ⟨2, p, b, es, ks, os, ags⟩ _ _ _ _ _ tys[p] _ HN.out h1 HC.out HBK.out).mono ?_; rintro e w1 ⟨hret, hb1⟩; obtain ⟨v1, ok1, rfl, hti⟩ := TysRet.shape hret))
  have HB1 : Hid (Below w.heap.size w w1) := Below.step hb1 HB0.out (by simp)
  have HTI : Hid (TysIs w1 v1 ok1 _) := hti
  clear hb1 hret hti
  go_wp2_with fail
  go_ret2
  exact ⟨by rw [← HO.out]; exact HTI.out.ret, HB1.out⟩

set_option maxHeartbeats 2000000 in
theorem columns3_any (bs p : Nat) (b : Int) (es : List (List DTerm)) (ks os : List Int) (ags : List (Int × Int)) (vy : Value) (tys : List (List (Int × Int))) (ve vk vo va : Value) (w : World) (hn : NodeIs w ve vk vo va ⟨3, p, b, es, ks, os, ags⟩) (hc2 : w.cell? ⟨bs, 2, none⟩ = some vy) (ht : RTyss w vy tys) (hp : p < tys.length) (h8 : es.length ≤ 8) :
    Calls Tryz.prog 70 #[.pointer (some ⟨bs, 0, none⟩), .agg #[.int .i64 3, .int .i64 p, .int .i64 b, ve, vk, vo, va]] w fun e w' => TysRet w' e (projRun tys[p] es) ∧ Below w.heap.size w w' := by
  obtain ⟨bt, ot, ct, a, c, rfl, hbt, d0, hty⟩ := tys_at ht hp
  have hbs := cell_lt hc2
  have hi0 : (0 : Int) ≤ (p : Int) := by omega
  have hi1 : (p : Int) < (tys.length : Int) := by omega
  obtain ⟨ae, ce, ak, ck, ao, co, aa, ca, rfl, rfl, rfl, rfl⟩ := hn.shape
  simp only at hn
  have kp := ((Keeps.refl w).alloc (.cells #[.int .i64 3, .int .i64 p, .int .i64 b, .slice ae es.length ce, .slice ak ks.length ck, .slice ao os.length co, .slice aa ags.length ca] 71)).drew
  have hty' := RSl.mono mono_RTy kp hty
  have hn' := hn.mono kp
  have HC : Hid (RTys _ _ tys[p]) := hty'
  have HN : Hid _ := hn'
  have HB0 : Hid _ := ((Below.refl w.heap.size w).alloc (Nat.le_refl _) (.cells #[.int .i64 3, .int .i64 p, .int .i64 b, .slice ae es.length ce, .slice ak ks.length ck, .slice ao os.length co, .slice aa ags.length ca] 71)).drew
  clear kp hty hty' ht hn hn'
  generalize hO : (projRun tys[p] es) = o
  have HO : Hid _ := hO
  clear hO
  go_enter Tryz.func70, Tryz.ntmps70
  go_wp2_with fail
  go_region_held3 (fun W => W.cell? ⟨bs, 2, none⟩ = some (.slice (some ⟨bt, ot, none⟩) tys.length ct) ∧ W.cell? ⟨w.heap.size, 0, none⟩ = some (.int .i64 3) ∧ W.cell? ⟨w.heap.size, 1, none⟩ = some (.int .i64 p) ∧ W.cell? ⟨w.heap.size, 2, none⟩ = some (.int .i64 b) ∧ W.cell? ⟨w.heap.size, 3, none⟩ = some (.slice ae es.length ce) ∧ W.cell? ⟨w.heap.size, 4, none⟩ = some (.slice ak ks.length ck) ∧ W.cell? ⟨w.heap.size, 5, none⟩ = some (.slice ao os.length co) ∧ W.cell? ⟨w.heap.size, 6, none⟩ = some (.slice aa ags.length ca) ∧ W.cell? ⟨bt, ot + p, none⟩ = some (.slice a tys[p].length c))
    ((go_split_ands; refine ⟨?_, ?_, ?_, ?_, ?_, ?_, ?_, ?_, ?_⟩ <;> first | (exact (Keeps.of_below hb1) _ _ _ (by assumption)) | (go_keep; done)))
    (first | (go_at_call 85; refine (projected_any ⟨3, p, b, es, ks, os, ags⟩ _ _ _ _ _ tys[p] _ HN.out h8 HC.out).mono ?_; rintro e w1 ⟨hret, hb1⟩; obtain ⟨v1, ok1, rfl, hti⟩ := TysRet.shape hret))
  have HB1 : Hid (Below w.heap.size w w1) := Below.step hb1 HB0.out (by simp)
  have HTI : Hid (TysIs w1 v1 ok1 _) := hti
  clear hb1 hret hti
  go_wp2_with fail
  go_ret2
  exact ⟨by rw [← HO.out]; exact HTI.out.ret, HB1.out⟩

set_option maxHeartbeats 2000000 in
theorem columns5_any (bs p : Nat) (b : Int) (es : List (List DTerm)) (ks os : List Int) (ags : List (Int × Int)) (vy : Value) (tys : List (List (Int × Int))) (ve vk vo va : Value) (w : World) (hn : NodeIs w ve vk vo va ⟨5, p, b, es, ks, os, ags⟩) (hc2 : w.cell? ⟨bs, 2, none⟩ = some vy) (ht : RTyss w vy tys) (hp : p < tys.length) (h4 : ks.length ≤ 4) (h6 : ags.length ≤ 6) :
    Calls Tryz.prog 70 #[.pointer (some ⟨bs, 0, none⟩), .agg #[.int .i64 5, .int .i64 p, .int .i64 b, ve, vk, vo, va]] w fun e w' => TysRet w' e (groupRun ⟨5, p, b, es, ks, os, ags⟩ tys[p]) ∧ Below w.heap.size w w' := by
  obtain ⟨bt, ot, ct, a, c, rfl, hbt, d0, hty⟩ := tys_at ht hp
  have hbs := cell_lt hc2
  have hi0 : (0 : Int) ≤ (p : Int) := by omega
  have hi1 : (p : Int) < (tys.length : Int) := by omega
  obtain ⟨ae, ce, ak, ck, ao, co, aa, ca, rfl, rfl, rfl, rfl⟩ := hn.shape
  simp only at hn
  have kp := ((Keeps.refl w).alloc (.cells #[.int .i64 5, .int .i64 p, .int .i64 b, .slice ae es.length ce, .slice ak ks.length ck, .slice ao os.length co, .slice aa ags.length ca] 71)).drew
  have hty' := RSl.mono mono_RTy kp hty
  have hn' := hn.mono kp
  have HC : Hid (RTys _ _ tys[p]) := hty'
  have HN : Hid _ := hn'
  have HB0 : Hid _ := ((Below.refl w.heap.size w).alloc (Nat.le_refl _) (.cells #[.int .i64 5, .int .i64 p, .int .i64 b, .slice ae es.length ce, .slice ak ks.length ck, .slice ao os.length co, .slice aa ags.length ca] 71)).drew
  clear kp hty hty' ht hn hn'
  generalize hO : (groupRun ⟨5, p, b, es, ks, os, ags⟩ tys[p]) = o
  have HO : Hid _ := hO
  clear hO
  go_enter Tryz.func70, Tryz.ntmps70
  go_wp2_with fail
  go_region_held3 (fun W => W.cell? ⟨bs, 2, none⟩ = some (.slice (some ⟨bt, ot, none⟩) tys.length ct) ∧ W.cell? ⟨w.heap.size, 0, none⟩ = some (.int .i64 5) ∧ W.cell? ⟨w.heap.size, 1, none⟩ = some (.int .i64 p) ∧ W.cell? ⟨w.heap.size, 2, none⟩ = some (.int .i64 b) ∧ W.cell? ⟨w.heap.size, 3, none⟩ = some (.slice ae es.length ce) ∧ W.cell? ⟨w.heap.size, 4, none⟩ = some (.slice ak ks.length ck) ∧ W.cell? ⟨w.heap.size, 5, none⟩ = some (.slice ao os.length co) ∧ W.cell? ⟨w.heap.size, 6, none⟩ = some (.slice aa ags.length ca) ∧ W.cell? ⟨bt, ot + p, none⟩ = some (.slice a tys[p].length c))
    ((go_split_ands; refine ⟨?_, ?_, ?_, ?_, ?_, ?_, ?_, ?_, ?_⟩ <;> first | (exact (Keeps.of_below hb1) _ _ _ (by assumption)) | (go_keep; done)))
    (first | (go_at_call 87; refine (grouped_any ⟨5, p, b, es, ks, os, ags⟩ _ _ _ _ _ tys[p] _ HN.out h4 h6 HC.out).mono ?_; rintro e w1 ⟨hret, hb1⟩; obtain ⟨v1, ok1, rfl, hti⟩ := TysRet.shape hret))
  have HB1 : Hid (Below w.heap.size w w1) := Below.step hb1 HB0.out (by simp)
  have HTI : Hid (TysIs w1 v1 ok1 _) := hti
  clear hb1 hret hti
  go_wp2_with fail
  go_ret2
  exact ⟨by rw [← HO.out]; exact HTI.out.ret, HB1.out⟩

set_option maxHeartbeats 2000000 in
theorem columns4_any (bs p q : Nat) (es : List (List DTerm)) (ks os : List Int) (ags : List (Int × Int)) (vy : Value) (tys : List (List (Int × Int))) (ve vk vo va : Value) (w : World) (hn : NodeIs w ve vk vo va ⟨4, p, q, es, ks, os, ags⟩) (hc2 : w.cell? ⟨bs, 2, none⟩ = some vy) (ht : RTyss w vy tys) (hp : p < tys.length) (hq : q < tys.length) (h4 : ks.length ≤ 4) (hko : os.length = ks.length) (h1p : 0 < tys[p].length) (h1q : 0 < tys[q].length) (h8p : tys[p].length ≤ 8) (h8q : tys[q].length ≤ 8) :
    Calls Tryz.prog 70 #[.pointer (some ⟨bs, 0, none⟩), .agg #[.int .i64 4, .int .i64 p, .int .i64 q, ve, vk, vo, va]] w fun e w' => TysRet w' e (joinRun ⟨4, p, q, es, ks, os, ags⟩ tys[p] tys[q]) ∧ Below w.heap.size w w' := by
  obtain ⟨bt, ot, ct, a, c, rfl, hbt, d0, hty⟩ := tys_at ht hp
  obtain ⟨bt2, ot2, ct2, a2, c2, hvq, -, d2, htq⟩ := tys_at ht hq
  simp only [Value.slice.injEq, Option.some.injEq, Addr.mk.injEq, and_true, true_and] at hvq
  obtain ⟨⟨rfl, rfl⟩, rfl⟩ := hvq
  have hj0 : (0 : Int) ≤ (q : Int) := by omega
  have hj1 : (q : Int) < (tys.length : Int) := by omega
  have hbs := cell_lt hc2
  have hi0 : (0 : Int) ≤ (p : Int) := by omega
  have hi1 : (p : Int) < (tys.length : Int) := by omega
  obtain ⟨ae, ce, ak, ck, ao, co, aa, ca, rfl, rfl, rfl, rfl⟩ := hn.shape
  simp only at hn
  have kp := ((Keeps.refl w).alloc (.cells #[.int .i64 4, .int .i64 p, .int .i64 q, .slice ae es.length ce, .slice ak ks.length ck, .slice ao os.length co, .slice aa ags.length ca] 71)).drew
  have hty' := RSl.mono mono_RTy kp hty
  have hn' := hn.mono kp
  have HC : Hid (RTys _ _ tys[p]) := hty'
  have HCQ : Hid (RTys _ _ tys[q]) := RSl.mono mono_RTy kp htq
  have HKO : Hid (os.length = ks.length) := hko
  have HN : Hid _ := hn'
  have HB0 : Hid _ := ((Below.refl w.heap.size w).alloc (Nat.le_refl _) (.cells #[.int .i64 4, .int .i64 p, .int .i64 q, .slice ae es.length ce, .slice ak ks.length ck, .slice ao os.length co, .slice aa ags.length ca] 71)).drew
  clear kp hty hty' ht hn hn' htq hko
  generalize hO : (joinRun ⟨4, p, q, es, ks, os, ags⟩ tys[p] tys[q]) = o
  have HO : Hid _ := hO
  clear hO
  go_enter Tryz.func70, Tryz.ntmps70
  go_wp2_with fail
  go_region_held3 (fun W => W.cell? ⟨bs, 2, none⟩ = some (.slice (some ⟨bt, ot, none⟩) tys.length ct) ∧ W.cell? ⟨w.heap.size, 0, none⟩ = some (.int .i64 4) ∧ W.cell? ⟨w.heap.size, 1, none⟩ = some (.int .i64 p) ∧ W.cell? ⟨w.heap.size, 2, none⟩ = some (.int .i64 q) ∧ W.cell? ⟨w.heap.size, 3, none⟩ = some (.slice ae es.length ce) ∧ W.cell? ⟨w.heap.size, 4, none⟩ = some (.slice ak ks.length ck) ∧ W.cell? ⟨w.heap.size, 5, none⟩ = some (.slice ao os.length co) ∧ W.cell? ⟨w.heap.size, 6, none⟩ = some (.slice aa ags.length ca) ∧ W.cell? ⟨bt, ot + p, none⟩ = some (.slice a tys[p].length c) ∧ W.cell? ⟨bt, ot + q, none⟩ = some (.slice a2 tys[q].length c2))
    ((go_split_ands; refine ⟨?_, ?_, ?_, ?_, ?_, ?_, ?_, ?_, ?_, ?_⟩ <;> first | (exact (Keeps.of_below hb1) _ _ _ (by assumption)) | (go_keep; done)))
    (first | (go_at_call 86; refine (joined_any ⟨4, p, q, es, ks, os, ags⟩ _ _ _ _ _ _ tys[p] tys[q] _ HN.out h4 HKO.out HC.out HCQ.out h1p h1q h8p h8q).mono ?_; rintro e w1 ⟨hret, hb1⟩; obtain ⟨v1, ok1, rfl, hti⟩ := TysRet.shape hret))
  have HB1 : Hid (Below w.heap.size w w1) := Below.step hb1 HB0.out (by simp)
  have HTI : Hid (TysIs w1 v1 ok1 _) := hti
  clear hb1 hret hti
  go_wp2_with fail
  go_ret2
  exact ⟨by rw [← HO.out]; exact HTI.out.ret, HB1.out⟩


end Go.Proofs.YtekkicgbloidkaaGreatDoor
/- What is known of a plan, with the memory that it owns. -/
namespace Go.Proofs.YtekkicgbloidkaaGreatDoor
open Go Go.RowKit

theorem shape_box {w : World} {b : Nat} {cs : Array Value} {T : TypeId} (h : Box w b cs T) : w.shape? b = some (T, cs.size) := by
  unfold Box at h; simp [World.shape?, h]

theorem BlkOf.ne {T T' : TypeId} {w : World} {b off n c g : Nat} {cs : Array Value} (h : BlkOf T w (.slice (some ⟨b, off, none⟩) n c)) (hg : Box w g cs T') (hne : T ≠ T') : b ≠ g := by
  rintro rfl
  obtain ⟨k, hk⟩ := h _ _ _ _ rfl
  rw [shape_box hg] at hk
  simp only [Option.some.injEq, Prod.mk.injEq] at hk
  exact hne hk.1.symm

/-- A reading that leads to a block of one element type stays where blocks of another are written. -/
theorem RSl.typed {α : Type} {sz : Nat} {R : World → (Nat → Option Value) → α → Prop} {w w' : World} {v : Value} {xs : List α} (h : RSl w sz R v xs) (hR : ∀ rd rd' x, (∀ j, rd' j = rd j) → R w rd x → R w' rd' x)
    (hk : ∀ b off n c, v = .slice (some ⟨b, off, none⟩) n c → ∀ o, w'.cell? ⟨b, o, none⟩ = w.cell? ⟨b, o, none⟩) : RSl w' sz R v xs := by
  obtain ⟨ao, cap, rfl, hl, hel⟩ := h
  refine ⟨ao, cap, rfl, hl, fun i hi => ?_⟩
  obtain ⟨b, off, rfl, hr⟩ := hel i hi
  exact ⟨b, off, rfl, hR _ _ _ (fun j => hk b off _ _ rfl _) hr⟩

theorem RTys.blk {w w' : World} {v : Value} {l : List (Int × Int)} (h : RTys w v l) (hk : ∀ b off n c, v = .slice (some ⟨b, off, none⟩) n c → w'.heap[b]? = w.heap[b]?) : RTys w' v l := by
  refine RSl.typed h ?_ (fun b off n c e o => World.cell?_of_block (w := w) (hk b off n c e))
  intro rd rd' x he hr
  exact ⟨by rw [he]; exact hr.1, by rw [he]; exact hr.2⟩
theorem RInts.blk {w w' : World} {v : Value} {l : List Int} (h : RInts w v l) (hk : ∀ b off n c, v = .slice (some ⟨b, off, none⟩) n c → w'.heap[b]? = w.heap[b]?) : RInts w' v l := by
  refine RSl.typed h ?_ (fun b off n c e o => World.cell?_of_block (w := w) (hk b off n c e))
  intro rd rd' x he hr
  unfold RI64 at *; rw [he]; exact hr
theorem BlkOf.blk {T : TypeId} {w w' : World} {v : Value} (h : BlkOf T w v) (hk : ∀ b off n c, v = .slice (some ⟨b, off, none⟩) n c → w'.heap[b]? = w.heap[b]?) : BlkOf T w' v := by
  intro b off n c e
  obtain ⟨k, hk'⟩ := h b off n c e
  refine ⟨k, ?_⟩
  simp only [World.shape?] at hk' ⊢
  rw [hk b off n c e]; exact hk'

/-- What is known of a plan, and the memory that holds it. -/
structure Own (w0 w : World) (bs : Nat) (vt vn vy vk : Value) (ts : List (List DCol)) (ns : List DNode) (tys : List (List (Int × Int))) (tk : List Bool) (vals : List Value) : Prop where
  below : Below w0.heap.size w0 w
  tabs : RTabs w0 vt ts
  nodes : RNodes w0 vn ns
  bsge : w0.heap.size ≤ bs
  box : Box w bs #[vt, vn, vy, vk] 131
  owny : w.ownsRow w0.heap.size 101 1 vy tys.length vals
  ownk : w.ownsRow w0.heap.size 4 1 vk tk.length (tk.map .bool)
  small : tys.length ≤ 1000
  smallk : tk.length ≤ 1000
  each : ∀ j (h : j < tys.length), ∃ v, vals[j]? = some v ∧ RTys w v tys[j] ∧ BlkOf 103 w v

theorem RBools.owns {w : World} {base : Nat} {e : TypeId} {v : Value} {l : List Bool} (h : w.ownsRow base e 1 v l.length (l.map .bool)) (hl : l.length ≤ 9223372036854775807) : RBools w v l := by
  have h' := h
  rcases h'.2 with ⟨rfl, h0⟩ | ⟨g, cap, cur, rfl, hr⟩
  · have : l = [] := List.eq_nil_of_length_eq_zero h0
    subst this; exact RSl.nil _ _ _
  · refine ⟨_, cap, rfl, hl, fun i hi => ⟨g, 0, rfl, ?_⟩⟩
    simp only [RBool, Nat.mul_one, Nat.zero_add, Nat.add_zero]
    exact owns_cell h _ _ (by simp [hi])
theorem RTyss.owns {w : World} {base : Nat} {e : TypeId} {v : Value} {l : List (List (Int × Int))} {vals : List Value} (h : w.ownsRow base e 1 v l.length vals) (hl : l.length ≤ 9223372036854775807) (he : ∀ j (h : j < l.length), ∃ v, vals[j]? = some v ∧ RTys w v l[j]) : RTyss w v l := by
  have h' := h
  rcases h'.2 with ⟨rfl, h0⟩ | ⟨g, cap, cur, rfl, hr⟩
  · have : l = [] := List.eq_nil_of_length_eq_zero h0
    subst this; exact RSl.nil _ _ _
  · refine ⟨_, cap, rfl, hl, fun i hi => ⟨g, 0, rfl, ?_⟩⟩
    obtain ⟨u, hu, hr⟩ := he i hi
    refine ⟨u, ?_, hr⟩
    simp only [Nat.mul_one, Nat.zero_add, Nat.add_zero]
    exact owns_cell h _ _ hu

theorem Own.surv {w0 w : World} {bs : Nat} {vt vn vy vk : Value} {ts : List (List DCol)} {ns : List DNode} {tys : List (List (Int × Int))} {tk : List Bool} {vals : List Value} (h : Own w0 w bs vt vn vy vk ts ns tys tk vals) : Surv w bs vt vn vy vk ts ns tys tk := by
  have hr := h.box.rules.1
  have kp := Keeps.of_below h.below
  have hs := h.small
  have hl := h.smallk
  exact ⟨by rw [hr]; rfl, by rw [hr]; rfl, by rw [hr]; rfl, by rw [hr]; rfl, h.tabs.mono mono_RTab kp, h.nodes.mono mono_RNode kp, RTyss.owns h.owny (by omega) (fun j hj => let ⟨v, a, b, _⟩ := h.each j hj; ⟨v, a, b⟩), RBools.owns h.ownk (by omega)⟩

/-- It stays behind a call that only makes memory. -/
theorem Own.call {w0 w w' : World} {bs : Nat} {vt vn vy vk : Value} {ts : List (List DCol)} {ns : List DNode} {tys : List (List (Int × Int))} {tk : List Bool} {vals : List Value} (h : Own w0 w bs vt vn vy vk ts ns tys tk vals) (hb : Below w.heap.size w w') : Own w0 w' bs vt vn vy vk ts ns tys tk vals :=
  ⟨h.below.trans (hb.mono h.below.size), h.tabs, h.nodes, h.bsge, h.box.call hb, owns_call h.owny hb, owns_call h.ownk hb, h.small, h.smallk, fun j hj => let ⟨v, a, b, c⟩ := h.each j hj; ⟨v, a, RSl.mono mono_RTy (Keeps.of_below hb) b, c.call hb⟩⟩

end Go.Proofs.YtekkicgbloidkaaGreatDoor
/- The types of a node's columns, whatever the node. A child is taken; types are laid behind the others. -/
namespace Go.Proofs.YtekkicgbloidkaaGreatDoor
open Go Go.RowKit

theorem freeB_lt {tk : List Bool} {p : Int} (h : freeB tk p = true) : 0 ≤ p ∧ p.toNat < tk.length := by
  unfold freeB at h
  simp at h
  omega

theorem columns_any {w0 w : World} {bs : Nat} {vt vn vy vk : Value} {ts : List (List DCol)} {ns : List DNode} {tys : List (List (Int × Int))} {tk : List Bool} {vals : List Value} (h : Own w0 w bs vt vn vy vk ts ns tys tk vals) (hlens : tk.length = tys.length)
    (n : DNode) (ve vk' vo va : Value) (hn : NodeIs w ve vk' vo va n) (hs : sourceN n.op n.a n.b ts.length tk = true) (hc : countsFit n = true)
    (h8 : ∀ j (hj : j < tys.length), 1 ≤ tys[j].length ∧ tys[j].length ≤ 8) (ht8 : ∀ j (hj : j < ts.length), ts[j].length ≤ 8) :
    Calls Tryz.prog 70 #[.pointer (some ⟨bs, 0, none⟩), nodeV n ve vk' vo va] w fun e w' => TysRet w' e (colsRun n ts tys) ∧ Below w.heap.size w w' := by
  have sv := h.surv
  obtain ⟨op, a, b, es, ks, os, ags⟩ := n
  have hblk : ∀ p, p < tys.length → ∀ b off cap v, vy = .slice (some ⟨b, off, none⟩) tys.length cap → w.cell? ⟨b, off + p, none⟩ = some v → BlkOf 103 w v := by
    intro p hp b off cap v hv hcell
    obtain ⟨u, hu, _, hb⟩ := h.each p hp
    have ho := h.owny
    rw [hv] at ho
    have hoff : off = 0 := by
      rcases ho.2 with ⟨h0, _⟩ | ⟨g, c, cur, h0, _⟩
      · simp at h0
      · simp only [Value.slice.injEq, Option.some.injEq, Addr.mk.injEq, and_true] at h0; exact h0.1.2
    subst hoff
    have := owns_cell ho p u hu
    rw [Nat.zero_add] at hcell
    rw [hcell] at this
    simp only [Option.some.injEq] at this
    rw [this]; exact hb
  simp only [sourceN] at hs
  simp only [countsFit, countsN] at hc
  by_cases h1 : op = 1
  · subst h1
    simp only [if_true, Bool.and_eq_true, decide_eq_true_eq] at hs
    obtain ⟨p, rfl⟩ := Int.eq_ofNat_of_zero_le hs.1
    have hp : p < ts.length := by omega
    obtain ⟨ae, ce, ak, ck, ao, co, aa, ca, rfl, rfl, rfl, rfl⟩ := hn.shape
    have e : colsRun ⟨1, p, b, es, ks, os, ags⟩ ts tys = some (tabTys ts[p]) := by simp [colsRun, hp]
    rw [e]
    exact columns1_any bs p b vt ts _ _ _ _ _ _ _ _ _ _ _ _ w sv.c0 sv.tabs hp (ht8 p hp)
  rw [if_neg h1] at hs
  by_cases h2 : op = 2
  · subst h2
    simp only [true_or, if_true] at hs
    obtain ⟨ha, hp⟩ := freeB_lt hs
    obtain ⟨p, rfl⟩ := Int.eq_ofNat_of_zero_le ha
    have hp' : p < tys.length := by simp at hp; omega
    simp only [if_true] at hc
    have hes : 0 < es.length := by simp at hc; omega
    have e : colsRun ⟨2, p, b, es, ks, os, ags⟩ ts tys = if filterOk ⟨2, p, b, es, ks, os, ags⟩ tys[p] = true then some tys[p] else none := by simp [colsRun, hp']
    rw [e]
    exact columns2_any bs p b es ks os ags vy tys ve vk' vo va w hn sv.c2 sv.types hp' hes (hblk p hp')
  by_cases h3 : op = 3
  · subst h3
    simp only [Int.reduceEq, true_or, or_true, if_true] at hs
    obtain ⟨ha, hp⟩ := freeB_lt hs
    obtain ⟨p, rfl⟩ := Int.eq_ofNat_of_zero_le ha
    have hp' : p < tys.length := by simp at hp; omega
    simp only [Int.reduceEq, if_false, if_true] at hc
    have hes : es.length ≤ 8 := by simp at hc; omega
    have e : colsRun ⟨3, p, b, es, ks, os, ags⟩ ts tys = projRun tys[p] es := by simp [colsRun, hp']
    rw [e]
    exact columns3_any bs p b es ks os ags vy tys ve vk' vo va w hn sv.c2 sv.types hp' hes
  by_cases h5 : op = 5
  · subst h5
    simp only [Int.reduceEq, or_true, if_true] at hs
    obtain ⟨ha, hp⟩ := freeB_lt hs
    obtain ⟨p, rfl⟩ := Int.eq_ofNat_of_zero_le ha
    have hp' : p < tys.length := by simp at hp; omega
    simp only [Int.reduceEq, if_false, if_true] at hc
    have hks : ks.length ≤ 4 ∧ ags.length ≤ 6 := by simp at hc; omega
    have e : colsRun ⟨5, p, b, es, ks, os, ags⟩ ts tys = groupRun ⟨5, p, b, es, ks, os, ags⟩ tys[p] := by simp [colsRun, hp']
    rw [e]
    exact columns5_any bs p b es ks os ags vy tys ve vk' vo va w hn sv.c2 sv.types hp' hks.1 hks.2
  rw [if_neg (by omega)] at hs
  by_cases h4 : op = 4
  · subst h4
    simp only [if_true, Bool.and_eq_true] at hs
    obtain ⟨⟨hfa, hfb⟩, hne⟩ := hs
    obtain ⟨ha, hp⟩ := freeB_lt hfa
    obtain ⟨hb, hq⟩ := freeB_lt hfb
    obtain ⟨p, rfl⟩ := Int.eq_ofNat_of_zero_le ha
    obtain ⟨q, rfl⟩ := Int.eq_ofNat_of_zero_le hb
    have hp' : p < tys.length := by simp at hp; omega
    have hq' : q < tys.length := by simp at hq; omega
    simp only [Int.reduceEq, if_false, if_true] at hc
    have hks : ks.length ≤ 4 ∧ os.length = ks.length := by simp at hc; omega
    have e : colsRun ⟨4, p, q, es, ks, os, ags⟩ ts tys = joinRun ⟨4, p, q, es, ks, os, ags⟩ tys[p] tys[q] := by simp [colsRun, hp', hq']
    rw [e]
    exact columns4_any bs p q es ks os ags vy tys ve vk' vo va w hn sv.c2 sv.types hp' hq' hks.1 hks.2 (by have := h8 p hp'; omega) (by have := h8 q hq'; omega) (by have := h8 p hp'; omega) (by have := h8 q hq'; omega)
  rw [if_neg h4] at hs
  simp at hs

theorem owns_set {w : World} {base : Nat} {e : TypeId} {n g cap q : Nat} {xs : List Value} (h : w.ownsRow base e 1 (.slice (some ⟨g, 0, none⟩) n cap) n xs) (_hq : q < n) (u : Value) : (w.setCell ⟨g, q, none⟩ u).ownsRow base e 1 (.slice (some ⟨g, 0, none⟩) n cap) n (xs.set q u) := by
  obtain ⟨hx, h2⟩ := h
  rcases h2 with ⟨h0, _⟩ | ⟨g', cap', cur, hv, hb, hg, hc, hm, hs, ht⟩
  · simp at h0
  · simp only [Value.slice.injEq, Option.some.injEq, Addr.mk.injEq, and_true, true_and] at hv
    obtain ⟨rfl, rfl⟩ := hv
    refine ⟨by simpa using hx, .inr ⟨g, cap, cur.setIfInBounds q u, rfl, hb, ?_, hc, hm, by simpa using hs, ?_⟩⟩
    · exact Box.set (show Box w g cur e from hg) q u
    · rw [Array.toList_setIfInBounds, List.take_set, ht]

theorem Own.take {w0 w : World} {bs : Nat} {vt vn vy : Value} {gk nk ck q : Nat} {ts : List (List DCol)} {ns : List DNode} {tys : List (List (Int × Int))} {tk : List Bool} {vals : List Value} (h : Own w0 w bs vt vn vy (.slice (some ⟨gk, 0, none⟩) nk ck) ts ns tys tk vals) (hq : q < tk.length) :
    Own w0 (w.setCell ⟨gk, q, none⟩ (.bool true)) bs vt vn vy (.slice (some ⟨gk, 0, none⟩) nk ck) ts ns tys (tk.set q true) vals := by
  have hok := h.ownk
  have hnk : nk = tk.length := by
    rcases hok.2 with ⟨h0, _⟩ | ⟨g, c, cur, h0, _⟩
    · simp at h0
    · simp only [Value.slice.injEq] at h0; exact h0.2.1
  subst hnk
  obtain ⟨gkb, gkl⟩ := hok.lt gk rfl
  obtain ⟨cur, hcur⟩ : ∃ cur, Box w gk cur 4 := by
    rcases hok.2 with ⟨h0, _⟩ | ⟨g, c, cur, h0, _, hg, _⟩
    · simp at h0
    · simp only [Value.slice.injEq, Option.some.injEq, Addr.mk.injEq, and_true] at h0
      obtain ⟨rfl, -, -⟩ := h0; exact ⟨cur, hg⟩
  have hne : ∀ {T : TypeId} {v : Value}, BlkOf T w v → T ≠ 4 → ∀ b off n c, v = .slice (some ⟨b, off, none⟩) n c → (w.setCell ⟨gk, q, none⟩ (.bool true)).heap[b]? = w.heap[b]? := by
    intro T v hv hT b off n c e
    subst e
    exact Below.heap_setCell _ _ _ _ (hv.ne hcur hT)
  refine ⟨h.below.setCell gkb _, h.tabs, h.nodes, h.bsge, ?_, ?_, ?_, h.small, by simpa using h.smallk, ?_⟩
  · refine h.box.set_ne ?_ _
    rintro rfl
    have h1 := shape_box h.box
    rw [shape_box hcur] at h1
    simp at h1
  · refine ⟨h.owny.1, ?_⟩
    rcases h.owny.2 with hn | ⟨g, cap, cu, e, hb, hg, rest⟩
    · exact .inl hn
    · refine .inr ⟨g, cap, cu, e, hb, ?_, rest⟩
      rw [Below.heap_setCell _ _ _ _ (show g ≠ gk from ?_)]
      · exact hg
      · rintro rfl
        have h1 := shape_box (show Box w g cu 101 from hg)
        rw [shape_box hcur] at h1
        simp at h1
  · have := owns_set hok hq (.bool true)
    rw [List.length_set, List.map_set]; exact this
  · intro j hj
    obtain ⟨v, a, b, c⟩ := h.each j hj
    exact ⟨v, a, b.blk (hne c (by decide)), c.set _ _⟩

theorem owns_box {w : World} {base : Nat} {e : TypeId} {size n g cap : Nat} {xs : List Value} (h : w.ownsRow base e size (.slice (some ⟨g, 0, none⟩) n cap) n xs) : ∃ cur, Box w g cur e := by
  rcases h.2 with ⟨h0, _⟩ | ⟨g', c, cur, h0, _, hg, _⟩
  · simp at h0
  · simp only [Value.slice.injEq, Option.some.injEq, Addr.mk.injEq, and_true] at h0
    obtain ⟨rfl, -, -⟩ := h0; exact ⟨cur, hg⟩
theorem owns_own {w : World} {base : Nat} {e : TypeId} {size n : Nat} {v : Value} {xs : List Value} (h : w.ownsRow base e size v n xs) {g : Nat} (hg : v.ownBlock = some g) : ∃ cur, Box w g cur e := by
  rcases h.2 with ⟨rfl, _⟩ | ⟨g', c, cur, rfl, _, hgg, _⟩
  · simp [Value.ownBlock] at hg
  · simp only [Value.ownBlock, Option.some.injEq] at hg
    subst hg; exact ⟨cur, hgg⟩
theorem Box.ne {w : World} {a b : Nat} {ca cb : Array Value} {Ta Tb : TypeId} (ha : Box w a ca Ta) (hb : Box w b cb Tb) (h : Ta ≠ Tb) : a ≠ b := by
  rintro rfl
  have := shape_box ha
  rw [shape_box hb] at this
  simp only [Option.some.injEq, Prod.mk.injEq] at this
  exact h this.1.symm
theorem owns_blk {w w' : World} {base : Nat} {e : TypeId} {size n : Nat} {v : Value} {xs : List Value} (h : w.ownsRow base e size v n xs) (hk : ∀ g, v.ownBlock = some g → w'.heap[g]? = w.heap[g]?) : w'.ownsRow base e size v n xs := by
  refine ⟨h.1, ?_⟩
  rcases h.2 with hn | ⟨g, cap, cur, rfl, hbg, hgg, rest⟩
  · exact .inl hn
  · exact .inr ⟨g, cap, cur, rfl, hbg, by rw [hk g rfl]; exact hgg, rest⟩

/-- Types are laid behind the others. -/
theorem Own.pushTy {w0 w w2 : World} {bs : Nat} {vt vn vy vk : Value} {ts : List (List DCol)} {ns : List DNode} {tys : List (List (Int × Int))} {tk : List Bool} {vals : List Value} (h : Own w0 w bs vt vn vy vk ts ns tys tk vals)
    {v1 : Value} {l : List (Int × Int)} (hv : RTys w v1 l) (hb : BlkOf 103 w v1) (hsm : tys.length + 1 ≤ 1000) {g cap : Nat}
    (hown : w2.ownsRow w0.heap.size 101 1 (.slice (some ⟨g, 0, none⟩) (tys.length + 1) cap) (tys.length + 1) (vals ++ [v1])) (hgr : (w.alloc (.cells #[v1] 101)).grownBy w2 vy.ownBlock) :
    Own w0 (w2.setCell ⟨bs, 2, none⟩ (.slice (some ⟨g, 0, none⟩) (tys.length + 1) cap)) bs vt vn (.slice (some ⟨g, 0, none⟩) (tys.length + 1) cap) vk ts ns (tys ++ [l]) tk (vals ++ [v1]) := by
  have h1 := h.call ((Below.refl w.heap.size w).alloc (Nat.le_refl _) (.cells #[v1] 101))
  have hv1 : RTys (w.alloc (.cells #[v1] 101)) v1 l := RSl.mono mono_RTy ((Keeps.refl w).alloc _) hv
  have hb1 : BlkOf 103 (w.alloc (.cells #[v1] 101)) v1 := hb.call ((Below.refl w.heap.size w).alloc (Nat.le_refl _) _)
  generalize w.alloc (.cells #[v1] 101) = w1 at *
  clear h hv hb
  have hrow : ∀ k, vy.ownBlock = some k → w0.heap.size ≤ k := fun k hk => (h1.owny.lt k hk).1
  have hby : Below w0.heap.size w0 w2 := h1.below.grown hgr h1.below.size hrow
  -- a block of another element type stands
  have hst : ∀ {T : TypeId} {b : Nat} {cs : Array Value}, Box w1 b cs T → T ≠ 101 → w2.heap[b]? = w1.heap[b]? := by
    intro T b cs hbx hT
    refine hgr.block b hbx.lt (fun e => ?_)
    obtain ⟨cur, hcur⟩ := owns_own h1.owny e.symm
    exact hbx.ne hcur hT rfl
  have hbox2 : Box w2 bs #[vt, vn, vy, vk] 131 := by
    have := hst h1.box (by decide)
    unfold Box; rw [this]; exact h1.box
  have hset : ∀ {T : TypeId} {b : Nat} {cs : Array Value}, Box w2 b cs T → T ≠ 131 → (w2.setCell ⟨bs, 2, none⟩ (.slice (some ⟨g, 0, none⟩) (tys.length + 1) cap)).heap[b]? = w2.heap[b]? := by
    intro T b cs hbx hT
    exact Below.heap_setCell _ _ _ _ (hbx.ne hbox2 hT)
  have hty : ∀ {v : Value} {l : List (Int × Int)}, RTys w1 v l → BlkOf 103 w1 v → RTys (w2.setCell ⟨bs, 2, none⟩ (.slice (some ⟨g, 0, none⟩) (tys.length + 1) cap)) v l ∧ BlkOf 103 (w2.setCell ⟨bs, 2, none⟩ (.slice (some ⟨g, 0, none⟩) (tys.length + 1) cap)) v := by
    intro v l hr hbk
    have hk : ∀ b off n c, v = .slice (some ⟨b, off, none⟩) n c → (w2.setCell ⟨bs, 2, none⟩ (.slice (some ⟨g, 0, none⟩) (tys.length + 1) cap)).heap[b]? = w1.heap[b]? := by
      intro b off n c e
      obtain ⟨k, hk⟩ := hbk b off n c e
      obtain ⟨cs, hcs⟩ : ∃ cs fr, w1.heap[b]? = some (.cells cs 103 fr) := by
        simp only [World.shape?] at hk
        split at hk
        · rename_i cs el fr heq
          simp only [Option.some.injEq, Prod.mk.injEq] at hk
          obtain ⟨rfl, -⟩ := hk
          exact ⟨cs, fr, heq⟩
        · simp at hk
      obtain ⟨fr, hcs⟩ := hcs
      have h12 : w2.heap[b]? = w1.heap[b]? := by
        refine hgr.block b (by rcases Nat.lt_or_ge b w1.heap.size with h | h; exact h; rw [Array.getElem?_eq_none h] at hcs; simp at hcs) (fun e => ?_)
        obtain ⟨cur, hcur⟩ := owns_own h1.owny e.symm
        unfold Box at hcur; rw [hcs] at hcur; simp at hcur
      rw [Below.heap_setCell _ _ _ _ (show b ≠ bs from ?_), h12]
      rintro rfl
      have := h1.box; unfold Box at this; rw [hcs] at this; simp at this
    exact ⟨hr.blk hk, hbk.blk hk⟩
  refine ⟨hby.setCell h1.bsge _, h1.tabs, h1.nodes, h1.bsge, hbox2.set 2 _, ?_, ?_, by simpa using hsm, h1.smallk, ?_⟩
  · rw [List.length_append, List.length_singleton]
    refine owns_blk hown (fun g' hg' => ?_)
    obtain ⟨cur, hcur⟩ := owns_own hown hg'
    exact hset hcur (by decide)
  · refine owns_blk h1.ownk (fun g' hg' => ?_)
    obtain ⟨cur, hcur⟩ := owns_own h1.ownk hg'
    have h2 := hst hcur (by decide)
    have hcur2 : Box w2 g' cur 4 := by unfold Box; rw [h2]; exact hcur
    rw [hset hcur2 (by decide), h2]
  · intro j hj
    rw [List.length_append, List.length_singleton] at hj
    have hvl : vals.length = tys.length := by have := h1.owny.1; omega
    by_cases hjl : j < tys.length
    · obtain ⟨v, a, b, c⟩ := h1.each j hjl
      obtain ⟨p, q⟩ := hty b c
      refine ⟨v, by rw [List.getElem?_append_left (by omega)]; exact a, ?_, q⟩
      rw [List.getElem_append_left hjl]; exact p
    · have hje : j = tys.length := by omega
      subst hje
      obtain ⟨p, q⟩ := hty hv1 hb1
      refine ⟨v1, by rw [← hvl]; simp, ?_, q⟩
      rw [List.getElem_append_right (Nat.le_refl _)]; simpa using p

end Go.Proofs.YtekkicgbloidkaaGreatDoor
/- A node's mark is laid behind the others; a node is looked at and added. -/
namespace Go.Proofs.YtekkicgbloidkaaGreatDoor
open Go Go.RowKit

theorem Own.pushTk {w0 w w2 : World} {bs : Nat} {vt vn vy vk : Value} {ts : List (List DCol)} {ns : List DNode} {tys : List (List (Int × Int))} {tk : List Bool} {vals : List Value} (h : Own w0 w bs vt vn vy vk ts ns tys tk vals)
    (hsm : tk.length + 1 ≤ 1000) {g cap : Nat}
    (hown : w2.ownsRow w0.heap.size 4 1 (.slice (some ⟨g, 0, none⟩) (tk.length + 1) cap) (tk.length + 1) (tk.map .bool ++ [.bool false])) (hgr : (w.alloc (.cells #[.bool false] 4)).grownBy w2 vk.ownBlock) :
    Own w0 (w2.setCell ⟨bs, 3, none⟩ (.slice (some ⟨g, 0, none⟩) (tk.length + 1) cap)) bs vt vn vy (.slice (some ⟨g, 0, none⟩) (tk.length + 1) cap) ts ns tys (tk ++ [false]) vals := by
  have h1 := h.call ((Below.refl w.heap.size w).alloc (Nat.le_refl _) (.cells #[.bool false] 4))
  generalize w.alloc (.cells #[.bool false] 4) = w1 at *
  clear h
  have hrow : ∀ k, vk.ownBlock = some k → w0.heap.size ≤ k := fun k hk => (h1.ownk.lt k hk).1
  have hby : Below w0.heap.size w0 w2 := h1.below.grown hgr h1.below.size hrow
  have hst : ∀ {T : TypeId} {b : Nat} {cs : Array Value}, Box w1 b cs T → T ≠ 4 → w2.heap[b]? = w1.heap[b]? := by
    intro T b cs hbx hT
    refine hgr.block b hbx.lt (fun e => ?_)
    obtain ⟨cur, hcur⟩ := owns_own h1.ownk e.symm
    exact hbx.ne hcur hT rfl
  have hbox2 : Box w2 bs #[vt, vn, vy, vk] 131 := by
    have := hst h1.box (by decide)
    unfold Box; rw [this]; exact h1.box
  have hset : ∀ {T : TypeId} {b : Nat} {cs : Array Value}, Box w2 b cs T → T ≠ 131 → (w2.setCell ⟨bs, 3, none⟩ (.slice (some ⟨g, 0, none⟩) (tk.length + 1) cap)).heap[b]? = w2.heap[b]? := by
    intro T b cs hbx hT
    exact Below.heap_setCell _ _ _ _ (hbx.ne hbox2 hT)
  refine ⟨hby.setCell h1.bsge _, h1.tabs, h1.nodes, h1.bsge, hbox2.set 3 _, ?_, ?_, h1.small, by simpa using hsm, ?_⟩
  · refine owns_blk h1.owny (fun g' hg' => ?_)
    obtain ⟨cur, hcur⟩ := owns_own h1.owny hg'
    have h2 := hst hcur (by decide)
    have hcur2 : Box w2 g' cur 101 := by unfold Box; rw [h2]; exact hcur
    rw [hset hcur2 (by decide), h2]
  · rw [List.length_append, List.length_singleton, List.map_append]
    refine owns_blk hown (fun g' hg' => ?_)
    obtain ⟨cur, hcur⟩ := owns_own hown hg'
    exact hset hcur (by decide)
  · intro j hj
    obtain ⟨v, a, hr, hbk⟩ := h1.each j hj
    have hk : ∀ b off n c, v = .slice (some ⟨b, off, none⟩) n c → (w2.setCell ⟨bs, 3, none⟩ (.slice (some ⟨g, 0, none⟩) (tk.length + 1) cap)).heap[b]? = w1.heap[b]? := by
      intro b off n c e
      obtain ⟨k, hk⟩ := hbk b off n c e
      obtain ⟨cs, hcs⟩ : ∃ cs fr, w1.heap[b]? = some (.cells cs 103 fr) := by
        simp only [World.shape?] at hk
        split at hk
        · rename_i cs el fr heq
          simp only [Option.some.injEq, Prod.mk.injEq] at hk
          obtain ⟨rfl, -⟩ := hk
          exact ⟨cs, fr, heq⟩
        · simp at hk
      obtain ⟨fr, hcs⟩ := hcs
      have h12 : w2.heap[b]? = w1.heap[b]? := by
        refine hgr.block b (by rcases Nat.lt_or_ge b w1.heap.size with h | h; exact h; rw [Array.getElem?_eq_none h] at hcs; simp at hcs) (fun e => ?_)
        obtain ⟨cur, hcur⟩ := owns_own h1.ownk e.symm
        unfold Box at hcur; rw [hcs] at hcur; simp at hcur
      rw [Below.heap_setCell _ _ _ _ (show b ≠ bs from ?_), h12]
      rintro rfl
      have := h1.box; unfold Box at this; rw [hcs] at this; simp at this
    exact ⟨v, a, hr.blk hk, hbk.blk hk⟩

theorem Own.box_ty {w0 w w2 : World} {bs : Nat} {vt vn vy vk : Value} {ts : List (List DCol)} {ns : List DNode} {tys : List (List (Int × Int))} {tk : List Bool} {vals : List Value} (h : Own w0 w bs vt vn vy vk ts ns tys tk vals) {o : Obj} (hgr : (w.alloc o).grownBy w2 vy.ownBlock) : Box w2 bs #[vt, vn, vy, vk] 131 := by
  have h1 := h.call ((Below.refl w.heap.size w).alloc (Nat.le_refl _) o)
  refine h1.box.grown hgr (fun g hg => ?_)
  obtain ⟨cur, hcur⟩ := owns_own h1.owny hg
  exact h1.box.ne hcur (by decide)
theorem Own.box_tk {w0 w w2 : World} {bs : Nat} {vt vn vy vk : Value} {ts : List (List DCol)} {ns : List DNode} {tys : List (List (Int × Int))} {tk : List Bool} {vals : List Value} (h : Own w0 w bs vt vn vy vk ts ns tys tk vals) {o : Obj} (hgr : (w.alloc o).grownBy w2 vk.ownBlock) : Box w2 bs #[vt, vn, vy, vk] 131 := by
  have h1 := h.call ((Below.refl w.heap.size w).alloc (Nat.le_refl _) o)
  refine h1.box.grown hgr (fun g hg => ?_)
  obtain ⟨cur, hcur⟩ := owns_own h1.ownk hg
  exact h1.box.ne hcur (by decide)
theorem new_one {w : World} {b : Nat} {x : Value} {T : TypeId} (h : Box w b #[x] T) : ∀ j u, ([x] : List Value)[j]? = some u → w.cell? ⟨b, j, none⟩ = some u := by
  intro j u hu
  rw [h.rules.1 j]
  match j, hu with
  | 0, hu => simpa using hu
  | j + 1, hu => simp at hu

def setAll (tk : List Bool) (cs : List Int) : List Bool := cs.foldl (fun t c => t.set c.toNat true) tk
theorem setAll_length (tk : List Bool) (cs : List Int) : (setAll tk cs).length = tk.length := by
  induction cs generalizing tk with
  | nil => rfl
  | cons c r ih => simp only [setAll, List.foldl_cons] at *; rw [ih]; simp
theorem setAll_snoc (tk : List Bool) (cs : List Int) (c : Int) : setAll tk (cs ++ [c]) = (setAll tk cs).set c.toNat true := by simp [setAll]

theorem childrenOf_mem {op a b : Int} {nt : Nat} {tk : List Bool} (hs : sourceN op a b nt tk = true) : ∀ c ∈ childrenOf op a b, 0 ≤ c ∧ c.toNat < tk.length := by
    intro c hc
    unfold childrenOf at hc
    unfold sourceN at hs
    by_cases h1 : op = 1
    · subst h1; simp at hc
    rw [if_neg h1] at hs
    by_cases h2 : op = 2 ∨ op = 3 ∨ op = 5
    · rw [if_pos h2] at hc hs
      simp at hc; subst hc; exact freeB_lt hs
    rw [if_neg h2] at hc hs
    by_cases h4 : op = 4
    · rw [if_pos h4] at hc hs
      simp only [Bool.and_eq_true] at hs
      simp at hc
      rcases hc with rfl | rfl
      · exact freeB_lt hs.1.1
      · exact freeB_lt hs.1.2
    · rw [if_neg h4] at hc; simp at hc

/-- What 'add' leaves. -/
def AddRet (w0 w' : World) (e : Ending) (bs i : Nat) (vt vn : Value) (ts : List (List DCol)) (ns : List DNode) (tys : List (List (Int × Int))) (tk : List Bool) (n : DNode) : Prop :=
  (hangs n i ts.length tk = false ∧ e = .returned (.int .i64 3) ∧ Below w0.heap.size w0 w') ∨
  (hangs n i ts.length tk = true ∧ colsRun n ts tys = none ∧ e = .returned (.int .i64 4) ∧ Below w0.heap.size w0 w') ∨
  (hangs n i ts.length tk = true ∧ ∃ l, colsRun n ts tys = some l ∧ e = .returned (.int .i64 0) ∧ ∃ vy vk vals, Own w0 w' bs vt vn vy vk ts ns (tys ++ [l]) (setAll tk (childrenOf n.op n.a n.b) ++ [false]) vals)

set_option maxHeartbeats 4000000 in
theorem add_any {w0 w : World} {bs i : Nat} {vt vn vy vk : Value} {ts : List (List DCol)} {ns : List DNode} {tys : List (List (Int × Int))} {tk : List Bool} {vals : List Value} (h : Own w0 w bs vt vn vy vk ts ns tys tk vals) (hlens : tk.length = tys.length)
    (hi : i < ns.length) (hsm : tys.length ≤ 20)
    (h8 : ∀ j (hj : j < tys.length), 1 ≤ tys[j].length ∧ tys[j].length ≤ 8) (ht8 : ∀ j (hj : j < ts.length), ts[j].length ≤ 8) :
    Calls Tryz.prog 54 #[.pointer (some ⟨bs, 0, none⟩), .int .i64 i] w fun e w' => AddRet w0 w' e bs i vt vn ts ns tys tk ns[i] := by
  have sv := h.surv
  have HH : Hid (Own w0 w bs vt vn vy vk ts ns tys tk vals) := h
  have HLN : Hid _ := hlens
  have H8 : Hid _ := h8
  have HT8 : Hid _ := ht8
  go_enter Tryz.func54, Tryz.ntmps54
  go_wp2_with fail
  refine (hangs_any bs i vt vn vy vk ts ns tys tk w sv hi).mono ?_
  rintro e w1 ⟨rfl, hb1⟩
  have h1 := h.call hb1
  have H1 : Hid (Own w0 w1 bs vt vn vy vk ts ns tys tk vals) := h1
  have sv1 := h1.surv
  clear h sv hb1 hlens h8 ht8 HH
  by_cases hg : hangs ns[i] i ts.length tk = true
  · have hg' := hg
    unfold hangs at hg'
    simp only [Bool.and_eq_true] at hg'
    obtain ⟨-, hsrc, hcnt⟩ := hg'
    have HSRC : Hid _ := hsrc
    have HCNT : Hid _ := hcnt
    obtain ⟨b, off, cap, ae, ce, ak, ck, ao, co, aa, ca, rfl, hl, hb, d0, d1, d2, d3, d4, d5, d6, hn⟩ := node_at sv1.nodes hi
    have e1 := sv1.c1
    have hbs := cell_lt e1
    have hi0 : (0 : Int) ≤ (i : Int) := by omega
    have hi1 : (i : Int) < (ns.length : Int) := by omega
    clear hsrc hcnt sv1
    go_wp2_with fail
    refine (columns_any H1.out HLN.out ns[i] _ _ _ _ hn HSRC.out HCNT.out H8.out HT8.out).mono ?_
    rintro e w2 ⟨hret, hb2⟩
    obtain ⟨v1, ok1, rfl, hti⟩ := TysRet.shape hret
    have kp2 := Keeps.of_below hb2
    have f0 := kp2 _ _ _ d0
    have f1 := kp2 _ _ _ d1
    have f2 := kp2 _ _ _ d2
    have f3 := kp2 _ _ _ d3
    have f4 := kp2 _ _ _ d4
    have f5 := kp2 _ _ _ d5
    have f6 := kp2 _ _ _ d6
    have fe := kp2 _ _ _ e1
    have hb' := cell_lt f0
    have hbs' := cell_lt fe
    have H2 : Hid (Own w0 w2 bs vt (.slice (some ⟨b, off, none⟩) ns.length cap) vy vk ts ns tys tk vals) := H1.out.call hb2
    clear kp2 d0 d1 d2 d3 d4 d5 d6 e1 hb hbs hret hb2 h1 hn H1
    cases hO : colsRun ns[i] ts tys with
    | none =>
      rw [hO] at hti
      simp only [TysIs] at hti
      subst hti
      have HO : Hid _ := hO
      clear hO
      go_wp2_with fail
      go_ret
      exact .inr (.inl ⟨hg, HO.out, rfl, H2.out.below⟩)
    | some l =>
      rw [hO] at hti
      obtain ⟨rfl, hv1, hbv1⟩ := hti
      have HO : Hid _ := hO
      have HV1 : Hid (RTys w2 v1 l) := hv1
      have HBV1 : Hid (BlkOf 103 w2 v1) := hbv1
      obtain ⟨a1, c1, rfl, -⟩ := hv1.shape
      clear hO hv1 hbv1
      go_wp2_with fail
      refine (children_any _ _ _ _ _ _ _ _ _ _ _ _ _ _ _ _).mono ?_
      rintro e w3 ⟨vch, rfl, hch, hbch, hb3⟩
      obtain ⟨ac, cc, rfl, -⟩ := hch.shape
      have H3 : Hid (Own w0 w3 bs vt (.slice (some ⟨b, off, none⟩) ns.length cap) vy vk ts ns tys tk vals) := H2.out.call hb3
      have HV3 : Hid (RTys w3 (.slice a1 l.length c1) l) := RSl.mono mono_RTy (Keeps.of_below hb3) HV1.out
      have HBV3 : Hid (BlkOf 103 w3 (.slice a1 l.length c1)) := HBV1.out.call hb3
      have HCH : Hid (RInts w3 (.slice ac (childrenOf ns[i].op ns[i].a ns[i].b).length cc) (childrenOf ns[i].op ns[i].a ns[i].b)) := hch
      have HBC : Hid (BlkOf 3 w3 (.slice ac (childrenOf ns[i].op ns[i].a ns[i].b).length cc)) := hbch
      clear hch hbch hb3 f0 f1 f2 f3 f4 f5 f6 fe hb' hbs' HV1 HBV1 H2
      generalize hCH : childrenOf ns[i].op ns[i].a ns[i].b = ch at *
      have HCE : Hid _ := hCH
      have hch2 : ch.length ≤ 2 := by rw [← hCH]; unfold childrenOf; split <;> (try split) <;> simp
      clear hCH
      go_wp2_with fail
      go_loopw [36] (fun x W => ∃ k : Nat, k ≤ ch.length ∧ x = .int .i64 k ∧ Own w0 W bs vt (.slice (some ⟨b, off, none⟩) ns.length cap) vy vk ts ns tys (setAll tk (ch.take k)) vals ∧ RInts W (.slice ac ch.length cc) ch ∧ BlkOf 3 W (.slice ac ch.length cc) ∧ RTys W (.slice a1 l.length c1) l ∧ BlkOf 103 W (.slice a1 l.length c1))
        (fun x _ => ch.length - (intOf x).toNat)
      case atStart => exact ⟨0, Nat.zero_le _, rfl, by simpa [setAll] using H3.out, HCH.out, HBC.out, HV3.out, HBV3.out⟩
      case round =>
        obtain ⟨k, hk, rfl, hown, hci, hcb, hvt, hvb⟩ := hrel
        have HOW : Hid (Own w0 wr bs vt (.slice (some ⟨b, off, none⟩) ns.length cap) vy vk ts ns tys (setAll tk (ch.take k)) vals) := hown
        have HCI : Hid (RInts wr (.slice ac ch.length cc) ch) := hci
        have HCB : Hid (BlkOf 3 wr (.slice ac ch.length cc)) := hcb
        have HVT : Hid (RTys wr (.slice a1 l.length c1) l) := hvt
        have HVB : Hid (BlkOf 103 wr (.slice a1 l.length c1)) := hvb
        clear hown hcb hvt hvb H3 HCH HBC HV3 HBV3
        by_cases hlt : k < ch.length
        · obtain ⟨bc, oc, ccap, hvc, hbl, dch⟩ := ints_at HCI.out hlt
          simp only [Value.slice.injEq, true_and] at hvc
          obtain ⟨rfl, rfl⟩ := hvc
          have hcm := childrenOf_mem HSRC.out ch[k] (by rw [HCE.out]; exact List.getElem_mem hlt)
          obtain ⟨q, hq⟩ := Int.eq_ofNat_of_zero_le hcm.1
          have hqt : q < tk.length := by have := hcm.2; rw [hq] at this; simpa using this
          have hql : q < (setAll tk (ch.take k)).length := by rw [setAll_length]; exact hqt
          rw [hq] at dch
          have HQ : Hid _ := hq
          obtain ⟨gk, ckk, rfl, hgb, hgl⟩ := World.ownsRow.form HOW.out.ownk (by omega)
          have HOW2 := HOW.out.take hql
          have hbr := HOW.out.box.rules.1 3
          have hbs3 : wr.cell? ⟨bs, 3, none⟩ = some (.slice (some ⟨gk, 0, none⟩) (setAll tk (ch.take k)).length ckk) := by rw [hbr]; rfl
          have hcq := owns_cell HOW.out.ownk q (.bool (setAll tk (ch.take k))[q]) (by simp [hql])
          obtain ⟨cur, hcur⟩ := owns_box HOW.out.ownk
          have hfq := hcur.rules.2
          have hne : ∀ {T : TypeId} {v : Value}, BlkOf T wr v → T ≠ 4 → ∀ b off n c, v = .slice (some ⟨b, off, none⟩) n c → (wr.setCell ⟨gk, q, none⟩ (.bool true)).heap[b]? = wr.heap[b]? := by
            intro T v hv hT b off n c e
            subst e
            exact Below.heap_setCell _ _ _ _ (hv.ne hcur hT)
          have hrel' : Own w0 (wr.setCell ⟨gk, q, none⟩ (.bool true)) bs vt (.slice (some ⟨b, off, none⟩) ns.length cap) vy (.slice (some ⟨gk, 0, none⟩) (setAll tk (ch.take k)).length ckk) ts ns tys (setAll tk (ch.take (k + 1))) vals := by
            rw [List.take_succ_eq_append_getElem hlt, setAll_snoc, HQ.out]; exact HOW2
          have HREL : Hid _ := hrel'
          have HR2 : Hid (RInts (wr.setCell ⟨gk, q, none⟩ (.bool true)) _ ch) := HCI.out.blk (hne HCB.out (by decide))
          have HR3 : Hid (BlkOf 3 (wr.setCell ⟨gk, q, none⟩ (.bool true)) _) := HCB.out.set _ _
          have HR4 : Hid (RTys (wr.setCell ⟨gk, q, none⟩ (.bool true)) _ l) := HVT.out.blk (hne HVB.out (by decide))
          have HR5 : Hid (BlkOf 103 (wr.setCell ⟨gk, q, none⟩ (.bool true)) _) := HVB.out.set _ _
          have hj0 : (0 : Int) ≤ (q : Int) := by omega
          have hj1 : (q : Int) < ((setAll tk (ch.take k)).length : Int) := by omega
          have hlbs := HOW.out.box.lt
          clear hbr hne hrel' HOW2 hcur hq hcm hci
          go_wp2_with fail
          go_roundw
          case rel => exact ⟨k + 1, by omega, by go_num, HREL.out, HR2.out, HR3.out, HR4.out, HR5.out⟩
          case measure => simp [intOf]; omega
        · have hke : ch.take k = ch := List.take_of_length_le (by omega)
          have HOE : Hid (Own w0 wr bs vt (.slice (some ⟨b, off, none⟩) ns.length cap) vy vk ts ns tys (setAll tk ch) vals) := by have := HOW.out; rw [hke] at this; exact this
          clear hke HOW HCI HCB hci
          have hbx := HOE.out.box
          obtain ⟨hcb, hfb, hlb⟩ := hbx.all
          clear hbx
          have HNW : Hid _ := new_one (Box.new wr #[.slice a1 l.length c1] 101)
          have HON : Hid (∀ u ∈ ([.slice a1 l.length c1] : List Value), u.oneCell' = true) := by intro u hu; simp at hu; subst hu; rfl
          have HOG : Hid _ := HOE.out.owny.alloc (.cells #[.slice a1 l.length c1] 101)
          have HS0 : Hid ((wr.alloc (.cells #[.slice a1 l.length c1] 101)).heap.size = wr.heap.size + 1) := by unfold Hid; simp
          have HS1 : Hid (w0.heap.size ≤ (wr.alloc (.cells #[.slice a1 l.length c1] 101)).heap.size) := by have := HOE.out.below.size; unfold Hid; simp; omega
          go_upto_region 12 with (at_builtin; refine app_one elem_tys _ (by rfl) _ _ (by rfl) w0.heap.size vy tys.length vals (by rfl) HOG.out wr.heap.size 1 1 _ (by rfl) rfl HNW.out HON.out (by omega) (by omega) (by omega) HS1.out (wr.heap.size + 1) HS0.out ?_; intro g3 cap3 w4 hown4 hg4 hat4 hlt4; obtain ⟨hc4, hf4, hl4⟩ := (HOE.out.box_ty hg4).all)
          have H5 : Hid (Own w0 (w4.setCell ⟨bs, 2, none⟩ (.slice (some ⟨g3, 0, none⟩) (tys.length + 1) cap3)) bs vt (.slice (some ⟨b, off, none⟩) ns.length cap) (.slice (some ⟨g3, 0, none⟩) (tys.length + 1) cap3) vk ts ns (tys ++ [l]) (setAll tk ch) (vals ++ [.slice a1 l.length c1])) := HOE.out.pushTy HVT.out HVB.out (by omega) hown4 hg4
          clear hown4 hg4 hat4 hlt4 hc4 hf4 hl4 HNW HON HOG HS0 HS1 HVT HVB HOE hcb hfb hlb
          generalize w4.setCell ⟨bs, 2, none⟩ (.slice (some ⟨g3, 0, none⟩) (tys.length + 1) cap3) = w5 at *
          obtain ⟨hcb, hfb, hlb⟩ := H5.out.box.all
          have hkl : (setAll tk ch).length = tk.length := setAll_length _ _
          have HKL : Hid ((setAll tk ch).length ≤ 20) := by have := HLN.out; unfold Hid; omega
          clear hkl
          have HNW : Hid _ := new_one (Box.new w5 #[.bool false] 4)
          have HON : Hid (∀ u ∈ ([.bool false] : List Value), u.oneCell' = true) := by intro u hu; simp at hu; subst hu; rfl
          have HOG : Hid _ := H5.out.ownk.alloc (.cells #[.bool false] 4)
          have HS0 : Hid ((w5.alloc (.cells #[.bool false] 4)).heap.size = w5.heap.size + 1) := by unfold Hid; simp
          have HS1 : Hid (w0.heap.size ≤ (w5.alloc (.cells #[.bool false] 4)).heap.size) := by have := H5.out.below.size; unfold Hid; simp; omega
          go_wp2_with (at_builtin; refine app_one elem_bool _ (by rfl) _ _ (by rfl) w0.heap.size vk (setAll tk ch).length ((setAll tk ch).map .bool) (by rfl) HOG.out w5.heap.size 1 1 _ (by rfl) rfl HNW.out HON.out (by omega) (by have := HKL.out; omega) (by have := HKL.out; omega) HS1.out (w5.heap.size + 1) HS0.out ?_; intro g4 cap4 w6 hown6 hg6 hat6 hlt6; obtain ⟨hc6, hf6, hl6⟩ := (H5.out.box_tk hg6).all)
          have H7 := H5.out.pushTk (by have := HKL.out; omega) hown6 hg6
          go_ret
          exact .inr (.inr ⟨hg, l, HO.out, rfl, _, _, _, by rw [HCE.out]; exact H7⟩)
  · have hg' : hangs ns[i] i ts.length tk = false := by simpa using hg
    clear hg
    go_wp2_with fail
    go_ret
    exact .inl ⟨hg', rfl, H1.out.below⟩

end Go.Proofs.YtekkicgbloidkaaGreatDoor
