/- The reference's types of a node, whatever the node. -/
import Derived.Test.YtekkicgbloidkaaGreatDoorRfN
import Derived.Test.YtekkicgbloidkaaGreatDoorRfB
import Derived.Test.YtekkicgbloidkaaGreatDoorSpC
namespace Go.Proofs.YtekkicgbloidkaaGreatDoor
open Go Go.RowKit

theorem ROwn.c0 {w0 w : World} {bs : Nat} {vt vn vy vk : Value} {ts : List (List DCol)} {ns : List DNode} {tys : List (List (Int × Int))} {tk : List Bool} {vals : List Value} (h : ROwn w0 w bs vt vn vy vk ts ns tys tk vals) : w.cell? ⟨bs, 0, none⟩ = some vy := by rw [h.box.rules.1]; rfl
theorem ROwn.c1 {w0 w : World} {bs : Nat} {vt vn vy vk : Value} {ts : List (List DCol)} {ns : List DNode} {tys : List (List (Int × Int))} {tk : List Bool} {vals : List Value} (h : ROwn w0 w bs vt vn vy vk ts ns tys tk vals) : w.cell? ⟨bs, 1, none⟩ = some vk := by rw [h.box.rules.1]; rfl
theorem ROwn.types {w0 w : World} {bs : Nat} {vt vn vy vk : Value} {ts : List (List DCol)} {ns : List DNode} {tys : List (List (Int × Int))} {tk : List Bool} {vals : List Value} (h : ROwn w0 w bs vt vn vy vk ts ns tys tk vals) : RTyss w vy tys := RTyss.owns h.owny (by have := h.small; omega) (fun j hj => let ⟨v, a, b, _⟩ := h.each j hj; ⟨v, a, b⟩)
theorem ROwn.taken {w0 w : World} {bs : Nat} {vt vn vy vk : Value} {ts : List (List DCol)} {ns : List DNode} {tys : List (List (Int × Int))} {tk : List Bool} {vals : List Value} (h : ROwn w0 w bs vt vn vy vk ts ns tys tk vals) : RBools w vk tk := RBools.owns h.ownk (by have := h.smallk; omega)

theorem typed_any {w0 w : World} {bs : Nat} {vt vn vy vk : Value} {ts : List (List DCol)} {ns : List DNode} {tys : List (List (Int × Int))} {tk : List Bool} {vals : List Value} (h : ROwn w0 w bs vt vn vy vk ts ns tys tk vals) (tk0 : List Bool) (hlens : tk0.length = tys.length) (hok : AllOk tys)
    (n : DNode) (ve vk' vo va : Value) (hn : NodeIs w ve vk' vo va n) (hs : sourceN n.op n.a n.b ts.length tk0 = true) (hc : countsFit n = true)
    (h8 : ∀ j (hj : j < tys.length), 1 ≤ tys[j].length ∧ tys[j].length ≤ 8) (ht8 : ∀ j (hj : j < ts.length), ts[j].length ≤ 8) :
    Calls Tryz.prog 58 #[.pointer (some ⟨bs, 0, none⟩), nodeV n ve vk' vo va, vt] w fun e w' => RTysRet w' e (colsRun n ts tys) ∧ Below w.heap.size w w' := by
  have c0 := h.c0
  have tys0 := h.types
  obtain ⟨op, a, b, es, ks, os, ags⟩ := n
  have hblk : ∀ p, p < tys.length → ∀ b off cap v, vy = .slice (some ⟨b, off, none⟩) tys.length cap → w.cell? ⟨b, off + p, none⟩ = some v → BlkOf 108 w v := by
    intro p hp b off cap v hv hcell
    obtain ⟨u, hu, _, hb⟩ := h.each p hp
    have ho := h.owny
    rw [hv] at ho
    have hoff : off = 0 := by
      rcases ho.2 with ⟨h0, _⟩ | ⟨g, c, cur, h0, _⟩
      · simp at h0
      · simp only [Value.slice.injEq, Option.some.injEq, Addr.mk.injEq, and_true] at h0; exact h0.1.2
    subst hoff
    have := owns_cell ho p u hu
    rw [Nat.zero_add] at hcell
    rw [hcell] at this
    simp only [Option.some.injEq] at this
    rw [this]; exact hb
  simp only [sourceN] at hs
  simp only [countsFit, countsN] at hc
  by_cases h1 : op = 1
  · subst h1
    simp only [if_true, Bool.and_eq_true, decide_eq_true_eq] at hs
    obtain ⟨p, rfl⟩ := Int.eq_ofNat_of_zero_le hs.1
    have hp : p < ts.length := by omega
    obtain ⟨ae, ce, ak, ck, ao, co, aa, ca, rfl, rfl, rfl, rfl⟩ := hn.shape
    have e : colsRun ⟨1, p, b, es, ks, os, ags⟩ ts tys = some (tabTys ts[p]) := by simp [colsRun, hp]
    rw [e]
    exact typed1_any bs p b vt ts _ _ _ _ _ _ _ _ _ _ _ _ w (RSl.mono mono_RTab (Keeps.of_below h.below) h.tabs) hp (ht8 p hp)
  rw [if_neg h1] at hs
  by_cases h2 : op = 2
  · subst h2
    simp only [true_or, if_true] at hs
    obtain ⟨ha, hp⟩ := freeB_lt hs
    obtain ⟨p, rfl⟩ := Int.eq_ofNat_of_zero_le ha
    have hp' : p < tys.length := by simp at hp; omega
    simp only [if_true] at hc
    have hes : 0 < es.length := by simp at hc; omega
    have e : colsRun ⟨2, p, b, es, ks, os, ags⟩ ts tys = if filterOk ⟨2, p, b, es, ks, os, ags⟩ tys[p] = true then some tys[p] else none := by simp [colsRun, hp']
    rw [e]
    exact typed2_any bs p b es ks os ags vy tys ve vk' vo va vt w hn c0 tys0 hp' hes (hok _ (List.getElem_mem hp')) (hblk p hp')
  by_cases h3 : op = 3
  · subst h3
    simp only [Int.reduceEq, true_or, or_true, if_true] at hs
    obtain ⟨ha, hp⟩ := freeB_lt hs
    obtain ⟨p, rfl⟩ := Int.eq_ofNat_of_zero_le ha
    have hp' : p < tys.length := by simp at hp; omega
    simp only [Int.reduceEq, if_false, if_true] at hc
    have hes : es.length ≤ 8 := by simp at hc; omega
    have e : colsRun ⟨3, p, b, es, ks, os, ags⟩ ts tys = projRun tys[p] es := by simp [colsRun, hp']
    rw [e]
    exact typed3_any bs p b es ks os ags vy tys ve vk' vo va vt w hn c0 tys0 hp' hes (hok _ (List.getElem_mem hp'))
  by_cases h5 : op = 5
  · subst h5
    simp only [Int.reduceEq, or_true, if_true] at hs
    obtain ⟨ha, hp⟩ := freeB_lt hs
    obtain ⟨p, rfl⟩ := Int.eq_ofNat_of_zero_le ha
    have hp' : p < tys.length := by simp at hp; omega
    simp only [Int.reduceEq, if_false, if_true] at hc
    have hks : ks.length ≤ 4 ∧ ags.length ≤ 6 := by simp at hc; omega
    have e : colsRun ⟨5, p, b, es, ks, os, ags⟩ ts tys = groupRun ⟨5, p, b, es, ks, os, ags⟩ tys[p] := by simp [colsRun, hp']
    rw [e]
    exact typed5_any bs p b es ks os ags vy tys ve vk' vo va vt w hn c0 tys0 hp' hks.1 hks.2
  rw [if_neg (by omega)] at hs
  by_cases h4 : op = 4
  · subst h4
    simp only [if_true, Bool.and_eq_true] at hs
    obtain ⟨⟨hfa, hfb⟩, hne⟩ := hs
    obtain ⟨ha, hp⟩ := freeB_lt hfa
    obtain ⟨hb, hq⟩ := freeB_lt hfb
    obtain ⟨p, rfl⟩ := Int.eq_ofNat_of_zero_le ha
    obtain ⟨q, rfl⟩ := Int.eq_ofNat_of_zero_le hb
    have hp' : p < tys.length := by simp at hp; omega
    have hq' : q < tys.length := by simp at hq; omega
    simp only [Int.reduceEq, if_false, if_true] at hc
    have hks : ks.length ≤ 4 ∧ os.length = ks.length := by simp at hc; omega
    have e : colsRun ⟨4, p, q, es, ks, os, ags⟩ ts tys = joinRun ⟨4, p, q, es, ks, os, ags⟩ tys[p] tys[q] := by simp [colsRun, hp', hq']
    rw [e]
    exact typed4_any bs p q es ks os ags vy tys ve vk' vo va vt w hn c0 tys0 hp' hq' hks.1 hks.2 (by have := h8 p hp'; omega) (by have := h8 q hq'; omega) (by have := h8 p hp'; omega) (by have := h8 q hq'; omega)
  rw [if_neg h4] at hs
  simp at hs


end Go.Proofs.YtekkicgbloidkaaGreatDoor
/- The reference's look over tables and a plan. -/
namespace Go.Proofs.YtekkicgbloidkaaGreatDoor
open Go Go.RowKit
attribute [local go_sem ↓] Go.wp_at_zero Go.wp_at_succ

/-- What the reference's look answers. -/
def RLookRet (w' : World) (e : Ending) (o : Except (Int × Nat) (List (List (Int × Int)))) : Prop :=
  match o with
  | .error (c, p) => e = .returned (.tuple #[.pointer none, .int .i64 c, .int .i64 p])
  | .ok tys => ∃ bs vy, e = .returned (.tuple #[.pointer (some ⟨bs, 0, none⟩), .int .i64 0, .int .i64 0]) ∧ w'.cell? ⟨bs, 0, none⟩ = some vy ∧ RTyss w' vy tys

theorem freeB_at {tk : List Bool} {p : Int} (h : freeB tk p = true) : ∃ q : Nat, p = q ∧ q < tk.length := by
  obtain ⟨h0, h1⟩ := freeB_lt h
  obtain ⟨q, rfl⟩ := Int.eq_ofNat_of_zero_le h0
  exact ⟨q, rfl, by simpa using h1⟩

set_option maxRecDepth 20000 in
set_option maxHeartbeats 16000000 in
theorem rlook_any (ts : List (List DCol)) (ns : List DNode) (vt vn : Value) (w : World) (ht : RTabs w vt ts) (hn : RNodes w vn ns) :
    Calls Tryz.prog 40 #[vt, vn] w fun e w' => RLookRet w' e (lookSpec ts ns) ∧ Below w.heap.size w w' := by
  obtain ⟨at', ct, rfl, htl⟩ := ht.shape
  obtain ⟨an, cn, rfl, hnl⟩ := hn.shape
  have HT : Hid (RTabs w (.slice at' ts.length ct) ts) := ht
  have HN : Hid (RNodes w (.slice an ns.length cn) ns) := hn
  clear ht hn
  go_enter Tryz.func40, Tryz.ntmps40
  go_upto_block 0 with fail
  go_cut [] (fun W => (∀ j, j < ts.length → tabOk ts j = true) ∧ Below w.heap.size w W)
  case first =>
    go_wp2_with fail
    go_loopw [7] (fun i W => ∃ k : Nat, k ≤ ts.length ∧ k ≤ 4 ∧ i = .int .i64 k ∧ (∀ j, j < k → tabOk ts j = true) ∧ Below w.heap.size w W) (fun i _ => ts.length - (intOf i).toNat)
    case atStart => exact ⟨0, Nat.zero_le _, by omega, rfl, fun j h => absurd h (Nat.not_lt_zero _), Below.refl _ _⟩
    case round =>
      obtain ⟨k, hk, hk4, rfl, hall, hB⟩ := hrel
      have HA : Hid (∀ j, j < k → tabOk ts j = true) := hall
      have HB : Hid (Below w.heap.size w wr) := hB
      clear hall hB
      by_cases hlt : k < ts.length
      · by_cases h4 : k < 4
        · obtain ⟨bt, ot, ctt, a, c, hvt, hbt, d0, hcols⟩ := tab_at HT.out hlt
          simp only [Value.slice.injEq, true_and] at hvt
          obtain ⟨rfl, rfl⟩ := hvt
          have kp := Keeps.of_below HB.out
          have e0 := kp _ _ _ d0
          have hb0 := cell_lt e0
          have hi1 : (k : Int) < (ts.length : Int) := by omega
          have hi4 : (k : Int) < 4 := by omega
          have hi5 : (k : Int) ≤ 4 := by omega
          have HC : Hid (RCols wr (.slice a ts[k].length c) ts[k]) := RSl.mono mono_RCol kp hcols
          have HTO : Hid (tabOk ts k = rightTab ts[k]) := by unfold Hid tabOk; simp [hlt, h4]
          clear kp d0 hcols
          go_wp2_with fail
          refine (tableRight_any ts[k] _ _ HC.out).mono ?_
          rintro e w1 ⟨rfl, hb1⟩
          have HB1 : Hid (Below w.heap.size w w1) := Below.step hb1 HB.out HB.out.size
          clear hb1
          by_cases hr : rightTab ts[k] = true
          · have HOKK : Hid (tabOk ts k = true) := by unfold Hid; rw [HTO.out, hr]
            rw [hr]
            clear hr
            go_wp2_with fail
            go_roundw
            case rel =>
              refine ⟨k + 1, by omega, by omega, by go_num, fun j hj => ?_, HB1.out⟩
              rcases Nat.lt_succ_iff_lt_or_eq.1 hj with h | rfl
              · exact HA.out j h
              · exact HOKK.out
            case measure => simp [intOf]; omega
          · have hr' : rightTab ts[k] = false := by simpa using hr
            have HS : Hid (lookSpec ts ns = .error (2, k)) := by
              unfold Hid lookSpec
              rw [firstBad_some hlt HA.out (by rw [HTO.out, hr'])]
            rw [hr']
            clear hr hr'
            go_wp2_with fail
            go_ret3
            exact ⟨by rw [HS.out]; rfl, HB1.out⟩
        · have hk' : k = 4 := by omega
          subst hk'
          have HS : Hid (lookSpec ts ns = .error (2, 4)) := by
            unfold Hid lookSpec
            rw [firstBad_some hlt HA.out (by unfold tabOk; simp)]
          have hi1 : (4 : Int) < (ts.length : Int) := by omega
          go_wp2_with fail
          go_ret3
          exact ⟨by rw [HS.out]; rfl, HB.out⟩
      · have hkk : k = ts.length := by omega
        subst hkk
        go_wp2_with fail
        go_meet
        case rel => exact ⟨HA.out, HB.out⟩
  case rest =>
    obtain ⟨hall0, hb1⟩ := hcut
    have HF : Hid (firstBad (tabOk ts) ts.length = none) := firstBad_none hall0
    have HALL : Hid (∀ j (hj : j < ts.length), rightTab ts[j] = true) := fun j hj => by
      have := hall0 j hj
      unfold tabOk at this
      simp [hj] at this
      exact this.2
    obtain ⟨w1, rfl⟩ : ∃ x : World, x = wc := ⟨wc, rfl⟩
    have HB1 : Hid (Below w.heap.size w w1) := hb1
    have hz1 := hb1.size
    clear hall0 hb1
    go_upto_block 2 with fail
    go_cut [] (fun W => ∃ (tys : List (List (Int × Int))) (tk : List Bool) (vy vk : Value) (vals : List Value), lookUpTo ts ns ns.length = .ok (tys, tk) ∧ tk.length = ns.length ∧ ROwn w W w1.heap.size (.slice at' ts.length ct) (.slice an ns.length cn) vy vk ts ns tys tk vals)
    case first =>
      go_wp2_with fail
      go_loopw [10] (fun x W => ∃ (k : Nat) (tys : List (List (Int × Int))) (tk : List Bool) (vy vk : Value) (vals : List Value), k ≤ ns.length ∧ x = .int .i64 k ∧ lookUpTo ts ns k = .ok (tys, tk) ∧ tk.length = k ∧ tys.length = k ∧ k ≤ 10 ∧ Wide tys ∧ AllOk tys ∧ ROwn w W w1.heap.size (.slice at' ts.length ct) (.slice an ns.length cn) vy vk ts ns tys tk vals)
        (fun x _ => ns.length - (intOf x).toNat)
      case atStart =>
        refine ⟨0, [], [], .slice none 0 0, .slice none 0 0, [], Nat.zero_le _, rfl, rfl, rfl, rfl, by omega, fun j hj => by simp at hj, fun l hl => by simp at hl, ?_⟩
        exact ⟨HB1.out.alloc hz1 _, HT.out, HN.out, hz1, Box.new _ _ _, World.ownsRow_nil _ _ _ _, World.ownsRow_nil _ _ _ _, by simp, by simp, fun j hj => by simp at hj⟩
      case round =>
        obtain ⟨k, tys, tk, vy, vk, vals, hk, rfl, hup, htk, hty, h10, hwd, hao, hown⟩ := hrel
        have HUP : Hid (lookUpTo ts ns k = .ok (tys, tk)) := hup
        have HTK : Hid (tk.length = k) := htk
        have HTY : Hid (tys.length = k) := hty
        have HW : Hid (Wide tys) := hwd
        have HAO : Hid (AllOk tys) := hao
        have HO : Hid (ROwn w wr w1.heap.size (.slice at' ts.length ct) (.slice an ns.length cn) vy vk ts ns tys tk vals) := hown
        clear hup htk hty hwd hao hown
        by_cases hlt : k < ns.length
        · by_cases hk10 : k < 10
          · obtain ⟨b, off, cap, ae, ce, ak, ck, ao, co, aa, ca, hvn, -, hbn, d0, d1, d2, d3, d4, d5, d6, hnode⟩ := node_at HN.out hlt
            simp only [Value.slice.injEq, true_and] at hvn
            obtain ⟨rfl, rfl⟩ := hvn
            have kp := Keeps.of_below HO.out.below
            have HD : Hid (∀ W, Keeps w W → W.cell? ⟨b, off + k * 7, none⟩ = some (.int .i64 ns[k].op) ∧ W.cell? ⟨b, off + k * 7 + 1, none⟩ = some (.int .i64 ns[k].a) ∧ W.cell? ⟨b, off + k * 7 + 2, none⟩ = some (.int .i64 ns[k].b) ∧ W.cell? ⟨b, off + k * 7 + 3, none⟩ = some (.slice ae ns[k].exprs.length ce) ∧ W.cell? ⟨b, off + k * 7 + 4, none⟩ = some (.slice ak ns[k].keys.length ck) ∧ W.cell? ⟨b, off + k * 7 + 5, none⟩ = some (.slice ao ns[k].others.length co) ∧ W.cell? ⟨b, off + k * 7 + 6, none⟩ = some (.slice aa ns[k].aggs.length ca) ∧ b < W.heap.size) := fun W h => ⟨h _ _ _ d0, h _ _ _ d1, h _ _ _ d2, h _ _ _ d3, h _ _ _ d4, h _ _ _ d5, h _ _ _ d6, cell_lt (h _ _ _ d0)⟩
            have HND : Hid (NodeIs w (.slice ae ns[k].exprs.length ce) (.slice ak ns[k].keys.length ck) (.slice ao ns[k].others.length co) (.slice aa ns[k].aggs.length ca) ns[k]) := hnode
            obtain ⟨e0, e1, e2, e3, e4, e5, e6, hbl⟩ := HD.out _ kp
            have hi0 : (0 : Int) ≤ (k : Int) := by omega
            have hi1 : (k : Int) < (ns.length : Int) := by omega
            have hi2 : (k : Int) < 10 := by omega
            have HG : Hid (hangs ns[k] k ts.length tk = (sourceN ns[k].op ns[k].a ns[k].b ts.length tk && countsFit ns[k])) := by unfold Hid hangs; simp [hk10]
            have HST : Hid (∀ c, lookStep ts k ns[k] (tys, tk) = .error c → lookUpTo ts ns ns.length = .error (c, k)) := fun c h => lookUpTo_stop hlt HUP.out h
            have HGO : Hid (∀ st', lookStep ts k ns[k] (tys, tk) = .ok st' → lookUpTo ts ns (k + 1) = .ok st') := fun st' h => lookUpTo_go hlt HUP.out h
            generalize ns[k] = N at *
            clear d0 d1 d2 d3 d4 d5 d6 hnode kp
            go_wp2_with fail
            rw [← HTK.out]
            refine (shape_any w1.heap.size N _ _ _ _ vk tk ts.length wr (HND.out.mono (Keeps.of_below HO.out.below)) HO.out.c1 HO.out.taken).mono ?_
            rw [HTK.out]
            rintro e w2 ⟨rfl, hb2⟩
            have HO2 : Hid (ROwn w w2 w1.heap.size (.slice at' ts.length ct) (.slice (some ⟨b, off, none⟩) ns.length cn) vy vk ts ns tys tk vals) := HO.out.call hb2
            clear hb2 e0 e1 e2 e3 e4 e5 e6 hbl HO
            by_cases hg : (sourceN N.op N.a N.b ts.length tk && countsFit N) = true
            · have HGT : Hid (hangs N k ts.length tk = true) := by unfold Hid; rw [HG.out, hg]
              have hg2 := hg
              simp only [Bool.and_eq_true] at hg2
              have HSRC : Hid (sourceN N.op N.a N.b ts.length tk = true) := hg2.1
              have HCNT : Hid (countsFit N = true) := hg2.2
              rw [hg]
              clear hg hg2
              obtain ⟨e0, e1, e2, e3, e4, e5, e6, hbl⟩ := HD.out _ (Keeps.of_below HO2.out.below)
              generalize hTK1 : (if N.op = 1 then tk else tk.set N.a.toNat true) = TK1
              have HTK1 : Hid _ := hTK1
              clear hTK1
              go_upto_if 66 with fail
              clear e0 e1 e2 e3 e4 e5 e6 hbl
              go_cut [] (fun W => ROwn w W w1.heap.size (.slice at' ts.length ct) (.slice (some ⟨b, off, none⟩) ns.length cn) vy vk ts ns tys TK1 vals)
              case first =>
                obtain ⟨e0, e1, e2, e3, e4, e5, e6, hbl⟩ := HD.out _ (Keeps.of_below HO2.out.below)
                by_cases h1 : N.op = 1
                · have h1b : (N.op != 1) = false := by simp [h1]
                  have HE1 : Hid (TK1 = tk) := by unfold Hid; rw [← HTK1.out, if_pos h1]
                  clear h1
                  go_wp2_with fail
                  go_meet
                  case rel => rw [HE1.out]; exact HO2.out
                · have h1b : (N.op != 1) = true := by simp [h1]
                  have hfa : freeB tk N.a = true := by
                    have := HSRC.out
                    unfold sourceN at this
                    rw [if_neg h1] at this
                    split at this
                    · exact this
                    · split at this
                      · simp only [Bool.and_eq_true] at this; exact this.1.1
                      · simp at this
                  obtain ⟨q, hq, hqt⟩ := freeB_at hfa
                  have HE1 : Hid (TK1 = tk.set q true) := by unfold Hid; rw [← HTK1.out, if_neg h1, hq]; rfl
                  rw [hq] at e1
                  obtain ⟨gk, ckk, rfl, hgb, hgl⟩ := World.ownsRow.form HO2.out.ownk (by omega)
                  have c1 := HO2.out.c1
                  have lb := HO2.out.box.lt
                  obtain ⟨cur, hcur⟩ := owns_box HO2.out.ownk
                  have hcq := owns_cell HO2.out.ownk q (.bool tk[q]) (by simp [hqt])
                  have hfq := hcur.rules.2
                  have hj0 : (0 : Int) ≤ (q : Int) := by omega
                  have hj1 : (q : Int) < (tk.length : Int) := by omega
                  have nb : w1.heap.size ≠ gk := HO2.out.box.ne hcur (by decide)
                  have nn : b ≠ gk := by have := hgb; omega
                  have HTAKE : Hid (ROwn w (w2.drew.setCell ⟨gk, q, none⟩ (.bool true)) w1.heap.size (.slice at' ts.length ct) (.slice (some ⟨b, off, none⟩) ns.length cn) vy (.slice (some ⟨gk, 0, none⟩) tk.length ckk) ts ns tys (tk.set q true) vals) := (HO2.out.call ((Below.refl _ _).drew)).take hqt
                  clear h1 hfa hq hcur
                  go_upto_region 15 with fail
                  go_region_held3 (fun W => W.cell? ⟨w1.heap.size, 1, none⟩ = some (.slice (some ⟨gk, 0, none⟩) tk.length ckk) ∧ W.cell? ⟨b, off + k * 7 + 1, none⟩ = some (.int .i64 q))
                    (first | (go_keep; done) | (go_split_ands; exact ⟨cell_set_ne (by assumption) nb, cell_set_ne (by assumption) nn⟩))
                    (fail)
                  go_wp2_with fail
                  go_meet
                  case rel => rw [HE1.out]; exact HTAKE.out
              case rest =>
                have HO3 : Hid (ROwn w wc w1.heap.size (.slice at' ts.length ct) (.slice (some ⟨b, off, none⟩) ns.length cn) vy vk ts ns tys TK1 vals) := hcut
                clear hcut HO2
                obtain ⟨w3, rfl⟩ : ∃ x : World, x = wc := ⟨wc, rfl⟩
                have hTL : TK1.length = tk.length := by rw [← HTK1.out]; split <;> simp
                have HTL : Hid _ := hTL
                clear hTL
                generalize hTK2 : setAll tk (childrenOf N.op N.a N.b) = TK2
                have HTK2 : Hid _ := hTK2
                clear hTK2
                obtain ⟨e0, e1, e2, e3, e4, e5, e6, hbl⟩ := HD.out _ (Keeps.of_below HO3.out.below)
                go_upto_if 82 with fail
                clear e0 e1 e2 e3 e4 e5 e6 hbl
                go_cut [] (fun W => ROwn w W w1.heap.size (.slice at' ts.length ct) (.slice (some ⟨b, off, none⟩) ns.length cn) vy vk ts ns tys TK2 vals)
                case first =>
                  obtain ⟨e0, e1, e2, e3, e4, e5, e6, hbl⟩ := HD.out _ (Keeps.of_below HO3.out.below)
                  by_cases h4 : N.op = 4
                  · have h4b : (N.op == 4) = true := by simp [h4]
                    have hsrc := HSRC.out
                    rw [h4] at hsrc
                    simp only [sourceN, Int.reduceEq, if_false, false_or, if_true, Bool.and_eq_true] at hsrc
                    obtain ⟨q, hq, hqt⟩ := freeB_at hsrc.1.2
                    have HE1 : Hid (TK2 = TK1.set q true) := by
                      unfold Hid
                      rw [← HTK2.out, ← HTK1.out, h4, if_neg (by omega), hq]
                      simp [childrenOf, setAll]
                    rw [hq] at e2
                    have hqt1 : q < TK1.length := by rw [HTL.out]; exact hqt
                    obtain ⟨gk, ckk, rfl, hgb, hgl⟩ := World.ownsRow.form HO3.out.ownk (by omega)
                    have c1 := HO3.out.c1
                    have lb := HO3.out.box.lt
                    obtain ⟨cur, hcur⟩ := owns_box HO3.out.ownk
                    have hcq := owns_cell HO3.out.ownk q (.bool TK1[q]) (by simp [hqt1])
                    have hfq := hcur.rules.2
                    have hj0 : (0 : Int) ≤ (q : Int) := by omega
                    have hj1 : (q : Int) < (TK1.length : Int) := by omega
                    have nb : w1.heap.size ≠ gk := HO3.out.box.ne hcur (by decide)
                    have nn : b ≠ gk := by have := hgb; omega
                    have HTAKE : Hid (ROwn w (w3.drew.setCell ⟨gk, q, none⟩ (.bool true)) w1.heap.size (.slice at' ts.length ct) (.slice (some ⟨b, off, none⟩) ns.length cn) vy (.slice (some ⟨gk, 0, none⟩) TK1.length ckk) ts ns tys (TK1.set q true) vals) := (HO3.out.call ((Below.refl _ _).drew)).take hqt1
                    clear h4 hsrc hq hcur hqt
                    go_upto_region 17 with fail
                    go_region_held3 (fun W => W.cell? ⟨w1.heap.size, 1, none⟩ = some (.slice (some ⟨gk, 0, none⟩) TK1.length ckk) ∧ W.cell? ⟨b, off + k * 7 + 2, none⟩ = some (.int .i64 q))
                      (first | (go_keep; done) | (go_split_ands; exact ⟨cell_set_ne (by assumption) nb, cell_set_ne (by assumption) nn⟩))
                      (fail)
                    go_wp2_with fail
                    go_meet
                    case rel => rw [HE1.out]; exact HTAKE.out
                  · have h4b : (N.op == 4) = false := by simp [h4]
                    have HE1 : Hid (TK2 = TK1) := by
                      unfold Hid
                      rw [← HTK2.out, ← HTK1.out]
                      have hsrc := HSRC.out
                      unfold sourceN at hsrc
                      by_cases h1 : N.op = 1
                      · rw [if_pos h1, h1]; simp [childrenOf, setAll]
                      · rw [if_neg h1]
                        rw [if_neg h1] at hsrc
                        by_cases h2 : N.op = 2 ∨ N.op = 3 ∨ N.op = 5
                        · unfold childrenOf; rw [if_pos h2]; simp [setAll]
                        · rw [if_neg h2, if_neg h4] at hsrc; simp at hsrc
                    clear h4
                    go_wp2_with fail
                    go_meet
                    case rel => rw [HE1.out]; exact HO3.out
                case rest =>
                  have HO4 : Hid (ROwn w wc w1.heap.size (.slice at' ts.length ct) (.slice (some ⟨b, off, none⟩) ns.length cn) vy vk ts ns tys TK2 vals) := hcut
                  clear hcut HO3
                  obtain ⟨w4, rfl⟩ : ∃ x : World, x = wc := ⟨wc, rfl⟩
                  have HT2 : Hid (TK2.length = tk.length) := by unfold Hid; rw [← HTK2.out, setAll_length]
                  obtain ⟨e0, e1, e2, e3, e4, e5, e6, hbl⟩ := HD.out _ (Keeps.of_below HO4.out.below)
                  go_wp2_with fail
                  refine (typed_any HO4.out tk (by rw [HTK.out, HTY.out]) HAO.out N _ _ _ _ (HND.out.mono (Keeps.of_below HO4.out.below)) HSRC.out HCNT.out HW.out (fun j hj => by have := HALL.out j hj; unfold rightTab at this; simp at this; omega)).mono ?_
                  rintro e w5 ⟨hret, hb5⟩
                  obtain ⟨v1, ok1, rfl, hti⟩ := RTysRet.shape hret
                  have HO5 : Hid (ROwn w w5 w1.heap.size (.slice at' ts.length ct) (.slice (some ⟨b, off, none⟩) ns.length cn) vy vk ts ns tys TK2 vals) := HO4.out.call hb5
                  clear hret hb5 e0 e1 e2 e3 e4 e5 e6 hbl HO4
                  cases hO : colsRun N ts tys with
                  | none =>
                    rw [hO] at hti
                    simp only [RTysIs] at hti
                    subst hti
                    have HS : Hid (lookSpec ts ns = .error (4, k)) := by
                      unfold Hid lookSpec
                      rw [HF.out]; simp only []
                      rw [HST.out 4 (by unfold lookStep; rw [if_pos HGT.out]; simp only []; rw [hO])]
                    clear hO
                    go_wp2_with fail
                    go_ret3
                    exact ⟨by rw [HS.out]; rfl, HO5.out.below⟩
                  | some l =>
                    rw [hO] at hti
                    obtain ⟨rfl, hv1, hbv1⟩ := hti
                    have HG2 : Hid (lookUpTo ts ns (k + 1) = .ok (tys ++ [l], TK2 ++ [false])) := HGO.out _ (by unfold lookStep; rw [if_pos HGT.out]; simp only []; rw [hO, HTK2.out])
                    have hwl := colsRun_wide HW.out (by rw [HTK.out, HTY.out]) HALL.out HGT.out hO
                    have hol := colsRun_ok HALL.out HAO.out hO
                    have HWD : Hid (Wide (tys ++ [l])) := by
                      intro j hj
                      rw [List.length_append, List.length_singleton] at hj
                      by_cases hjl : j < tys.length
                      · rw [List.getElem_append_left hjl]; exact HW.out j hjl
                      · rw [List.getElem_append_right (by omega)]; simpa using hwl
                    have HAD : Hid (AllOk (tys ++ [l])) := by
                      intro x hx
                      rw [List.mem_append, List.mem_singleton] at hx
                      rcases hx with hx | rfl
                      · exact HAO.out x hx
                      · exact hol
                    obtain ⟨a1, c1, rfl, -⟩ := hv1.shape
                    have HV1 : Hid (RTys w5 (.slice a1 l.length c1) l) := hv1
                    have HBV1 : Hid (BlkOf 108 w5 (.slice a1 l.length c1)) := hbv1
                    have hty20 : tys.length ≤ 20 := by have := HTY.out; omega
                    have HKL : Hid (TK2.length ≤ 20) := by have := HT2.out; have := HTK.out; unfold Hid; omega
                    clear hO hv1 hbv1 hwl hol
                    obtain ⟨hcb, hfb, hlb⟩ := HO5.out.box.all
                    have HNW : Hid _ := new_one (Box.new w5 #[.slice a1 l.length c1] 104)
                    have HON : Hid (∀ u ∈ ([.slice a1 l.length c1] : List Value), u.oneCell' = true) := by intro u hu; simp at hu; subst hu; rfl
                    have HOG : Hid _ := HO5.out.owny.alloc (.cells #[.slice a1 l.length c1] 104)
                    have HS0 : Hid ((w5.alloc (.cells #[.slice a1 l.length c1] 104)).heap.size = w5.heap.size + 1) := by unfold Hid; simp
                    have HS1 : Hid (w.heap.size ≤ (w5.alloc (.cells #[.slice a1 l.length c1] 104)).heap.size) := by have := HO5.out.below.size; unfold Hid; simp; omega
                    go_upto_region 22 with (at_builtin; refine app_one elem_rtys _ (by rfl) _ _ (by rfl) w.heap.size vy tys.length vals (by rfl) HOG.out w5.heap.size 1 1 _ (by rfl) rfl HNW.out HON.out (by omega) (by omega) (by omega) HS1.out (w5.heap.size + 1) HS0.out ?_; intro g3 cap3 w6 hown6 hg6 hat6 hlt6; obtain ⟨hc6, hf6, hl6⟩ := (HO5.out.box_ty hg6).all)
                    have H6 : Hid (ROwn w (w6.setCell ⟨w1.heap.size, 0, none⟩ (.slice (some ⟨g3, 0, none⟩) (tys.length + 1) cap3)) w1.heap.size (.slice at' ts.length ct) (.slice (some ⟨b, off, none⟩) ns.length cn) (.slice (some ⟨g3, 0, none⟩) (tys.length + 1) cap3) vk ts ns (tys ++ [l]) TK2 (vals ++ [.slice a1 l.length c1])) := HO5.out.pushTy HV1.out HBV1.out (by omega) hown6 hg6
                    clear hown6 hg6 hat6 hlt6 hc6 hf6 hl6 HNW HON HOG HS0 HS1 HV1 HBV1 HO5 hcb hfb hlb
                    generalize w6.setCell ⟨w1.heap.size, 0, none⟩ (.slice (some ⟨g3, 0, none⟩) (tys.length + 1) cap3) = w7 at *
                    obtain ⟨hcb, hfb, hlb⟩ := H6.out.box.all
                    have HNW : Hid _ := new_one (Box.new w7 #[.bool false] 4)
                    have HON : Hid (∀ u ∈ ([.bool false] : List Value), u.oneCell' = true) := by intro u hu; simp at hu; subst hu; rfl
                    have HOG : Hid _ := H6.out.ownk.alloc (.cells #[.bool false] 4)
                    have HS0 : Hid ((w7.alloc (.cells #[.bool false] 4)).heap.size = w7.heap.size + 1) := by unfold Hid; simp
                    have HS1 : Hid (w.heap.size ≤ (w7.alloc (.cells #[.bool false] 4)).heap.size) := by have := H6.out.below.size; unfold Hid; simp; omega
                    go_wp2_with (at_builtin; refine app_one elem_bool _ (by rfl) _ _ (by rfl) w.heap.size vk TK2.length (TK2.map .bool) (by rfl) HOG.out w7.heap.size 1 1 _ (by rfl) rfl HNW.out HON.out (by omega) (by have := HKL.out; omega) (by have := HKL.out; omega) HS1.out (w7.heap.size + 1) HS0.out ?_; intro g4 cap4 w8 hown8 hg8 hat8 hlt8; obtain ⟨hc8, hf8, hl8⟩ := (H6.out.box_tk hg8).all)
                    have H8 := H6.out.pushTk (by have := HKL.out; omega) hown8 hg8
                    have H8' : Hid _ := H8
                    clear hown8 hg8 hat8 hlt8 hc8 hf8 hl8 H8 hcb hfb hlb
                    go_roundw
                    case rel => exact ⟨k + 1, tys ++ [l], TK2 ++ [false], _, _, _, by omega, by go_num, HG2.out, by rw [List.length_append, HT2.out, HTK.out]; rfl, by simp [HTY.out], by omega, HWD.out, HAD.out, H8'.out⟩
                    case measure => simp [intOf]; omega
            · have hg' : (sourceN N.op N.a N.b ts.length tk && countsFit N) = false := by simpa using hg
              have HS : Hid (lookSpec ts ns = .error (3, k)) := by
                unfold Hid lookSpec
                rw [HF.out]; simp only []
                rw [HST.out 3 (by unfold lookStep; rw [if_neg (by rw [HG.out, hg']; simp)])]
              rw [hg']
              clear hg hg'
              go_wp2_with fail
              go_ret3
              exact ⟨by rw [HS.out]; rfl, HO2.out.below⟩
          · have hi2 : ¬ (k : Int) < 10 := by omega
            have HS : Hid (lookSpec ts ns = .error (3, k)) := by
              unfold Hid lookSpec
              rw [HF.out]; simp only []
              rw [lookUpTo_stop hlt HUP.out (c := 3) (by unfold lookStep hangs; simp [hk10])]
            have hk' : k = 10 := by omega
            subst hk'
            go_wp2_with fail
            go_ret3
            exact ⟨by rw [HS.out]; rfl, HO.out.below⟩
        · have hkn : k = ns.length := by omega
          subst hkn
          go_wp2_with fail
          go_meet
          case rel => exact ⟨tys, tk, vy, vk, vals, HUP.out, HTK.out, HO.out⟩
    case rest =>
      obtain ⟨tys, tk, vy, vk, vals, hup, htk, hown⟩ := hcut
      have HUP : Hid (lookUpTo ts ns ns.length = .ok (tys, tk)) := hup
      have HO : Hid (ROwn w wc w1.heap.size (.slice at' ts.length ct) (.slice an ns.length cn) vy vk ts ns tys tk vals) := hown
      have HTK : Hid (tk.length = ns.length) := htk
      clear hup hown htk
      obtain ⟨w2, rfl⟩ : ∃ x : World, x = wc := ⟨wc, rfl⟩
      have HSP : Hid (∀ p, looseAt tk = some p → lookSpec ts ns = .error (3, p)) := fun p h => by
        unfold lookSpec
        rw [HF.out]; simp only []
        rw [HUP.out]; simp only []; rw [h]
      have HSO : Hid (looseAt tk = none → lookSpec ts ns = .ok tys) := fun h => by
        unfold lookSpec
        rw [HF.out]; simp only []
        rw [HUP.out]; simp only []; rw [h]
      by_cases h0 : ns.length = 0
      · have HS : Hid (lookSpec ts ns = .error (3, 0)) := HSP.out 0 (by unfold looseAt; rw [if_pos (by rw [HTK.out]; exact h0)])
        rw [h0]
        clear h0
        go_wp2_with fail
        go_ret3
        exact ⟨by rw [HS.out]; rfl, HO.out.below⟩
      · obtain ⟨m, hm⟩ : ∃ m, ns.length = m + 1 := ⟨ns.length - 1, by omega⟩
        have HE : Hid (looseAt tk = firstBad (fun j => tk.getD j false) m) := by
          unfold Hid looseAt
          have := HTK.out
          rw [if_neg (by omega), show tk.length - 1 = m by omega]
        have hm0 : (((m + 1 : Nat) : Int) == 0) = false := by simp; omega
        have hmb : m + 1 ≤ 9223372036854775807 := by omega
        have HTM : Hid (tk.length = m + 1) := by unfold Hid; rw [HTK.out, hm]
        obtain ⟨ak', ck', hvk, -, hel⟩ := HO.out.taken
        have c1 := HO.out.c1
        have c0 := HO.out.c0
        have lb := HO.out.box.lt
        rw [hvk, HTM.out] at c1
        rw [hm]
        clear h0 hvk
        go_wp2_with fail
        go_loopw [14] (fun i W => ∃ k : Nat, k ≤ m ∧ i = .int .i64 k ∧ (∀ j, j < k → tk.getD j false = true) ∧ W = w2) (fun i _ => m - (intOf i).toNat)
        case atStart => exact ⟨0, Nat.zero_le _, rfl, fun j h => absurd h (Nat.not_lt_zero _), rfl⟩
        case round =>
          obtain ⟨k, hk, rfl, hall, rfl⟩ := hrel
          have HA : Hid (∀ j, j < k → tk.getD j false = true) := hall
          clear hall
          by_cases hlt : k < m
          · have hkt : k < tk.length := by have := HTM.out; omega
            obtain ⟨b, off, rfl, hc⟩ := hel k hkt
            simp only [RBool, Nat.mul_one, Nat.add_zero] at hc
            have hi1 : (k : Int) < ((m + 1 : Nat) : Int) := by omega
            have hi2 : (k : Int) + 1 < ((m + 1 : Nat) : Int) := by omega
            have lc := cell_lt hc
            by_cases hT : tk[k] = true
            · rw [hT] at hc
              clear hel
              go_wp2_with fail
              go_roundw
              case rel =>
                refine ⟨k + 1, by omega, by go_num, fun j hj => ?_, by first | rfl | trivial⟩
                rcases Nat.lt_succ_iff_lt_or_eq.1 hj with h | rfl
                · exact HA.out j h
                · simp [hkt, hT]
              case measure => simp [intOf]; omega
            · have hT' : tk[k] = false := by simpa using hT
              rw [hT'] at hc
              have HS : Hid (lookSpec ts ns = .error (3, k)) := HSP.out k (by
                rw [HE.out]
                exact firstBad_some hlt HA.out (by simp [hkt, hT']))
              clear hel hT
              go_wp2_with fail
              go_ret3
              exact ⟨by rw [HS.out]; rfl, HO.out.below⟩
          · have hkm : k = m := by omega
            subst hkm
            have HS : Hid (lookSpec ts ns = .ok tys) := HSO.out (by rw [HE.out]; exact firstBad_none HA.out)
            clear hel
            go_wp2_with fail
            go_ret3
            exact ⟨by rw [HS.out]; exact ⟨_, _, rfl, c0, HO.out.types⟩, HO.out.below⟩

end Go.Proofs.YtekkicgbloidkaaGreatDoor
/- The call Types of the program. -/
namespace Go.Proofs.YtekkicgbloidkaaGreatDoor
open Go Go.RowKit

theorem lookUpTo_code {ts : List (List DCol)} {ns : List DNode} : ∀ (k : Nat) (c : Int) (p : Nat), lookUpTo ts ns k = .error (c, p) → c = 3 ∨ c = 4 := by
  intro k
  induction k with
  | zero => intro c p h; simp [lookUpTo] at h
  | succ k ih =>
    intro c p h
    simp only [lookUpTo] at h
    cases hp : lookUpTo ts ns k with
    | error e => rw [hp] at h; simp only [Except.error.injEq] at h; subst h; exact ih c p hp
    | ok s =>
      rw [hp] at h
      simp only [] at h
      cases hn : ns[k]? with
      | none => rw [hn] at h; simp at h
      | some n =>
        rw [hn] at h
        simp only [] at h
        unfold lookStep at h
        by_cases hg : hangs n k ts.length s.2 = true
        · rw [if_pos hg] at h
          cases hc : colsRun n ts s.1 with
          | none => rw [hc] at h; simp at h; omega
          | some l => rw [hc] at h; simp at h
        · rw [if_neg hg] at h; simp at h; omega
theorem lookSpec_code {ts : List (List DCol)} {ns : List DNode} {c : Int} {p : Nat} (h : lookSpec ts ns = .error (c, p)) : c = 2 ∨ c = 3 ∨ c = 4 := by
  unfold lookSpec at h
  cases hF : firstBad (tabOk ts) ts.length with
  | some q => rw [hF] at h; simp at h; omega
  | none =>
    rw [hF] at h
    simp only [] at h
    cases hU : lookUpTo ts ns ns.length with
    | error e =>
      rw [hU] at h
      simp only [Except.error.injEq] at h
      subst h
      have := lookUpTo_code _ _ _ hU
      omega
    | ok st =>
      rw [hU] at h
      simp only [] at h
      cases hL : looseAt st.2 with
      | some q => rw [hL] at h; simp at h; omega
      | none => rw [hL] at h; simp at h

set_option maxHeartbeats 2000000 in
theorem types_any (ts : List (List DCol)) (ns : List DNode) (vt vn : Value) (w : World) (ht : RTabs w vt ts) (hn : RNodes w vn ns) :
    Calls Tryz.prog 16 #[vt, vn] w fun e w' => TypesRet w.heap.size w' e (lookSpec ts ns) ∧ Below w.heap.size w w' := by
  generalize hO : lookSpec ts ns = o at *
  have HO : Hid _ := hO
  clear hO
  go_enter Tryz.func16, Tryz.ntmps16
  go_wp2_with fail
  refine (look_any ts ns vt vn _ ht hn).mono ?_
  rintro e w1 ⟨hret, hb1⟩
  rw [HO.out] at hret
  have HB1 : Hid (Below w.heap.size w w1) := hb1
  have hz1 := hb1.size
  clear hb1 ht hn
  cases o with
  | error ce =>
    obtain ⟨c, p⟩ := ce
    simp only [LookRet] at hret
    subst hret
    have hcc := lookSpec_code HO.out
    have hc' : (c != 0) = true := by simp; omega
    clear hcc
    go_wp2_with fail
    go_ret2
    exact ⟨rfl, HB1.out⟩
  | ok tys =>
    obtain ⟨hpos, hwide⟩ := lookSpec_ok HO.out
    obtain ⟨v, rfl, hty⟩ := hret
    obtain ⟨m, hm⟩ : ∃ m, tys.length = m + 1 := ⟨tys.length - 1, by omega⟩
    have hml : m < tys.length := by omega
    have hlast : tys.getLastD [] = tys[m] := by
      rw [List.getLastD_eq_getLast?, List.getLast?_eq_getElem?]
      simp [hm]
    have HLAST : Hid _ := hlast
    have hw8 := hwide m hml
    obtain ⟨bt, ot, ct, a, c, rfl, hbt, d0, hrt⟩ := tys_at hty hml
    obtain ⟨b, off, rfl, hcells⟩ := hrt.cells (by omega)
    have h63 := hty.shape
    obtain ⟨_, _, _, h63⟩ := h63
    have hm63 : m + 1 ≤ 9223372036854775807 := by omega
    rw [hm] at *
    generalize hL : tys[m] = L at *
    have HRT : Hid (RTys w1 (.slice (some ⟨b, off, none⟩) L.length c) L) := hrt
    clear hL hrt hcells hty hwide hlast hpos h63
    go_wp2_with (at_make; refine mk_full elem_col _ rfl _ _ rfl _ _ L.length rfl rfl (by omega) (by omega) ?_; intro w2 cur hbx hcs hb2)
    have HBX : Hid (Box w2 w1.heap.size cur 67) := hbx
    have HB2 : Hid (Below w1.heap.size w1 w2) := hb2
    have HCS : Hid (cur.size = L.length * 5) := hcs
    clear hbx hb2 hcs d0
    go_loopw [34] (fun i W => ∃ (k : Nat) (cs : Array Value), k ≤ L.length ∧ i = .int .i64 k ∧ Box W w1.heap.size cs 67 ∧ cs.size = L.length * 5 ∧ ColsUpTo cs L k ∧ Below w1.heap.size w1 W)
      (fun i _ => L.length - (intOf i).toNat)
    case atStart => exact ⟨0, cur, Nat.zero_le _, rfl, HBX.out, HCS.out, fun j _ hj => absurd hj (Nat.not_lt_zero _), HB2.out⟩
    case round =>
      obtain ⟨k, cs, hk, rfl, hbox, hcsz, hup, hB⟩ := hrel
      have HX : Hid (Box wr w1.heap.size cs 67) := hbox
      have HU : Hid (ColsUpTo cs L k) := hup
      have HB : Hid (Below w1.heap.size w1 wr) := hB
      have HCZ : Hid (cs.size = L.length * 5) := hcsz
      clear hbox hup hB hcsz
      by_cases hlt : k < L.length
      · obtain ⟨ao, cp, hv, -, hel⟩ := HRT.out
        simp only [Value.slice.injEq, true_and] at hv
        obtain ⟨rfl, rfl⟩ := hv
        obtain ⟨b', off', hb', d0, d1⟩ := hel k hlt
        simp only [Option.some.injEq, Addr.mk.injEq, and_true] at hb'
        obtain ⟨rfl, rfl⟩ := hb'
        simp only [Nat.add_zero] at d0
        have kp := Keeps.of_below HB.out
        have e0 := kp _ _ _ d0
        have e1 := kp _ _ _ d1
        have hbw := cell_lt e0
        have hxl := HX.out.lt
        clear kp d0 d1 hel
        have hi0 : (0 : Int) ≤ (k : Int) := by omega
        have hi1 : (k : Int) < (L.length : Int) := by omega
        have hr := HX.out.rules.1
        have hff := HX.out.rules.2
        have hc0 : wr.cell? ⟨w1.heap.size, k * 5, none⟩ = some (cs[k * 5]'(by have := HCZ.out; omega)) := by rw [hr]; simp
        have hc1 : wr.cell? ⟨w1.heap.size, k * 5 + 1, none⟩ = some (cs[k * 5 + 1]'(by have := HCZ.out; omega)) := by rw [hr]; simp
        have hc2 : wr.cell? ⟨w1.heap.size, k * 5 + 2, none⟩ = some (cs[k * 5 + 2]'(by have := HCZ.out; omega)) := by rw [hr]; simp
        have hc3 : wr.cell? ⟨w1.heap.size, k * 5 + 3, none⟩ = some (cs[k * 5 + 3]'(by have := HCZ.out; omega)) := by rw [hr]; simp
        have hc4 : wr.cell? ⟨w1.heap.size, k * 5 + 4, none⟩ = some (cs[k * 5 + 4]'(by have := HCZ.out; omega)) := by rw [hr]; simp
        clear hr
        go_wp2_with fail
        go_roundw
        case rel =>
          refine ⟨k + 1, _, by omega, by go_num, (((((HX.out.set _ _).set _ _).set _ _).set _ _).set _ _).alloc _, by simp; exact HCZ.out, HU.out.step hlt HCZ.out, ?_⟩
          have hws := HB.out.size
          exact (((((HB.out.setCell (by simp) _).setCell (by simp) _).setCell (by simp) _).setCell (by simp) _).setCell (by simp) _).alloc (by simp; omega) _
        case measure => simp [intOf]; omega
      · have hkk : k = L.length := by omega
        subst hkk
        go_wp2_with fail
        go_ret2
        refine ⟨?_, HB1.out.trans (HB.out.mono hz1)⟩
        simp only [TypesRet]
        rw [HLAST.out]
        exact ⟨w1.heap.size, cs, rfl, hz1, HX.out, HCZ.out, HU.out⟩

end Go.Proofs.YtekkicgbloidkaaGreatDoor
/- The reference's Check and Types. -/
namespace Go.Proofs.YtekkicgbloidkaaGreatDoor
open Go Go.RowKit
attribute [local go_sem ↓] Go.wp_at_zero Go.wp_at_succ

theorem lookUpTo_len {ts : List (List DCol)} {ns : List DNode} : ∀ (k : Nat), k ≤ ns.length → ∀ st, lookUpTo ts ns k = .ok st → st.1.length = k := by
  intro k
  induction k with
  | zero => intro _ st h; simp only [lookUpTo, Except.ok.injEq] at h; subst h; rfl
  | succ k ih =>
    intro hk st h
    simp only [lookUpTo] at h
    cases hp : lookUpTo ts ns k with
    | error e => rw [hp] at h; simp at h
    | ok s =>
      rw [hp] at h
      have hl := ih (by omega) s hp
      simp only [] at h
      rw [List.getElem?_eq_getElem (by omega)] at h
      simp only [] at h
      unfold lookStep at h
      by_cases hg : hangs ns[k] k ts.length s.2 = true
      · rw [if_pos hg] at h
        cases hc : colsRun ns[k] ts s.1 with
        | none => rw [hc] at h; simp at h
        | some l =>
          rw [hc] at h
          simp only [Except.ok.injEq] at h
          subst h
          simp [hl]
      · rw [if_neg hg] at h; simp at h
theorem lookSpec_len {ts : List (List DCol)} {ns : List DNode} {tys : List (List (Int × Int))} (h : lookSpec ts ns = .ok tys) : tys.length = ns.length := by
  unfold lookSpec at h
  split at h
  · simp at h
  · split at h
    · simp at h
    · rename_i st hst
      split at h
      · simp at h
      · simp only [Except.ok.injEq] at h
        subst h
        exact lookUpTo_len _ (Nat.le_refl _) st hst

theorem RLookRet.shape {w : World} {e : Ending} {o : Except (Int × Nat) (List (List (Int × Int)))} (h : RLookRet w e o) : ∃ a, e = .returned (.tuple #[.pointer a, .int .i64 (checkOf o).1, .int .i64 (checkOf o).2]) := by
  cases o with
  | error e => obtain ⟨c, p⟩ := e; exact ⟨_, h⟩
  | ok tys => obtain ⟨bs, vy, h1, -⟩ := h; exact ⟨_, h1⟩

set_option maxRecDepth 20000 in
set_option maxHeartbeats 1000000 in
theorem rcheck_any (ts : List (List DCol)) (ns : List DNode) (vt vn : Value) (w : World) (ht : RTabs w vt ts) (hn : RNodes w vn ns) :
    Calls Tryz.prog 13 #[vt, vn] w fun e w' => e = .returned (.tuple #[.int .i64 (checkOf (lookSpec ts ns)).1, faultV (checkOf (lookSpec ts ns)).2]) ∧ Below w.heap.size w w' := by
  have kp := (Keeps.refl w).alloc (.cells #[.int .i64 0, .slice none 0 0] 46)
  have ht' := RSl.mono mono_RTab kp ht
  have hn' := RSl.mono mono_RNode kp hn
  have br := Box.new w #[.int .i64 0, .slice none 0 0] 46
  clear kp
  generalize hO : lookSpec ts ns = o at *
  have HO : Hid _ := hO
  clear hO
  go_enter Tryz.func13, Tryz.ntmps13
  go_wp2_with fail
  refine (rlook_any ts ns vt vn _ ht' hn').mono ?_
  rintro e w1 ⟨hret, hb1⟩
  obtain ⟨v, rfl⟩ := hret.shape
  rw [HO.out]
  have hB1 : Below w.heap.size w w1 := Below.step hb1 ((Below.refl _ _).alloc (by simp) _) (by simp)
  obtain ⟨hcr, hfr, hlr⟩ := (br.call hb1).all
  clear hret hb1 ht' hn'
  go_wp2_with fail
  exact bodyPost_ret (v := .tuple #[.int .i64 (checkOf o).1, faultV (checkOf o).2]) (by simp [results, Tryz.results13, go_sem, hcr]) rfl ⟨rfl, (hB1.setCell (by simp) _).setCell (by simp) _⟩

/-- Columns without entries. -/
def RColE (_ : World) (rd : Nat → Option Value) (t : Int × Int) : Prop := rd 0 = some (.int .i64 t.1) ∧ rd 1 = some (.int .i64 t.2) ∧ rd 2 = some (.slice none 0 0) ∧ rd 3 = some (.slice none 0 0) ∧ rd 4 = some (.slice none 0 0)
theorem mono_RColE : Mono RColE := fun _ _ _ _ _ _ hr h => ⟨hr _ _ h.1, hr _ _ h.2.1, hr _ _ h.2.2.1, hr _ _ h.2.2.2.1, hr _ _ h.2.2.2.2⟩
abbrev flColE (t : Int × Int) : List Value := [.int .i64 t.1, .int .i64 t.2, .slice none 0 0, .slice none 0 0, .slice none 0 0]
theorem flat_colE : Flat 5 RColE flColE (fun _ => True) := ⟨fun _ => rfl, by omega, fun x u hu => by simp at hu; rcases hu with rfl | rfl | rfl <;> rfl, fun w rd x h => ⟨trivial, fun j u hu => by
  match j, hu with
  | 0, hu => simp at hu; subst hu; exact h.1
  | 1, hu => simp at hu; subst hu; exact h.2.1
  | 2, hu => simp at hu; subst hu; exact h.2.2.1
  | 3, hu => simp at hu; subst hu; exact h.2.2.2.1
  | 4, hu => simp at hu; subst hu; exact h.2.2.2.2
  | j + 5, hu => simp at hu⟩, fun w rd x _ h => ⟨h 0 _ rfl, h 1 _ rfl, h 2 _ rfl, h 3 _ rfl, h 4 _ rfl⟩⟩
abbrev RColEs (w : World) := RSl w 5 RColE
theorem RSl.ofOwns {α : Type} {sz : Nat} {R : World → (Nat → Option Value) → α → Prop} {fl : α → List Value} {ok : α → Prop} (F : Flat sz R fl ok) {w : World} {base : Nat} {T : TypeId} {v : Value} {l : List α} (hok : ∀ x ∈ l, ok x) (h : w.ownsRow base T sz v l.length (l.flatMap fl)) (hl : l.length ≤ 9223372036854775807) : RSl w sz R v l := by
  have h' := h
  rcases h'.2 with ⟨rfl, h0⟩ | ⟨g, cap, cur, rfl, hr⟩
  · have : l = [] := List.eq_nil_of_length_eq_zero h0
    subst this; exact RSl.nil _ _ _
  · refine ⟨_, cap, rfl, hl, fun i hi => ⟨g, 0, rfl, F.back _ _ _ (hok _ (List.getElem_mem hi)) (fun j u hu => ?_)⟩⟩
    have hj : j < sz := by
      have := (List.getElem?_eq_some_iff.1 hu).1
      rw [F.len] at this; exact this
    rw [Nat.zero_add]
    exact owns_cell h _ _ (by rw [flat_get fl sz F.len l i hi j hj]; exact hu)

/-- What the reference's Types answers. -/
def RTypesRet (w' : World) (e : Ending) (o : Except (Int × Nat) (List (List (Int × Int)))) : Prop :=
  match o with
  | .error (c, _) => e = .returned (.tuple #[.slice none 0 0, .int .i64 c])
  | .ok tys => ∃ v, e = .returned (.tuple #[v, .int .i64 0]) ∧ RColEs w' v (tys.getLastD [])

set_option maxRecDepth 20000 in
set_option maxHeartbeats 4000000 in
theorem rtypes_any (ts : List (List DCol)) (ns : List DNode) (vt vn : Value) (w : World) (ht : RTabs w vt ts) (hn : RNodes w vn ns) :
    Calls Tryz.prog 17 #[vt, vn] w fun e w' => RTypesRet w' e (lookSpec ts ns) ∧ Below w.heap.size w w' := by
  obtain ⟨an, cn, rfl, hnl⟩ := hn.shape
  generalize hO : lookSpec ts ns = o at *
  have HO : Hid _ := hO
  clear hO
  go_enter Tryz.func17, Tryz.ntmps17
  go_wp2_with fail
  refine (rlook_any ts ns vt _ _ ht hn).mono ?_
  rintro e w1 ⟨hret, hb1⟩
  rw [HO.out] at hret
  have HB1 : Hid (Below w.heap.size w w1) := hb1
  have hz1 := hb1.size
  clear hb1 ht hn
  cases o with
  | error ce =>
    obtain ⟨c, p⟩ := ce
    simp only [RLookRet] at hret
    subst hret
    have hcc := lookSpec_code HO.out
    have hc' : (c != 0) = true := by simp; omega
    clear hcc
    go_wp2_with fail
    go_ret2
    exact ⟨rfl, HB1.out⟩
  | ok tys =>
    obtain ⟨hpos, hwide⟩ := lookSpec_ok HO.out
    have hlen := lookSpec_len HO.out
    obtain ⟨bs, vy, rfl, hc0, hty⟩ := hret
    obtain ⟨m, hm⟩ : ∃ m, tys.length = m + 1 := ⟨tys.length - 1, by omega⟩
    have hml : m < tys.length := by omega
    have hlast : tys.getLastD [] = tys[m] := by
      rw [List.getLastD_eq_getLast?, List.getLast?_eq_getElem?]
      simp [hm]
    have HLAST : Hid _ := hlast
    have hw8 := hwide m hml
    obtain ⟨bt, ot, ct, a, c, rfl, hbt, d0, hrt⟩ := tys_at hty hml
    have hnm : ns.length = m + 1 := by omega
    have hlb := cell_lt hc0
    rw [hm] at hc0
    generalize hL : tys[m] = L at *
    have HRT : Hid (RTys w1 (.slice a L.length c) L) := hrt
    rw [hnm]
    have hm63 : m + 1 ≤ 9223372036854775807 := by omega
    clear hL hrt hty hwide hlast hpos hlen hm hml hnm
    go_wp2_with fail
    go_loopw [9, 11] (fun v i W => ∃ (k : Nat), k ≤ L.length ∧ i = .int .i64 k ∧ W.ownsRow w1.heap.size 67 5 v k ((L.take k).flatMap flColE) ∧ Below w1.heap.size w1 W)
      (fun _ i _ => L.length - (intOf i).toNat)
    case atStart => exact ⟨0, Nat.zero_le _, rfl, by simpa using World.ownsRow_nil _ _ _ _, Below.refl _ _⟩
    case round =>
      obtain ⟨k, hk, rfl, hown, hB⟩ := hrel
      have HOW : Hid (wr.ownsRow w1.heap.size 67 5 u9 k ((L.take k).flatMap flColE)) := hown
      have HB : Hid (Below w1.heap.size w1 wr) := hB
      clear hown hB
      by_cases hlt : k < L.length
      · obtain ⟨b, off, hab, hr⟩ := RSl.cellAt HRT.out hlt
        subst hab
        obtain ⟨r0, r1⟩ := hr
        simp only [Nat.add_zero] at r0
        have kp := Keeps.of_below HB.out
        have e0 := kp _ _ _ r0
        have e1 := kp _ _ _ r1
        have lb := cell_lt e0
        have hj0 : (0 : Int) ≤ (k : Int) := by omega
        have hj1 : (k : Int) < (L.length : Int) := by omega
        have HTK : Hid ((L.take (k + 1)).flatMap flColE = (L.take k).flatMap flColE ++ flColE L[k]) := by
          unfold Hid
          rw [List.take_succ_eq_append_getElem hlt, List.flatMap_append, List.flatMap_cons, List.flatMap_nil, List.append_nil]
        have lb1 : b < w1.heap.size := cell_lt r0
        generalize L[k] = X at *
        clear kp r0 r1
        have HOG : Hid ((wr.alloc (.cells #[.int .i64 X.1, .int .i64 X.2, .slice none 0 0, .slice none 0 0, .slice none 0 0] 67)).drew.ownsRow w1.heap.size 67 5 u9 k ((L.take k).flatMap flColE)) := HOW.out.alloc _
        have HNW : Hid (∀ j u, (flColE X)[j]? = some u → (wr.alloc (.cells #[.int .i64 X.1, .int .i64 X.2, .slice none 0 0, .slice none 0 0, .slice none 0 0] 67)).drew.cell? ⟨wr.heap.size, j, none⟩ = some u) := fun j u hu => by
          rw [(Box.new wr #[.int .i64 X.1, .int .i64 X.2, .slice none 0 0, .slice none 0 0, .slice none 0 0] 67).drew.rules.1 j, ← Array.getElem?_toList]; exact hu
        have HS0 : Hid ((wr.alloc (.cells #[.int .i64 X.1, .int .i64 X.2, .slice none 0 0, .slice none 0 0, .slice none 0 0] 67)).drew.heap.size = wr.heap.size + 1) := by unfold Hid; simp
        have HS1 : Hid (w1.heap.size ≤ (wr.alloc (.cells #[.int .i64 X.1, .int .i64 X.2, .slice none 0 0, .slice none 0 0, .slice none 0 0] 67)).drew.heap.size) := by have := HB.out.size; unfold Hid; simp; omega
        go_upto_region 9 with fail
        go_region_held3 (fun W => W.cell? ⟨b, off + k * 2, none⟩ = some (.int .i64 X.1) ∧ W.cell? ⟨b, off + k * 2 + 1, none⟩ = some (.int .i64 X.2))
          (first | (go_keep; done) | exact ⟨hg3.cell (Keeps.alloc (Keeps.refl _) _ _ _ _ e0) (fun e => by have h : w1.heap.size ≤ b := (HOW.out.lt _ e.symm).1; omega), hg3.cell (Keeps.alloc (Keeps.refl _) _ _ _ _ e1) (fun e => by have h : w1.heap.size ≤ b := (HOW.out.lt _ e.symm).1; omega)⟩)
          ((refine step_app elem_col _ (by rfl) _ _ (by rfl) w1.heap.size _ _ _ (by rfl) HOG.out wr.heap.size 1 1 _ (by rfl) rfl HNW.out (flat_colE.one X) (by omega) (by omega) (by omega) HS1.out (wr.heap.size + 1) HS0.out ?_; intro g3 cap3 w3 hown3 hg3 hat3 hlt3))
        have HO3 : Hid (w3.ownsRow w1.heap.size 67 5 (.slice (some ⟨g3, 0, none⟩) (k + 1) cap3) (k + 1) ((L.take (k + 1)).flatMap flColE)) := by unfold Hid; rw [HTK.out]; exact hown3
        have HB3 : Hid (Below w1.heap.size w1 w3) := (HB.out.alloc HB.out.size _).drew.grown hg3 HS1.out (fun g hg => (HOW.out.lt g hg).1)
        clear hown3 hg3 hat3 hlt3
        go_wp2_with fail
        go_roundw
        case rel => exact ⟨k + 1, by omega, by go_num, HO3.out, HB3.out⟩
        case measure => simp [intOf]; omega
      · have hkk : k = L.length := by omega
        subst hkk
        have HO3 : Hid (wr.ownsRow w1.heap.size 67 5 u9 L.length (L.flatMap flColE)) := by have := HOW.out; rw [List.take_length] at this; exact this
        go_wp2_with fail
        go_ret2
        refine ⟨⟨_, rfl, ?_⟩, HB1.out.trans (HB.out.mono hz1)⟩
        rw [HLAST.out]
        exact RSl.ofOwns flat_colE (fun _ _ => trivial) HO3.out (by omega)

end Go.Proofs.YtekkicgbloidkaaGreatDoor
