/-
  TreePlays. (Written by wip/tools/genplays.py.)
-/
import Derived.Test.YtnpnfajgphpabaaTreC3
import Derived.Deep.RegionHeld3
namespace Go.Proofs.Ytnpnfajgphpabaa
open Go.RowKit Go.Shelf Go.Maps Go.WideMaps
set_option maxRecDepth 20000
set_option linter.unusedVariables false
set_option linter.unusedSimpArgs false
section
attribute [local go_sem] Oper.semAt_some
set_option maxRecDepth 100000 in
set_option maxHeartbeats 32000000 in
theorem law11_Plays (vl : Value) (l : List Nm) (vq : Value) (q : Nm) (w : World) (hL : NmsArg w vl l) (hQ : NmArg w vq q) :
    Calls Try.prog 3 #[vl, vq] w fun e w' => e = .returned (.bool true) ∧ Below w.heap.size w w' := by
  obtain ⟨a0, c0, rfl⟩ := hL.len
  obtain ⟨aq, cq, rfl, -⟩ := id hQ.1.1
  obtain ⟨m, hm⟩ : ∃ m, l.length = m := ⟨_, rfl⟩
  obtain ⟨kq, hkq⟩ : ∃ k, q.length = k := ⟨_, rfl⟩
  rw [hm] at hL ⊢; rw [hkq] at hQ ⊢
  have HLN := Lib.hid hL; have HQN := Lib.hid hQ; have HM := Lib.hid hm; have HKQ := Lib.hid hkq
  clear hL hQ hm hkq
  by_cases h30 : 30 < (m : Int)
  · go_enter Try.func3, Try.ntmps3
    go_wp2_with fail
    refine (law11_known _).mono ?_
    rintro e w1 ⟨rfl, hb1⟩
    have HB1 := Lib.hid hb1; clear hb1
    go_wp2
    go_ret
    exact ⟨rfl, HB1.out⟩
  have h30' : (m : Int) ≤ 30 := by omega
  clear h30
  obtain ⟨bq, hbq⟩ : ∃ b, fewN q = b := ⟨_, rfl⟩
  have hfq := fun (w1 : World) (hb : Below w.heap.size w w1) => kn_Few (.slice aq kq cq) q bq hbq w w1 HQN.out (HQN.out.1.below hb)
  have HFQ := Lib.hid hfq; have HBQ := Lib.hid hbq
  clear hfq hbq
  cases bq with
  | false =>
    go_enter Try.func3, Try.ntmps3
    go_wp2_with fail
    refine (law11_known _).mono ?_
    rintro e w1 ⟨rfl, hb1⟩
    have hf := HFQ.out w1 hb1
    have HB1 := Lib.hid hb1; clear hb1
    go_wp2_with fail
    refine hf.mono ?_
    rintro e w2 ⟨rfl, hb2⟩
    have HB2 := Lib.hid (HB1.out.trans (hb2.mono HB1.out.size)); clear hb2 hf
    go_wp2
    go_ret
    exact ⟨rfl, HB2.out⟩
  | true =>
  have hk140 : kq ≤ 140 := by have := fewN_len20 HBQ.out; rw [HKQ.out] at this; exact this
  by_cases hq20 : 20 < (kq : Int)
  · go_enter Try.func3, Try.ntmps3
    go_wp2_with fail
    refine (law11_known _).mono ?_
    rintro e w1 ⟨rfl, hb1⟩
    have hf := HFQ.out w1 hb1
    have HB1 := Lib.hid hb1; clear hb1
    go_wp2_with fail
    refine hf.mono ?_
    rintro e w2 ⟨rfl, hb2⟩
    have HB2 := Lib.hid (HB1.out.trans (hb2.mono HB1.out.size)); clear hb2 hf
    go_wp2
    go_ret
    exact ⟨rfl, HB2.out⟩
  have hq20' : (kq : Int) ≤ 20 := by omega
  clear hq20
  obtain ⟨iv, hiv⟩ : ∃ iv : Nat → Value, iv = fun j => .int .i64 (j : Int) := ⟨_, rfl⟩
  have HIV := Lib.hid (show ∀ j : Nat, iv j = .int .i64 (j : Int) from fun j => by rw [hiv])
  have HVI := Lib.hid (show ∀ k, k ≤ l.length → ∀ p v, vlN l iv k p = some v → ∃ i, v = .int .i64 i from fun k hk p v h => by
    obtain ⟨j, _, rfl⟩ := vlN_mem k hk h; rw [hiv]; exact ⟨_, rfl⟩)
  have HKN := Lib.hid (fewN_ok HBQ.out)
  clear hiv
  go_enter Try.func3, Try.ntmps3
  go_wp2_with fail
  refine (law11_known _).mono ?_
  rintro e w1 ⟨rfl, hb1⟩
  have hf := HFQ.out w1 hb1
  have HB1 := Lib.hid hb1; clear hb1
  go_wp2_with fail
  refine hf.mono ?_
  rintro e w2 ⟨rfl, hb2⟩
  have hb := HB1.out.trans (hb2.mono HB1.out.size)
  have hn := tl_New_i w w2 hb
  clear hb2 hf hb
  go_wp2_with fail
  refine hn.mono ?_
  rintro e w3 ⟨B, rfl, ht, -⟩
  have HT3 := Lib.hid (ht.below' ((Below.refl _ w3).alloc (Nat.le_refl _) (.cells #[.slice none 0 0] 23)))
  clear ht hn
  go_wp2
  go_loopw [6, 7] (fun va vi w9 => ∃ (wr : World) (k n c : Nat) (a : Option Addr) (ys : List Nm), wr = w9 ∧ va = .slice a n c ∧ vi = .int .i64 k ∧ k ≤ m ∧ Hid (NmsAt wr (.slice a n c) ys) ∧ Hid (AllOK (ksOf (l.take k)) ys) ∧ Hid ((∀ n ∈ l.take k, n.length ≤ 20 ∧ fewN n = true) ∧ TLp 56 54 (.int .i64 0) w B (ksOf (l.take k)) (vlN l iv k) wr)) (fun _ vi _ => m - (intOf vi).toNat)
  case atStart => exact ⟨_, 0, 1, 1, _, _, rfl, rfl, rfl, Nat.zero_le _, Lib.hid (nms_root _ _), Lib.hid AllOK.start, Lib.hid ⟨by simp, HT3.out⟩⟩
  case round =>
    clear HT3
    obtain ⟨wr, k, n, c, a, ys, rfl, rfl, rfl, hk, HY, HA, HI⟩ := hrel
    by_cases hlt : k < m
    · have hltz : (k : Int) < (m : Int) := by omega
      have hkl : k < l.length := by rw [HM.out]; exact hlt
      obtain ⟨g, off, rfl, -, hg, a1, n1, c1, hc, hn, hnl⟩ := HLN.out.at hkl
      obtain ⟨x, hx⟩ : ∃ x, l[k] = x := ⟨_, rfl⟩
      rw [hx] at hn hnl
      have HKS := Lib.hid (show ksOf (l.take (k + 1)) = addK (ksOf (l.take k)) (wayN x) by rw [ksOf_succ hkl, hx])
      have HVK := Lib.hid (show vlN l iv (k + 1) = updT (vlN l iv k) (wayN x) (.int .i64 (k : Int)) by rw [vlN_succ hkl, hx, HIV.out])
      have HTK := Lib.hid (show l.take (k + 1) = l.take k ++ [x] by rw [List.take_succ_eq_append_getElem hkl, hx])
      have HKL := Lib.hid hkl
      obtain ⟨bx, hbx⟩ : ∃ b, fewN x = b := ⟨_, rfl⟩
      have hbw : Below w.heap.size w wr := HI.out.2.world
      have hcw : wr.cell? ⟨g, off + k, none⟩ = some (.slice a1 n1 c1) := (hbw.cell (p := ⟨g, off + k, none⟩) hg).trans hc
      have hf := kn_Few (.slice a1 n1 c1) x bx hbx w wr hn (hn.1.below hbw)
      have HN := Lib.hid hn; have HNL := Lib.hid hnl; have HC := Lib.hid hc; have HG := Lib.hid hg; have HBX := Lib.hid hbx; have HBW := Lib.hid hbw
      clear hn hnl hc hg hx hbx hbw hkl
      cases bx with
      | false =>
        go_wp2_with fail
        refine hf.mono ?_
        rintro e w4 ⟨rfl, hb4⟩
        have HB4 := Lib.hid (HBW.out.trans (hb4.mono HBW.out.size)); clear hb4 hf
        go_wp2
        go_ret
        exact ⟨rfl, HB4.out⟩
      | true =>
        by_cases hn20 : 20 < (n1 : Int)
        · go_wp2_with fail
          refine hf.mono ?_
          rintro e w4 ⟨rfl, hb4⟩
          have hcw4 : w4.cell? ⟨g, off + k, none⟩ = some (.slice a1 n1 c1) := (hb4.cell (p := ⟨g, off + k, none⟩) (Nat.lt_of_lt_of_le HG.out HBW.out.size)).trans hcw
          have HB4 := Lib.hid (HBW.out.trans (hb4.mono HBW.out.size)); clear hb4 hf
          go_wp2
          go_ret
          exact ⟨rfl, HB4.out⟩
        · have hn20' : (n1 : Int) ≤ 20 := by omega
          clear hn20
          go_wp2_with fail
          refine hf.mono ?_
          rintro e w4 ⟨rfl, hb4⟩
          have hcw4 : w4.cell? ⟨g, off + k, none⟩ = some (.slice a1 n1 c1) := (hb4.cell (p := ⟨g, off + k, none⟩) (Nat.lt_of_lt_of_le HG.out HBW.out.size)).trans hcw
          have hb4w := HBW.out.trans (hb4.mono HBW.out.size)
          have HLE := Lib.hid (show x.length ≤ 20 by have := HNL.out; omega)
          have HLEN : Hid ((ksOf (l.take k)).length ≤ 1 + 20 * k) := Lib.hid (by
            have h := ksOf_len (l.take k) (fun n hn => (HI.out.1 n hn).1)
            rw [List.length_take] at h
            omega)
          have hT4 := HI.out.2.below' hb4
          have hp := tl_PutC_i hT4 (HVI.out k (Nat.le_of_lt HKL.out)) (.slice a1 n1 c1) (.int .i64 (k : Int)) x (HN.out.1.below hb4w) (fewN_ok HBX.out) ⟨_, rfl⟩ (by have := HLEN.out; omega)
          have HY4 := Lib.hid (HY.out.below hb4)
          have HOK := Lib.hid hT4.ok
          clear hb4 hb4w hf hT4
          go_wp2_with fail
          refine hp.mono ?_
          rintro e w5 ⟨⟨x5, rfl⟩, hT5, hkc⟩
          have HY5 := Lib.hid (HY4.out.keepC hkc)
          have HT5 := Lib.hid hT5
          have hbw5 : Below w.heap.size w w5 := hT5.world
          have hcw5 : w5.cell? ⟨g, off + k, none⟩ = some (.slice a1 n1 c1) := (hbw5.cell (p := ⟨g, off + k, none⟩) HG.out).trans HC.out
          have hadd := ref_AddN (.slice a n c) (.slice a1 n1 c1) ys x _ w5 rfl HY5.out HA.out.1 HA.out.2.1 (HA.out.closed HOK.out) (by rw [HA.out.len HOK.out]; have := HLEN.out; omega) (HN.out.1.below hbw5) (fewN_ok HBX.out) (by have := HLE.out; omega)
          clear hp hT5 hkc hbw5
          go_wp2_with fail
          refine hadd.mono ?_
          rintro e w6 ⟨v6, ys6, rfl, hy6, ha6, hb6⟩
          have HA6 := Lib.hid (HA.out.step rfl HOK.out ha6)
          have HT6 := Lib.hid (HT5.out.below' hb6)
          obtain ⟨a6, n6, c6, rfl⟩ := hy6.shape
          have HY6 := Lib.hid hy6
          clear hy6 ha6 hb6 hadd
          go_wp2
          go_roundw
          case measure => simp [intOf]; omega
          case rel => exact ⟨_, k + 1, n6, c6, a6, ys6, rfl, rfl, by go_num, by omega, HY6, by rw [HKS.out]; exact HA6, Lib.hid ⟨fun y hy => by
              rw [HTK.out] at hy
              rcases List.mem_append.1 hy with hy | hy
              · exact HI.out.1 y hy
              · rw [List.mem_singleton.1 hy]; exact ⟨HLE.out, HBX.out⟩, by rw [HKS.out, HVK.out]; exact HT6.out⟩⟩
    · obtain rfl : m = k := by omega
      have htake : l.take m = l := List.take_of_length_le (by rw [HM.out]; exact Nat.le_refl _)
      have HLEN : Hid ((ksOf l).length ≤ 1 + 20 * m) := Lib.hid (by
        have h := ksOf_len (l.take m) (fun n hn => (HI.out.1 n hn).1)
        rw [htake, HM.out] at h; exact h)
      have HT : Hid (TLp 56 54 (.int .i64 0) w B (ksOf l) (vlN l iv m) wr) := Lib.hid (by have h := HI.out.2; rwa [htake] at h)
      have HAL : Hid (AllOK (ksOf l) ys) := Lib.hid (by have h := HA.out; rwa [htake] at h)
      have HFW : Hid (∀ j (h : j < l.length), fewN l[j] = true) := Lib.hid (fun j h => (HI.out.1 l[j] (by rw [htake]; exact List.getElem_mem h)).2)
      have HOK := Lib.hid HT.out.ok
      have HYL : Hid ((ksOf l).length = ys.length) := Lib.hid (HAL.out.len HOK.out).symm
      obtain rfl : n = ys.length := HY.out.len
      obtain ⟨n, hn⟩ : ∃ n, ys.length = n := ⟨_, rfl⟩
      rw [hn] at HY ⊢
      have hn1 : n ≤ 601 := by have := HLEN.out; have := HYL.out; omega
      have HN := Lib.hid hn
      clear HI HA hk htake hlt hn
      have hnm := tl_Names_i HT.out HAL.out (by have := HLEN.out; omega)
      go_wp2_with fail
      refine hnm.mono ?_
      rintro e w4 ⟨v4, rfl, hy4, hb4⟩
      obtain ⟨a4, n4, c4, rfl⟩ := hy4.shape
      obtain rfl : n4 = n := by rw [hy4.len]; exact HN.out
      have HY4 := Lib.hid hy4
      have HY5 := Lib.hid (HY.out.below hb4)
      have HT4 := Lib.hid (HT.out.below' hb4)
      clear hy4 hb4 hnm HT HY
      have hlen := tl_Len_i HT4.out (by have := HLEN.out; omega)
      rw [HYL.out, HN.out] at hlen
      go_wp2_with fail
      refine hlen.mono ?_
      rintro e w5 ⟨rfl, rfl⟩
      clear hlen
      go_wp2
      go_loopw [9] (fun vi w9 => ∃ (wr : World) (i : Nat), wr = w9 ∧ vi = .int .i64 i ∧ i ≤ n4 ∧ Hid (Below w5.heap.size w5 wr)) (fun vi _ => n4 - (intOf vi).toNat)
      case atStart => exact ⟨_, 0, rfl, rfl, Nat.zero_le _, Lib.hid (Below.refl _ _)⟩
      case round =>
        obtain ⟨wr, i, rfl, rfl, hi, HB⟩ := hrel
        by_cases hlt : i < n4
        · have hltz : (i : Int) < (n4 : Int) := by omega
          have hiz : (0 : Int) ≤ (i : Int) := by omega
          have hiy : i < ys.length := by rw [HN.out]; exact hlt
          obtain ⟨g, off, rfl, b1, m1, d1, hc1, hn1', -⟩ := (HY4.out.below HB.out).at hiy
          obtain ⟨g2, off2, rfl, b2, m2, d2, hc2, hn2', -⟩ := (HY5.out.below HB.out).at hiy
          obtain ⟨y, hy⟩ : ∃ y, ys[i] = y := ⟨_, rfl⟩
          have hym : y ∈ ys := by rw [← hy]; exact List.getElem_mem hiy
          rw [hy] at hn1' hn2'
          have hyk := HAL.out.2.1 y hym
          have hhas : decide (wayN y ∈ ksOf l) = true := decide_eq_true (by
            have h := (HAL.out.2.2 y hyk.1).1 hym
            unfold wayN; rw [hyk.1]; exact h)
          have KD := Lib.hid (show ∀ W W', (W.cell? ⟨g, off + i, none⟩ = some (.slice b1 m1 d1) ∧ W.cell? ⟨g2, off2 + i, none⟩ = some (.slice b2 m2 d2) ∧ Below wr.heap.size wr W) → Below W.heap.size W W' → (W'.cell? ⟨g, off + i, none⟩ = some (.slice b1 m1 d1) ∧ W'.cell? ⟨g2, off2 + i, none⟩ = some (.slice b2 m2 d2) ∧ Below wr.heap.size wr W') from by
            intro W W' ⟨h1, h2, h3⟩ hb
            exact ⟨(hb.cell (p := ⟨g, off + i, none⟩) (World.block_lt_of_cell? W _ h1)).trans h1, (hb.cell (p := ⟨g2, off2 + i, none⟩) (World.block_lt_of_cell? W _ h2)).trans h2, h3.trans (hb.mono h3.size)⟩)
          have HSM : Hid (∀ W, (W.cell? ⟨g, off + i, none⟩ = some (.slice b1 m1 d1) ∧ W.cell? ⟨g2, off2 + i, none⟩ = some (.slice b2 m2 d2) ∧ Below wr.heap.size wr W) → Calls Try.prog 14 #[.slice b1 m1 d1, .slice b2 m2 d2] W (fun e w' => e = .returned (.bool true) ∧ Below W.heap.size W w')) := Lib.hid (fun W hW =>
            kn_RSame _ _ y y true ((sameN_iff _ _).2 rfl) W (hn1'.below hW.2.2) (hn2'.below hW.2.2) hyk.2 hyk.2)
          have HHS : Hid (∀ W, (W.cell? ⟨g, off + i, none⟩ = some (.slice b1 m1 d1) ∧ W.cell? ⟨g2, off2 + i, none⟩ = some (.slice b2 m2 d2) ∧ Below wr.heap.size wr W) → Calls Try.prog 15 #[.pointer (some ⟨B, 0, none⟩), .slice b1 m1 d1] W (fun e w' => e = .returned (.bool true) ∧ Below W.heap.size W w')) := Lib.hid (fun W hW => by
            have h := tl_Has_i ((HT4.out.below' HB.out).below' hW.2.2) (.slice b1 m1 d1) y (hn1'.below hW.2.2) hyk.2
            rw [hhas] at h; exact h)
          have hS0 : wr.cell? ⟨g, off + i, none⟩ = some (.slice b1 m1 d1) ∧ wr.cell? ⟨g2, off2 + i, none⟩ = some (.slice b2 m2 d2) ∧ Below wr.heap.size wr wr := ⟨hc1, hc2, Below.refl _ _⟩
          clear hc1 hc2 hn1' hn2' hy hym hyk hhas hiy
          go_wp2
          go_region_held3 (fun W => W.cell? ⟨g, off + i, none⟩ = some (.slice b1 m1 d1) ∧ W.cell? ⟨g2, off2 + i, none⟩ = some (.slice b2 m2 d2) ∧ Below wr.heap.size wr W) (first | assumption | exact KD.out _ _ (by assumption) (below_drewT (Below.refl _ _)) | exact KD.out _ _ (by assumption) (below_drewQ (Below.refl _ _) _)) (first | ((with_reducible refine (HSM.out _ (by assumption)).mono ?_); rintro e w5 ⟨rfl, hb5⟩; have hS2 := KD.out _ _ (by assumption) hb5) | ((with_reducible refine (HHS.out _ (by assumption)).mono ?_); rintro e w5 ⟨rfl, hb5⟩; have hS2 := KD.out _ _ (by assumption) hb5))
          all_goals
            have HB5 := Lib.hid (HB.out.trans (hS2.2.2.mono HB.out.size))
            clear hS2 hS0
            go_wp2
            go_roundw
            case measure => simp [intOf]; omega
            case rel => exact ⟨_, i + 1, rfl, by go_num, by omega, HB5⟩
        · obtain rfl : n4 = i := by omega
          have HT6 := Lib.hid (HT4.out.below' HB.out); have HY6 := Lib.hid (HY5.out.below HB.out)
          clear HT4 HY4 HY5 HB hlt hi
          go_wp2
          go_loopw [10, 11] (fun vw vi w9 => ∃ (wq : World) (i : Nat) (r : Int), wq = w9 ∧ vw = .int .i64 r ∧ vi = .int .i64 i ∧ i ≤ m ∧ Hid (WantI l q i r (vlN l iv i)) ∧ Hid (Below wr.heap.size wr wq)) (fun _ vi _ => m - (intOf vi).toNat)
          case atStart => exact ⟨_, 0, -1, rfl, rfl, rfl, Nat.zero_le _, Lib.hid (.inl ⟨rfl, rfl⟩), Lib.hid (Below.refl _ _)⟩
          case round =>
            obtain ⟨wq, i, r, rfl, rfl, rfl, hi, HWI, HB⟩ := hrel
            have hbw : Below w.heap.size w wq := (HT6.out.below' HB.out).world
            by_cases hlt : i < m
            · have hltz : (i : Int) < (m : Int) := by omega
              have hil : i < l.length := by rw [HM.out]; exact hlt
              obtain ⟨g, off, rfl, -, hg, a1, n1, c1, hc, hn, -⟩ := HLN.out.at hil
              obtain ⟨x, hx⟩ : ∃ x, l[i] = x := ⟨_, rfl⟩
              have hfx := HFW.out i hil
              rw [hx] at hn hfx
              obtain ⟨s, hs⟩ : ∃ s, sameN x q = s := ⟨_, rfl⟩
              have hcw : wq.cell? ⟨g, off + i, none⟩ = some (.slice a1 n1 c1) := (hbw.cell (p := ⟨g, off + i, none⟩) hg).trans hc
              have hsm := kn_RSame _ _ x q s hs wq (hn.1.below hbw) (HQN.out.1.below hbw) (fewN_ok hfx) HKN.out
              have HW2 : Hid (WantI l q (i + 1) (if s then (i : Int) else r) (vlN l iv (i + 1))) := Lib.hid (by
                cases s with
                | true =>
                  right
                  exact ⟨i, rfl, by omega, by rw [vlN_yes hil (by rw [hx]; exact way_same hs), HIV.out]⟩
                | false =>
                  have e : vlN l iv (i + 1) (wayN q) = vlN l iv i (wayN q) := vlN_no hil (by rw [hx]; exact way_diff hs)
                  rcases HWI.out with ⟨h1, h2⟩ | ⟨j, h1, h2, h3⟩
                  · exact .inl ⟨h1, e.trans h2⟩
                  · exact .inr ⟨j, h1, by omega, e.trans h3⟩)
              clear hc hn hg hx hfx hs hbw hil
              go_wp2_with fail
              refine hsm.mono ?_
              rintro e w7 ⟨rfl, hb7⟩
              have HB7 := Lib.hid (HB.out.trans (hb7.mono HB.out.size))
              clear hb7 hsm hcw
              cases s
              · go_wp2
                go_roundw
                case measure => simp [intOf]; omega
                case rel => exact ⟨_, i + 1, r, rfl, rfl, by go_num, by omega, HW2, HB7⟩
              · go_wp2
                go_roundw
                case measure => simp [intOf]; omega
                case rel => exact ⟨_, i + 1, (i : Int), rfl, rfl, by go_num, by omega, HW2, HB7⟩
            · obtain rfl : m = i := by omega
              have HT7 := Lib.hid (HT6.out.below' HB.out); have HY7 := Lib.hid (HY6.out.below HB.out)
              have hg := tl_Get_i HT7.out (.slice aq kq cq) q (HQN.out.1.below hbw) HKN.out (fun v e => HVI.out m (by rw [HM.out]; exact Nat.le_refl _) _ v e)
              obtain ⟨gv, gb, hgv, hgw⟩ : ∃ (gv : Int) (gb : Bool), GetPost (vlN l iv m (wayN q)) (.int .i64 0) wq = (fun e w' => e = .returned (.tuple #[.int .i64 gv, .bool gb]) ∧ Below wq.heap.size wq w') ∧ ((gb = false ∧ gv = 0 ∧ r = -1) ∨ (gb = true ∧ gv = r ∧ 0 ≤ r)) := by
                rcases HWI.out with ⟨h1, h2⟩ | ⟨j, h1, _, h3⟩
                · exact ⟨0, false, by unfold GetPost; rw [h2]; rfl, .inl ⟨rfl, rfl, h1⟩⟩
                · exact ⟨j, true, by unfold GetPost; rw [h3]; rfl, .inr ⟨rfl, h1.symm, by omega⟩⟩
              rw [hgv] at hg
              have HGW := Lib.hid hgw
              clear HT6 HY6 HB hgv hgw HWI hlt hi hbw
              go_wp2_with fail
              refine hg.mono ?_
              rintro e w8 ⟨rfl, hb8⟩
              have HT8 := Lib.hid (HT7.out.below' hb8); have HY8 := Lib.hid (HY7.out.below hb8)
              clear hb8 hg HT7 HY7
              go_upto_region 29 with (fail)
              go_cut [147] (fun v wx => v = .bool false ∧ w8 = wx)
              case first =>
                rcases HGW.out with ⟨rfl, rfl, rfl⟩ | ⟨rfl, rfl, hr0⟩
                · go_wp2_with fail
                  go_meet
                  exact ⟨rfl, rfl⟩
                · have hr1 : ¬ (gv < 0) := by omega
                  go_wp2_with fail
                  go_meet
                  exact ⟨rfl, rfl⟩
              case rest =>
              obtain ⟨rfl, rfl⟩ := hcut
              have HBW8 := Lib.hid HT8.out.world
              clear HGW
              go_wp2
              go_loopw [14, 15, 16, 17] (fun vd vk vb vi w9 => ∃ (wr : World) (i : Nat) (da : Option Addr) (dn dc : Nat) (d : Nm) (ka : Option Addr) (kn kc : Nat) (K : List (List UInt8)) (b : Bool), wr = w9 ∧ vd = .slice da dn dc ∧ vk = .slice ka kn kc ∧ vb = .bool b ∧ vi = .int .i64 i ∧ i ≤ n4 ∧ Hid (NmAt w8 (.slice da dn dc) d ∧ DeepW q (ys.take i) d ∧ dn = d.length) ∧ Hid (OwnC 1 9 wr w8.heap.size (.slice ka kn kc) (oneV (K.map strV)) ∧ KidsI q (ys.take i) K) ∧ Hid (OnI b q (ys.take i)) ∧ Hid (Below w8.heap.size w8 wr)) (fun _ _ _ vi _ => n4 - (intOf vi).toNat)
              case atStart => exact ⟨_, 0, none, 0, 0, [], none, 0, 0, [], false, rfl, rfl, rfl, rfl, rfl, Nat.zero_le _, Lib.hid ⟨nm_nil _, DeepW.start q, rfl⟩, Lib.hid ⟨OwnK.nil _ _, KidsI.start q⟩, Lib.hid (OnI.start q), Lib.hid (Below.refl _ _)⟩
              case round =>
                obtain ⟨wr, i, da, dn, dc, d, ka, kn, kc, K, b, rfl, rfl, rfl, rfl, rfl, hi, HD, HK, HO, HB⟩ := hrel
                by_cases hlt : i < n4
                · have hltz : (i : Int) < (n4 : Int) := by omega
                  have hiz : (0 : Int) ≤ (i : Int) := by omega
                  have hiy : i < ys.length := by rw [HN.out]; exact hlt
                  obtain ⟨g, off, rfl, ea, el, ec, hce, hny, hel⟩ := HY8.out.at hiy
                  obtain ⟨y, hy⟩ : ∃ y, ys[i] = y := ⟨_, rfl⟩
                  have hyk := HAL.out.2.1 y (by rw [← hy]; exact List.getElem_mem hiy)
                  rw [hy] at hny hel
                  have HTY := Lib.hid (show ys.take (i + 1) = ys.take i ++ [y] by rw [List.take_succ_eq_append_getElem hiy, hy])
                  have HCE := Lib.hid (fun (W : World) (hb : Below w8.heap.size w8 W) => ((hb.cell (p := ⟨g, off + i, none⟩) (World.block_lt_of_cell? w8 _ hce)).trans hce : W.cell? ⟨g, off + i, none⟩ = some (.slice ea el ec)))
                  have HNY := Lib.hid (fun (W : World) (hb : Below w8.heap.size w8 W) => (hny.below hb : NmAt W (.slice ea el ec) y))
                  have HEL := Lib.hid hel; have HYK := Lib.hid hyk
                  have hel2 : el ≤ 1048576 := by rw [hel]; exact hyk.2.1
                  obtain ⟨s, hs⟩ : ∃ s, sameN y q = s := ⟨_, rfl⟩
                  have HS := Lib.hid hs
                  have HSAME := Lib.hid (fun (W : World) (hb : Below w8.heap.size w8 W) => (kn_RSame _ _ y q s hs W (hny.below hb) (HQN.out.1.below (HBW8.out.trans (hb.mono HBW8.out.size))) hyk.2 HKN.out : Calls Try.prog 14 #[.slice ea el ec, .slice aq kq cq] W (fun e w' => e = .returned (.bool s) ∧ Below W.heap.size W w')))
                  obtain ⟨u, hu⟩ : ∃ u, underN q y = u := ⟨_, rfl⟩
                  obtain ⟨t, ht⟩ : ∃ t, underN y q = t := ⟨_, rfl⟩
                  have hun := kn_RUnder (.slice aq kq cq) (.slice ea el ec) q y u hu wr (HQN.out.1.below (HBW8.out.trans (HB.out.mono HBW8.out.size))) (hny.below HB.out) HKN.out hyk.2
                  have HUN2 := Lib.hid (fun (W : World) (hb : Below w8.heap.size w8 W) => (kn_RUnder _ _ y q t ht W (hny.below hb) (HQN.out.1.below (HBW8.out.trans (hb.mono HBW8.out.size))) hyk.2 HKN.out : Calls Try.prog 17 #[.slice ea el ec, .slice aq kq cq] W (fun e w' => e = .returned (.bool t) ∧ Below W.heap.size W w')))
                  have HU := Lib.hid hu; have HUT0 := Lib.hid ht
                  have hcer := HCE.out wr HB.out
                  clear hce hny hel hyk hs hu ht hy hiy
                  go_wp2_with fail
                  refine hun.mono ?_
                  rintro e w11 ⟨rfl, hb11⟩
                  have hcer11 : w11.cell? ⟨g, off + i, none⟩ = some (.slice ea el ec) := (hb11.cell (p := ⟨g, off + i, none⟩) (World.block_lt_of_cell? wr _ hcer)).trans hcer
                  have HB11 := Lib.hid (HB.out.trans (hb11.mono HB.out.size))
                  have HW11 := Lib.hid hb11
                  clear hb11 hun hcer
                  cases u with
                  | true =>
                    have hle : el ≤ kq := by
                      have h := (under_drop HU.out HYK.out.1).2
                      have := HEL.out; have := HKQ.out; omega
                    have hne1 : ¬ (el : Int) = (kq : Int) + 1 := by omega
                    have HK2 : Hid (KidsI q (ys.take (i + 1)) K) := Lib.hid (by
                      rw [HTY.out]; exact HK.out.2.leave (fun h => by have := HEL.out; have := HKQ.out; omega))
                    by_cases hlong : dn ≤ el
                    · have hlz : (dn : Int) ≤ (el : Int) := by omega
                      have HDY : Hid (DeepW q (ys.take (i + 1)) y) := Lib.hid (by
                        rw [HTY.out]; exact HD.out.2.1.take HU.out (by have := HD.out.2.2; have := HEL.out; omega))
                      cases b with
                      | true =>
                        go_wp2
                        go_roundw
                        case measure => simp [intOf]; omega
                        case rel => exact ⟨_, i + 1, ea, el, ec, y, ka, kn, kc, K, true, rfl, rfl, rfl, rfl, by go_num, by omega, Lib.hid ⟨HNY.out w8 (Below.refl _ _), HDY.out, HEL.out⟩, Lib.hid ⟨HK.out.1.below HW11.out, HK2.out⟩, Lib.hid (by rw [HTY.out]; exact HO.out.more), HB11⟩
                      | false =>
                        go_wp2_with fail
                        refine (HSAME.out w11 HB11.out).mono ?_
                        rintro e w13 ⟨rfl, hb13⟩
                        have HB13 := Lib.hid (HB11.out.trans (hb13.mono HB11.out.size))
                        have HW13 := Lib.hid ((HW11.out).trans (hb13.mono (HW11.out).size))
                        clear hb13
                        go_wp2
                        go_roundw
                        case measure => simp [intOf]; omega
                        case rel => exact ⟨_, i + 1, ea, el, ec, y, ka, kn, kc, K, s, rfl, rfl, rfl, rfl, by go_num, by omega, Lib.hid ⟨HNY.out w8 (Below.refl _ _), HDY.out, HEL.out⟩, Lib.hid ⟨HK.out.1.below HW13.out, HK2.out⟩, Lib.hid (by have h := HO.out.more (y := y); rw [HS.out, Bool.false_or] at h; rw [HTY.out]; exact h), HB13⟩
                    · have hlz : ¬ (dn : Int) ≤ (el : Int) := by omega
                      have HDN : Hid (DeepW q (ys.take (i + 1)) d) := Lib.hid (by
                        rw [HTY.out]; exact HD.out.2.1.leave (fun _ => by have := HD.out.2.2; have := HEL.out; omega))
                      cases b with
                      | true =>
                        go_wp2
                        go_roundw
                        case measure => simp [intOf]; omega
                        case rel => exact ⟨_, i + 1, da, dn, dc, d, ka, kn, kc, K, true, rfl, rfl, rfl, rfl, by go_num, by omega, Lib.hid ⟨HD.out.1, HDN.out, HD.out.2.2⟩, Lib.hid ⟨HK.out.1.below HW11.out, HK2.out⟩, Lib.hid (by rw [HTY.out]; exact HO.out.more), HB11⟩
                      | false =>
                        go_wp2_with fail
                        refine (HSAME.out w11 HB11.out).mono ?_
                        rintro e w13 ⟨rfl, hb13⟩
                        have HB13 := Lib.hid (HB11.out.trans (hb13.mono HB11.out.size))
                        have HW13 := Lib.hid ((HW11.out).trans (hb13.mono (HW11.out).size))
                        clear hb13
                        go_wp2
                        go_roundw
                        case measure => simp [intOf]; omega
                        case rel => exact ⟨_, i + 1, da, dn, dc, d, ka, kn, kc, K, s, rfl, rfl, rfl, rfl, by go_num, by omega, Lib.hid ⟨HD.out.1, HDN.out, HD.out.2.2⟩, Lib.hid ⟨HK.out.1.below HW13.out, HK2.out⟩, Lib.hid (by have h := HO.out.more (y := y); rw [HS.out, Bool.false_or] at h; rw [HTY.out]; exact h), HB13⟩
                  | false =>
                    have HDN : Hid (DeepW q (ys.take (i + 1)) d) := Lib.hid (by
                      rw [HTY.out]; exact HD.out.2.1.leave (fun h => by rw [HU.out] at h; cases h))
                    by_cases hlen1 : el = kq + 1
                    · have hle1 : (el : Int) = (kq : Int) + 1 := by omega
                      have HLN1 := Lib.hid hlen1
                      clear hlen1
                      go_wp2_with fail
                      refine (HUN2.out w11 HB11.out).mono ?_
                      rintro e w12 ⟨rfl, hb12⟩
                      have HB12 := Lib.hid (HB11.out.trans (hb12.mono HB11.out.size))
                      have HW12 := Lib.hid (HW11.out.trans (hb12.mono HW11.out.size))
                      have hcer12 : w12.cell? ⟨g, off + i, none⟩ = some (.slice ea el ec) := HCE.out w12 HB12.out
                      clear hb12 hcer11
                      cases t with
                      | true =>
                        have HEL2 := Lib.hid (show y.length = q.length + 1 by have := HEL.out; have := HKQ.out; have := HLN1.out; omega)
                        obtain ⟨x, hyx⟩ := kid_name HEL2.out HUT0.out HYK.out.1
                        have HYX := Lib.hid hyx
                        have HK2 : Hid (KidsI q (ys.take (i + 1)) (K ++ [x])) := Lib.hid (by
                          have h1 := HEL2.out; have h2 := HUT0.out
                          rw [HTY.out]; rw [hyx] at h1 h2 ⊢; exact HK.out.2.take h1 h2)
                        clear hyx
                        have hnh := HNY.out w12 HB12.out
                        rw [HYX.out] at hnh
                        obtain ⟨gx, ox, rfl, hcx⟩ := nm_head hnh
                        clear hnh
                        obtain ⟨sx, -, -, hsv⟩ := str_of x
                        rw [hsv] at hcx
                        have HSV := Lib.hid hsv
                        clear hsv
                        have HOA := Lib.hid (OwnK.alloc (HK.out.1.below HW12.out) (.cells #[.string sx] 9))
                        have HBA := Lib.hid (HB12.out.alloc HB12.out.size (.cells #[.string sx] 9))
                        have HZA := Lib.hid HBA.out.size
                        have HKN2 := Lib.hid (show K.length ≤ 601 by have h := HK.out.2.len; rw [List.length_take] at h; have := HN.out; omega)
                        have hel1 : (0 : Int) < (el : Int) := by omega
                        have HSRC : Hid (SlK (w12.alloc (.cells #[.string sx] 9)) (.slice (some ⟨w12.heap.size, 0, none⟩) 1 1) (oneV [.string sx])) := Lib.hid (slK_blk (css := oneV [.string sx]) (knew w12 _))
                        have HAPP := Lib.hid (fun (ops : Array Oper) (rest : List Oper) (o : Oper) (a : Act) (Q : Exit → Act → World → Prop) (hgd : o.guard = none) (ho : o.op = .call { callee := .builtin .append, args := #[.tmp 191, .tmp 198], argTypes := #[23, 23] }) (hs : a.eval (.tmp 191) = .slice ka kn kc) (hx : a.eval (.tmp 198) = .slice (some ⟨w12.heap.size, 0, none⟩) 1 1) (h : ∀ v' w', OwnC 1 9 w' w8.heap.size v' (oneV (K.map strV) ++ oneV [.string sx]) → (w12.alloc (.cells #[.string sx] 9)).grownBy w' (Value.slice ka kn kc).ownBlock → wpList Try.prog ops Q rest (a.put o.dst v') w') =>
                          wpl_append_slk (w12.alloc (.cells #[.string sx] 9)) hgd (.tmp 191) (.tmp 198) elem_str1 (by decide) ho w8.heap.size (.slice ka kn kc) (oneV (K.map strV)) hs HOA.out (.slice (some ⟨w12.heap.size, 0, none⟩) 1 1) (oneV [.string sx]) hx HSRC.out oneV_one (oneV_cell (by intro z hz; rw [List.mem_singleton.1 hz]; rfl)) HZA.out (by have := HKN2.out; rw [oneV_len, oneV_len, List.length_map]; unfold maxLen; simp <;> omega) (by have := HKN2.out; rw [oneV_len, oneV_len, List.length_map]; simp <;> omega) h)
                        cases b with
                        | true =>
                          go_wp2_with (at_builtin; refine HAPP.out _ _ _ _ _ rfl rfl rfl rfl ?_; intro v14 w14 ho14 hg14; have HB14 := Lib.hid (HBA.out.grown hg14 HZA.out (OwnK.base_le HOA.out)); have hce14 := HCE.out w14 HB14.out; obtain ⟨a14, c14, e14⟩ := OwnK.shape ho14; rw [List.length_append] at e14; subst e14; have HO14 := Lib.hid ho14; clear ho14 hg14)
                          go_roundw
                          case measure => simp [intOf]; omega
                          case rel => exact ⟨_, i + 1, da, dn, dc, d, _, _, _, K ++ [x], true, rfl, rfl, rfl, rfl, by go_num, by omega, Lib.hid ⟨HD.out.1, HDN.out, HD.out.2.2⟩, Lib.hid ⟨by rw [oneV_map, HSV.out]; exact HO14.out, HK2.out⟩, Lib.hid (by rw [HTY.out]; exact HO.out.more), HB14⟩
                        | false =>
                          go_wp2_with (at_builtin; refine HAPP.out _ _ _ _ _ rfl rfl rfl rfl ?_; intro v14 w14 ho14 hg14; have HB14 := Lib.hid (HBA.out.grown hg14 HZA.out (OwnK.base_le HOA.out)); have hce14 := HCE.out w14 HB14.out; obtain ⟨a14, c14, e14⟩ := OwnK.shape ho14; rw [List.length_append] at e14; subst e14; have HO14 := Lib.hid ho14; clear ho14 hg14)
                          refine (HSAME.out w14 HB14.out).mono ?_
                          rintro e w13 ⟨rfl, hb13⟩
                          have HB13 := Lib.hid (HB14.out.trans (hb13.mono HB14.out.size))
                          have HO13 := Lib.hid (HO14.out.below hb13)
                          clear hb13
                          go_wp2
                          go_roundw
                          case measure => simp [intOf]; omega
                          case rel => exact ⟨_, i + 1, da, dn, dc, d, _, _, _, K ++ [x], s, rfl, rfl, rfl, rfl, by go_num, by omega, Lib.hid ⟨HD.out.1, HDN.out, HD.out.2.2⟩, Lib.hid ⟨by rw [oneV_map, HSV.out]; exact HO13.out, HK2.out⟩, Lib.hid (by have h := HO.out.more (y := y); rw [HS.out, Bool.false_or] at h; rw [HTY.out]; exact h), HB13⟩
                      | false =>
                        have HK2 : Hid (KidsI q (ys.take (i + 1)) K) := Lib.hid (by
                          rw [HTY.out]; exact HK.out.2.leave (fun h => by have := HUT0.out; rw [h.2] at this; cases this))
                        cases b with
                        | true =>
                          go_wp2
                          go_roundw
                          case measure => simp [intOf]; omega
                          case rel => exact ⟨_, i + 1, da, dn, dc, d, ka, kn, kc, K, true, rfl, rfl, rfl, rfl, by go_num, by omega, Lib.hid ⟨HD.out.1, HDN.out, HD.out.2.2⟩, Lib.hid ⟨HK.out.1.below HW12.out, HK2.out⟩, Lib.hid (by rw [HTY.out]; exact HO.out.more), HB12⟩
                        | false =>
                          go_wp2_with fail
                          refine (HSAME.out w12 HB12.out).mono ?_
                          rintro e w13 ⟨rfl, hb13⟩
                          have HB13 := Lib.hid (HB12.out.trans (hb13.mono HB12.out.size))
                          have HW13 := Lib.hid ((HW12.out).trans (hb13.mono (HW12.out).size))
                          clear hb13
                          go_wp2
                          go_roundw
                          case measure => simp [intOf]; omega
                          case rel => exact ⟨_, i + 1, da, dn, dc, d, ka, kn, kc, K, s, rfl, rfl, rfl, rfl, by go_num, by omega, Lib.hid ⟨HD.out.1, HDN.out, HD.out.2.2⟩, Lib.hid ⟨HK.out.1.below HW13.out, HK2.out⟩, Lib.hid (by have h := HO.out.more (y := y); rw [HS.out, Bool.false_or] at h; rw [HTY.out]; exact h), HB13⟩
                    · have hne1 : ¬ (el : Int) = (kq : Int) + 1 := by omega
                      have HK2 : Hid (KidsI q (ys.take (i + 1)) K) := Lib.hid (by
                        rw [HTY.out]; exact HK.out.2.leave (fun h => by have := HEL.out; have := HKQ.out; omega))
                      cases b with
                      | true =>
                        go_wp2
                        go_roundw
                        case measure => simp [intOf]; omega
                        case rel => exact ⟨_, i + 1, da, dn, dc, d, ka, kn, kc, K, true, rfl, rfl, rfl, rfl, by go_num, by omega, Lib.hid ⟨HD.out.1, HDN.out, HD.out.2.2⟩, Lib.hid ⟨HK.out.1.below HW11.out, HK2.out⟩, Lib.hid (by rw [HTY.out]; exact HO.out.more), HB11⟩
                      | false =>
                        go_wp2_with fail
                        refine (HSAME.out w11 HB11.out).mono ?_
                        rintro e w13 ⟨rfl, hb13⟩
                        have HB13 := Lib.hid (HB11.out.trans (hb13.mono HB11.out.size))
                        have HW13 := Lib.hid ((HW11.out).trans (hb13.mono (HW11.out).size))
                        clear hb13
                        go_wp2
                        go_roundw
                        case measure => simp [intOf]; omega
                        case rel => exact ⟨_, i + 1, da, dn, dc, d, ka, kn, kc, K, s, rfl, rfl, rfl, rfl, by go_num, by omega, Lib.hid ⟨HD.out.1, HDN.out, HD.out.2.2⟩, Lib.hid ⟨HK.out.1.below HW13.out, HK2.out⟩, Lib.hid (by have h := HO.out.more (y := y); rw [HS.out, Bool.false_or] at h; rw [HTY.out]; exact h), HB13⟩
                · obtain rfl : n4 = i := by omega
                  have htk : ys.take n4 = ys := List.take_of_length_le (by rw [HN.out]; exact Nat.le_refl _)
                  have HKI : Hid (KidsI q ys K) := Lib.hid (by have h := HK.out.2; rwa [htk] at h)
                  have HDW : Hid (DeepW q ys d) := Lib.hid (by have h := HD.out.2.1; rwa [htk] at h)
                  have HON : Hid (decide (wayN q ∈ ksOf l) = b) := Lib.hid (by have h := HO.out; rw [htk] at h; exact h.done HAL.out)
                  have HKO := Lib.hid (HKI.out.done HOK.out HAL.out)
                  have HKS : Hid (SlAt wr (.slice ka kn kc) (K.map strV)) := Lib.hid (slAt_one (SlK.of_own HK.out.1 oneV_one))
                  have hknl : kn = K.length := by have := slAt_len HKS.out; rwa [List.length_map] at this
                  have HKNL := Lib.hid hknl
                  have hkn6 : kn ≤ 601 := by have h := HKI.out.len; have := HN.out; omega
                  have HTR := Lib.hid (HT8.out.below' HB.out)
                  have HBR := Lib.hid HTR.out.world
                  have hkids := tl_Kids_i HTR.out (.slice aq kq cq) q (HQN.out.1.below HBR.out) HKN.out (by have := HLEN.out; omega)
                  clear htk hknl HK HO hlt hi
                  go_wp2_with fail
                  refine hkids.mono ?_
                  rintro e w15 hpost
                  obtain ⟨v5, rfl, hs5, hb15⟩ := kidsPost_is HOK.out hpost HKO.out
                  obtain ⟨a5, n5, c5, rfl⟩ := slAt_shape hs5
                  obtain rfl : kn = n5 := by have := slAt_len hs5; rw [List.length_map] at this; rw [HKNL.out, this]
                  have HS5 := Lib.hid hs5
                  have HT15 := Lib.hid (HTR.out.below' hb15)
                  have HB15 := Lib.hid (HB.out.trans (hb15.mono HB.out.size))
                  have HKS15 := Lib.hid (HKS.out.below hb15)
                  have hh := tl_Has_i HT15.out (.slice aq kq cq) q (HQN.out.1.below HT15.out.world) HKN.out
                  rw [HON.out] at hh
                  clear hs5 hb15 hpost hkids
                  have hbb : (b != b) = false := by cases b <;> rfl
                  go_wp2_with fail
                  refine hh.mono ?_
                  rintro e w16 ⟨rfl, hb16⟩
                  have HT16 := Lib.hid (HT15.out.below' hb16)
                  have HB16 := Lib.hid (HB15.out.trans (hb16.mono HB15.out.size))
                  have HW16 := Lib.hid hb16
                  have hd := tl_Deepest_i HT16.out (.slice aq kq cq) q (HQN.out.1.below HT16.out.world) HKN.out
                  clear hb16 hh
                  go_wp2_with fail
                  refine hd.mono ?_
                  rintro e w17 ⟨dd, v7, hda, rfl, ho7, hb17⟩
                  have hnm7 : NmAt w17 v7 (foldN (q.drop (q.length - dd))) := OwnG.nmAt ho7
                  obtain ⟨a7, c7, rfl⟩ := ho7.shape
                  have HB17 := Lib.hid (HB16.out.trans (hb17.mono HB16.out.size))
                  have HW17 := Lib.hid (HW16.out.trans (hb17.mono HW16.out.size))
                  have hsm := kn_RSame _ (.slice da dn dc) _ d true (HDW.out.done HOK.out HAL.out hda) w17 hnm7 (HD.out.1.below HB17.out) (HKN.out.drop _).fold (HDW.out.okN HAL.out)
                  generalize (foldN (q.drop (q.length - dd))).length = n7 at *
                  clear hda ho7 hb17 hnm7 hd
                  go_wp2_with fail
                  refine hsm.mono ?_
                  rintro e w18 ⟨rfl, hb18⟩
                  have HB18 := Lib.hid (HB17.out.trans (hb18.mono HB17.out.size))
                  have HW18 := Lib.hid (HW17.out.trans (hb18.mono HW17.out.size))
                  have HX18 := Lib.hid (HBW8.out.trans (HB18.out.mono HBW8.out.size))
                  clear hb18 hsm
                  go_wp2
                  go_loopw [19] (fun vi w9 => ∃ (wt : World) (i : Nat), wt = w9 ∧ vi = .int .i64 i ∧ i ≤ kn ∧ Hid (Below w18.heap.size w18 wt)) (fun vi _ => kn - (intOf vi).toNat)
                  case atStart => exact ⟨_, 0, rfl, rfl, Nat.zero_le _, Lib.hid (Below.refl _ _)⟩
                  case round =>
                    obtain ⟨wt, i, rfl, rfl, hi, HBT⟩ := hrel
                    by_cases hlt : i < kn
                    · have hltz : (i : Int) < (kn : Int) := by omega
                      have hiz : (0 : Int) ≤ (i : Int) := by omega
                      have hik : i < (K.map strV).length := by rw [List.length_map, ← HKNL.out]; exact hlt
                      have hik2 : i < K.length := by rw [← HKNL.out]; exact hlt
                      have hw15 : Below w15.heap.size w15 wt := HW18.out.trans (HBT.out.mono HW18.out.size)
                      obtain ⟨g, off, rfl, -, hc1⟩ := slAt_cellN HS5.out hw15 i hik
                      obtain ⟨g2, off2, rfl, -, hc2⟩ := slAt_cellN HKS15.out hw15 i hik
                      obtain ⟨x, hx⟩ : ∃ x, K[i] = x := ⟨_, rfl⟩
                      have hxs := HKI.out.small HAL.out x (by rw [← hx]; exact List.getElem_mem hik2)
                      rw [List.getElem_map, hx] at hc1 hc2
                      obtain ⟨sx, hsx, hsz, hsv⟩ := str_of x
                      rw [hsv] at hc1 hc2
                      have HCL := Lib.hid (fun W => (by
                        have h := ref_CompareLabel sx sx W (by omega) (by omega)
                        rw [compareM_self] at h; exact h : Calls Try.prog 20 #[.string sx, .string sx] W (fun e w' => e = .returned (.int .i64 0) ∧ Below W.heap.size W w')))
                      have KD := Lib.hid (show ∀ W W', (W.cell? ⟨g, off + i, none⟩ = some (.string sx) ∧ W.cell? ⟨g2, off2 + i, none⟩ = some (.string sx) ∧ Below wt.heap.size wt W) → Below W.heap.size W W' → (W'.cell? ⟨g, off + i, none⟩ = some (.string sx) ∧ W'.cell? ⟨g2, off2 + i, none⟩ = some (.string sx) ∧ Below wt.heap.size wt W') from by
                        intro W W' ⟨h1, h2, h3⟩ hb
                        exact ⟨(hb.cell (p := ⟨g, off + i, none⟩) (World.block_lt_of_cell? W _ h1)).trans h1, (hb.cell (p := ⟨g2, off2 + i, none⟩) (World.block_lt_of_cell? W _ h2)).trans h2, h3.trans (hb.mono h3.size)⟩)
                      have hS0 : wt.cell? ⟨g, off + i, none⟩ = some (.string sx) ∧ wt.cell? ⟨g2, off2 + i, none⟩ = some (.string sx) ∧ Below wt.heap.size wt wt := ⟨hc1, hc2, Below.refl _ _⟩
                      clear hc1 hc2 hx hxs hsx hsz hsv hik hik2 hw15
                      go_wp2
                      go_region_held3 (fun W => W.cell? ⟨g, off + i, none⟩ = some (.string sx) ∧ W.cell? ⟨g2, off2 + i, none⟩ = some (.string sx) ∧ Below wt.heap.size wt W) (first | assumption | exact KD.out _ _ (by assumption) (below_drewT (Below.refl _ _)) | exact KD.out _ _ (by assumption) (below_drewQ (Below.refl _ _) _)) (first | ((with_reducible refine (HCL.out _).mono ?_); rintro e w5 ⟨rfl, hb5⟩; have hS2 := KD.out _ _ (by assumption) hb5))
                      all_goals
                        have HB5 := Lib.hid (HBT.out.trans (hS2.2.2.mono HBT.out.size))
                        clear hS2 hS0
                        go_wp2
                        go_roundw
                        case measure => simp [intOf]; omega
                        case rel => exact ⟨_, i + 1, rfl, by go_num, by omega, HB5⟩
                    · have HZ := Lib.hid (HX18.out.trans (HBT.out.mono HX18.out.size))
                      obtain rfl : kn = i := by omega
                      go_wp2
                      go_ret
                      exact ⟨rfl, HZ.out⟩
end
end Go.Proofs.Ytnpnfajgphpabaa
