/-
  TreeDeepest.
-/
import Derived.Test.YtnpnfajgphpabaaMQ07
namespace Go.Proofs.Ytnpnfajgphpabaa
open Go.RowKit Go.Shelf Go.Maps Go.WideMaps
set_option maxRecDepth 20000
set_option linter.unusedVariables false
set_option linter.unusedSimpArgs false
section
attribute [local go_sem] Oper.semAt_some
set_option maxRecDepth 100000 in
set_option maxHeartbeats 16000000 in
theorem law11_Deepest (vl : Value) (l : List Nm) (vq : Value) (q : Nm) (w : World) (hL : NmsArg w vl l) (hQ : NmArg w vq q) :
    Calls Try.prog 6 #[vl, vq] w fun e w' => e = .returned (.bool true) ∧ Below w.heap.size w w' := by
  obtain ⟨a0, c0, rfl⟩ := hL.len
  obtain ⟨aq, cq, rfl, -⟩ := id hQ.1.1
  obtain ⟨m, hm⟩ : ∃ m, l.length = m := ⟨_, rfl⟩
  obtain ⟨kq, hkq⟩ : ∃ k, q.length = k := ⟨_, rfl⟩
  rw [hm] at hL ⊢; rw [hkq] at hQ ⊢
  have HLN := Lib.hid hL; have HQN := Lib.hid hQ; have HM := Lib.hid hm; have HKQ := Lib.hid hkq
  clear hL hQ hm hkq
  by_cases h20 : 20 < (m : Int)
  · go_enter Try.func6, Try.ntmps6
    go_wp2_with fail
    refine (law11_known _).mono ?_
    rintro e w1 ⟨rfl, hb1⟩
    have HB1 := Lib.hid hb1; clear hb1
    go_wp2
    go_ret
    exact ⟨rfl, HB1.out⟩
  have h20' : (m : Int) ≤ 20 := by omega
  clear h20
  obtain ⟨bq, hbq⟩ : ∃ b, fewN q = b := ⟨_, rfl⟩
  have hfq := fun (w1 : World) (hb : Below w.heap.size w w1) => kn_Few (.slice aq kq cq) q bq hbq w w1 HQN.out (HQN.out.1.below hb)
  have HFQ := Lib.hid hfq; have HBQ := Lib.hid hbq
  clear hfq hbq
  cases bq with
  | false =>
    go_enter Try.func6, Try.ntmps6
    go_wp2_with fail
    refine (law11_known _).mono ?_
    rintro e w1 ⟨rfl, hb1⟩
    have hf := HFQ.out w1 hb1
    have HB1 := Lib.hid hb1; clear hb1
    go_wp2_with fail
    refine hf.mono ?_
    rintro e w2 ⟨rfl, hb2⟩
    have HB2 := Lib.hid (HB1.out.trans (hb2.mono HB1.out.size)); clear hb2 hf
    go_wp2
    go_ret
    exact ⟨rfl, HB2.out⟩
  | true =>
    go_enter Try.func6, Try.ntmps6
    go_wp2_with fail
    refine (law11_known _).mono ?_
    rintro e w1 ⟨rfl, hb1⟩
    have hf := HFQ.out w1 hb1
    have HB1 := Lib.hid hb1; clear hb1
    go_wp2_with fail
    refine hf.mono ?_
    rintro e w2 ⟨rfl, hb2⟩
    have hb := HB1.out.trans (hb2.mono HB1.out.size)
    have hn := tl_New_i w w2 hb
    clear hb2 hf hb
    go_wp2_with fail
    refine hn.mono ?_
    rintro e w3 ⟨B, rfl, ht, -⟩
    have HT3 := Lib.hid ht
    clear ht hn
    go_wp2
    go_loopw [6] (fun vi wr => ∃ (k : Nat), vi = .int .i64 k ∧ k ≤ m ∧ Hid ((∀ n ∈ l.take k, n.length ≤ 20) ∧ ∃ f, TLp 56 54 (.int .i64 0) w B (ksOf (l.take k)) f wr)) (fun vi _ => m - (intOf vi).toNat)
    case atStart => exact ⟨0, rfl, Nat.zero_le _, Lib.hid ⟨by simp, _, HT3.out⟩⟩
    case round =>
      obtain ⟨k, rfl, hk, HI⟩ := hrel
      by_cases hlt : k < m
      · have hltz : (k : Int) < (m : Int) := by omega
        have hkl : k < l.length := by rw [HM.out]; exact hlt
        obtain ⟨g, off, rfl, -, hg, a, n, c', hc, hn, hnl⟩ := HLN.out.at hkl
        obtain ⟨x, hx⟩ : ∃ x, l[k] = x := ⟨_, rfl⟩
        rw [hx] at hn hnl
        have HKS := Lib.hid (show ksOf (l.take (k + 1)) = addK (ksOf (l.take k)) (wayN x) by rw [ksOf_succ hkl, hx])
        have HTK := Lib.hid (show l.take (k + 1) = l.take k ++ [x] by rw [List.take_succ_eq_append_getElem hkl, hx])
        obtain ⟨bx, hbx⟩ : ∃ b, fewN x = b := ⟨_, rfl⟩
        have hbw : Below w.heap.size w wr := HI.out.2.choose_spec.world
        have hcw : wr.cell? ⟨g, off + k, none⟩ = some (.slice a n c') := (hbw.cell (p := ⟨g, off + k, none⟩) hg).trans hc
        have hf := kn_Few (.slice a n c') x bx hbx w wr hn (hn.1.below hbw)
        have HN := Lib.hid hn; have HNL := Lib.hid hnl; have HC := Lib.hid hc; have HG := Lib.hid hg; have HBX := Lib.hid hbx; have HBW := Lib.hid hbw
        clear hn hnl hc hg hx hbx hbw hkl
        cases bx with
        | false =>
          go_wp2_with fail
          refine hf.mono ?_
          rintro e w4 ⟨rfl, hb4⟩
          have HB4 := Lib.hid (HBW.out.trans (hb4.mono HBW.out.size)); clear hb4 hf
          go_wp2
          go_ret
          exact ⟨rfl, HB4.out⟩
        | true =>
          by_cases hn20 : 20 < (n : Int)
          · go_wp2_with fail
            refine hf.mono ?_
            rintro e w4 ⟨rfl, hb4⟩
            have hcw4 : w4.cell? ⟨g, off + k, none⟩ = some (.slice a n c') := (hb4.cell (p := ⟨g, off + k, none⟩) (Nat.lt_of_lt_of_le HG.out HBW.out.size)).trans hcw
            have HB4 := Lib.hid (HBW.out.trans (hb4.mono HBW.out.size)); clear hb4 hf
            go_wp2
            go_ret
            exact ⟨rfl, HB4.out⟩
          · have hn20' : (n : Int) ≤ 20 := by omega
            clear hn20
            go_wp2_with fail
            refine hf.mono ?_
            rintro e w4 ⟨rfl, hb4⟩
            have hcw4 : w4.cell? ⟨g, off + k, none⟩ = some (.slice a n c') := (hb4.cell (p := ⟨g, off + k, none⟩) (Nat.lt_of_lt_of_le HG.out HBW.out.size)).trans hcw
            have hb4w := HBW.out.trans (hb4.mono HBW.out.size)
            have HLE := Lib.hid (show x.length ≤ 20 by have := HNL.out; omega)
            have HP : Hid (∃ f, Calls Try.prog 10 #[.pointer (some ⟨B, 0, none⟩), .slice a n c', .int .i64 1] w4 (fun e w' => (∃ x, e = .returned x) ∧ TLp 56 54 (.int .i64 0) w B (ksOf (l.take (k + 1))) f w' ∧ True)) := Lib.hid (by
              obtain ⟨h20s, f, hT⟩ := HI.out
              have hlen := ksOf_len _ h20s
              rw [List.length_take] at hlen
              refine ⟨updT f (wayN x) (.int .i64 1), (tl_Put_i (hT.below' hb4) (.slice a n c') (.int .i64 1) x (HN.out.1.below hb4w) (fewN_ok HBX.out) ⟨1, rfl⟩ (by omega)).mono ?_⟩
              rintro e w' ⟨h1, h2, h3⟩
              rw [HKS.out]
              exact ⟨h1, h2, trivial⟩)
            obtain ⟨f, hp⟩ := HP.out
            clear hb4 hb4w hf HP
            go_wp2_with fail
            refine hp.mono ?_
            rintro e w5 ⟨⟨x5, rfl⟩, hT5, -⟩
            have HT5 := Lib.hid hT5
            clear hT5 hp
            go_wp2
            go_roundw
            case measure => simp [intOf]; omega
            case rel => exact ⟨k + 1, by go_num, by omega, Lib.hid ⟨fun y hy => by
              rw [HTK.out] at hy
              rcases List.mem_append.1 hy with hy | hy
              · exact HI.out.1 y hy
              · rw [List.mem_singleton.1 hy]; exact HLE.out, f, HT5.out⟩⟩
      · obtain rfl : k = m := by omega
        have HKN := Lib.hid (fewN_ok HBQ.out)
        have HD : Hid (∃ f, Below w.heap.size w wr ∧ TLp 56 54 (.int .i64 0) w B (ksOf l) f wr) := Lib.hid (by
          obtain ⟨_, f, hT⟩ := HI.out
          rw [List.take_of_length_le (by rw [HM.out]; exact Nat.le_refl _)] at hT
          exact ⟨f, hT.world, hT⟩)
        clear HI
        obtain ⟨f, hbw, hT⟩ := HD.out
        have hdp := tl_Deepest_i hT (.slice aq kq cq) q (HQN.out.1.below hbw) HKN.out
        have HT := Lib.hid hT; have HBW := Lib.hid hbw
        clear hT hbw HD
        go_wp2_with fail
        refine hdp.mono ?_
        rintro e w4 ⟨d, v, hda, rfl, ho, hb4⟩
        have hdl : d ≤ kq := by have h := hda.1; rw [wayN_len, HKQ.out] at h; exact h
        have hdn : NmAt w4 v (foldN (q.drop (q.length - d))) := OwnG.nmAt ho
        obtain ⟨av, cv, rfl⟩ := ho.shape
        have hlv : (foldN (q.drop (q.length - d))).length = d := by rw [foldN_len, List.length_drop, HKQ.out]; omega
        rw [hlv] at hdn
        have hh := tl_Has_i (HT.out.below' hb4) (.slice av d cv) _ hdn (HKN.out.drop _).fold
        rw [show decide (wayN (foldN (q.drop (q.length - d))) ∈ ksOf l) = true by rw [wayN_deep q d (by rw [HKQ.out]; exact hdl)]; exact decide_eq_true hda.2.1] at hh
        have HB4 := Lib.hid hb4; have HDA := Lib.hid hda; have HDN := Lib.hid hdn
        rw [hlv]
        clear ho hb4 hda hdn hlv hdp
        go_wp2_with fail
        refine hh.mono ?_
        rintro e w5 ⟨rfl, hb5⟩
        have hbw5 : Below w.heap.size w w5 := HBW.out.trans ((HB4.out.trans (hb5.mono HB4.out.size)).mono HBW.out.size)
        have hu := kn_NUnder (.slice aq kq cq) (.slice av d cv) q _ true (under_deep q d) w5 (HQN.out.1.below hbw5) (HDN.out.below hb5) HKN.out (HKN.out.drop _).fold
        have HT5 := Lib.hid ((HT.out.below' HB4.out).below' hb5)
        have HBW5 := Lib.hid hbw5
        clear hbw5 hb5 hh
        go_wp2_with fail
        refine hu.mono ?_
        rintro e w6 ⟨rfl, hb6⟩
        have hbw6 : Below w.heap.size w w6 := HBW5.out.trans (hb6.mono HBW5.out.size)
        have HT6 := Lib.hid (HT5.out.below' hb6)
        have HBW6 := Lib.hid hbw6
        clear hb6 hu hbw6
        have hdz : ¬ (kq : Int) < (d : Int) := by omega
        by_cases hdq : d = kq
        · subst hdq
          go_wp2
          go_ret
          exact ⟨rfl, HBW6.out⟩
        · have hdq' : ¬ (d : Int) = (kq : Int) := by omega
          obtain ⟨k2, hk2⟩ : ∃ k2, kq - d - 1 = k2 := ⟨_, rfl⟩
          have hk2i : (kq : Int) - (d : Int) - 1 = (k2 : Int) := by omega
          have hk140 : kq ≤ 140 := by have := fewN_len20 HBQ.out; rw [HKQ.out] at this; exact this
          have hk2q : k2 ≤ kq := by omega
          have hkc : k2 ≤ cq := by have := nmc_cap HQN.out.1; omega
          have HH := Lib.hid (fun (v : Value) (hv : NmAt w6 v (q.drop k2)) => (by
            have h := tl_Has_i HT6.out v _ hv (HKN.out.drop _)
            have e : q.drop k2 = q.drop (q.length - (d + 1)) := by congr 1; have := HKQ.out; omega
            have e2 : decide (wayN (q.drop k2) ∈ ksOf l) = false := by
              rw [e, wayN_drop q (d + 1) (by rw [HKQ.out]; omega)]
              refine decide_eq_false fun hin => ?_
              have := HDA.out.2.2 (d + 1) (by rw [wayN_len, HKQ.out]; omega) hin
              omega
            rw [e2] at h
            exact h : Calls Try.prog 15 #[.pointer (some ⟨B, 0, none⟩), v] w6 (fun e w' => e = .returned (.bool false) ∧ Below w6.heap.size w6 w')))
          have hcut := nm_cut3 (HQN.out.1.below HBW6.out) hk2q
          rcases hcut with ⟨hck, hq, hm⟩ | ⟨hck, hq0, hk0, ⟨ad, rfl⟩, hm⟩ | ⟨hck, hq0, g, off, rfl, hm⟩
          · exfalso; omega
          · exfalso; omega
          · have hf := HH.out _ hm
            clear HH hm hk2
            go_wp2_with fail
            refine hf.mono ?_
            rintro e w7 ⟨rfl, hb7⟩
            have HB7 := Lib.hid (HBW6.out.trans (hb7.mono HBW6.out.size)); clear hb7 hf
            go_wp2
            go_ret
            exact ⟨rfl, HB7.out⟩
end
end Go.Proofs.Ytnpnfajgphpabaa
