/-
  TreeTurned.
-/
import Derived.Test.YtbnkecmhmcligaaMQ45
import Derived.Deep.RegionHeld3
namespace Go.Proofs.Ytbnkecmhmcligaa
open Go.RowKit Go.Shelf Go.Maps Go.WideMaps
set_option maxRecDepth 20000
set_option linter.unusedVariables false
set_option linter.unusedSimpArgs false
theorem NmsAt.at' {W : World} {a0 : Option Addr} {m c0 : Nat} {ns : List Nm} (h : NmsAt W (.slice a0 m c0) ns) {j : Nat} (hj : j < ns.length) : ∃ g off : Nat, a0 = some ⟨g, off, none⟩ ∧ ∃ (a : Option Addr) (n c' : Nat), W.cell? ⟨g, off + j, none⟩ = some (.slice a n c') ∧ NmAt W (.slice a n c') ns[j] := by
  obtain ⟨vs, ⟨a, c, e, h1, h2, hx⟩, hl, hn⟩ := h
  injection e with e1 e2 e3
  subst e1
  rcases hx with hx | ⟨b, off, rfl, hb, hc⟩
  · subst hx; simp at hl; omega
  · have hjv : j < vs.length := by omega
    have hnj := hn j hjv
    obtain ⟨⟨a', c', e', _⟩, _⟩ := id hnj
    refine ⟨b, off, rfl, a', _, c', by rw [hc j hjv, e'], ?_⟩
    rw [← e']; exact hnj
section
attribute [local go_sem] Oper.semAt_some
set_option maxRecDepth 100000 in
set_option maxHeartbeats 16000000 in
theorem law11_Turned (vl : Value) (l : List Nm) (t : Int) (w : World) (hL : NmsArg w vl l) (ht : (Lit.int .u8 t).wf = true) (hG : ∀ n ∈ l, NmBig n) :
    Calls Try.prog 3 #[vl, .int .u8 t] w fun e w' => e = .returned (.bool true) ∧ Below w.heap.size w w' := by
  obtain ⟨a0, c0, rfl⟩ := hL.len
  obtain ⟨m, hm⟩ : ∃ m, l.length = m := ⟨_, rfl⟩
  rw [hm] at hL ⊢
  have htt : 0 ≤ t ∧ t < 256 := by
    simp [Lit.wf] at ht
    have e1 : IntKind.u8.min = 0 := by decide
    have e2 : IntKind.u8.max = 255 := by decide
    omega
  obtain ⟨tn, rfl⟩ : ∃ tn : Nat, t = (tn : Int) := ⟨t.toNat, by omega⟩
  have htn : tn < 256 := by omega
  have HLN := Lib.hid hL; have HM := Lib.hid hm; have HG0 := Lib.hid hG
  clear hL hm ht htt hG
  by_cases h20 : 20 < (m : Int)
  · go_enter Try.func3, Try.ntmps3
    go_wp2_with fail
    refine (law11_known _).mono ?_
    rintro e w1 ⟨rfl, hb1⟩
    have HB1 := Lib.hid hb1; clear hb1
    go_wp2
    go_ret
    exact ⟨rfl, HB1.out⟩
  have h20' : (m : Int) ≤ 20 := by omega
  clear h20
  by_cases hm0 : m = 0
  · subst hm0
    go_enter Try.func3, Try.ntmps3
    go_wp2_with fail
    refine (law11_known _).mono ?_
    rintro e w1 ⟨rfl, hb1⟩
    have HB1 := Lib.hid hb1; clear hb1
    go_wp2
    go_ret
    exact ⟨rfl, HB1.out⟩
  have hm1 : ((m : Int) == 0) = false := by simp; omega
  have hmz : ¬ ((m : Int) = 0) := by omega
  go_enter Try.func3, Try.ntmps3
  go_wp2_with fail
  refine (law11_known _).mono ?_
  rintro e w2 ⟨rfl, hb2⟩
  have hn := tl_New_b w w2 hb2
  clear hb2
  go_wp2_with fail
  refine hn.mono ?_
  rintro e w3 ⟨A, rfl, ht3, -⟩
  have hn2 := t2_New ht3
  clear ht3 hn
  go_wp2_with fail
  refine hn2.mono ?_
  rintro e w4 ⟨B, rfl, ht4, -⟩
  have HT4 := Lib.hid ht4
  clear ht4 hn2
  go_wp2
  go_loopw [7] (fun vi wr => ∃ (k : Nat), vi = .int .i64 k ∧ k ≤ m ∧ Hid ((∀ n ∈ l.take k, n.length ≤ 20 ∧ fewN n = true) ∧ T2 w A B (ksOf (l.take k)) (ksOf ((turnL l tn).take k)) wr)) (fun vi _ => m - (intOf vi).toNat)
  case atStart => exact ⟨0, rfl, Nat.zero_le _, Lib.hid ⟨by simp, HT4.out⟩⟩
  case round =>
    obtain ⟨k, rfl, hk, HI⟩ := hrel
    by_cases hlt : k < m
    · have hltz : (k : Int) < (m : Int) := by omega
      have hkl : k < l.length := by rw [HM.out]; exact hlt
      obtain ⟨g, off, rfl, -, hg, a, n, c', hc, hn, hnl⟩ := HLN.out.at hkl
      obtain ⟨x, hx⟩ : ∃ x, l[k] = x := ⟨_, rfl⟩
      rw [hx] at hn hnl
      have hgx : NmBig x := by rw [← hx]; exact HG0.out _ (List.getElem_mem hkl)
      obtain ⟨j, hj⟩ : ∃ j, (k + tn) % m = j := ⟨_, rfl⟩
      have hjm : j < m := by rw [← hj]; exact Nat.mod_lt _ (by omega)
      have hjl : j < l.length := by rw [HM.out]; exact hjm
      obtain ⟨g', off', eg, -, -, a2, n2, c2, hc2, hn2, -⟩ := HLN.out.at hjl
      obtain ⟨rfl, rfl⟩ : g' = g ∧ off' = off := by injection eg with eg; injection eg with e1 e2; exact ⟨e1.symm, e2.symm⟩
      obtain ⟨y, hy⟩ : ∃ y, l[j] = y := ⟨_, rfl⟩
      rw [hy] at hn2
      have hgy : NmBig y := by rw [← hy]; exact HG0.out _ (List.getElem_mem hjl)
      have hkt : k < (turnL l tn).length := by rw [turnL_len]; exact hkl
      have hyt : (turnL l tn)[k] = y := by
        have h2 : (k + tn) % l.length < l.length := by rw [HM.out, hj]; exact hjm
        rw [turnL_get hkl h2, ← hy]
        congr 1; rw [HM.out]; exact hj
      have HKS := Lib.hid (show ksOf (l.take (k + 1)) = addK (ksOf (l.take k)) (wayN x) by rw [ksOf_succ hkl, hx])
      have HKT := Lib.hid (show ksOf ((turnL l tn).take (k + 1)) = addK (ksOf ((turnL l tn).take k)) (wayN y) by rw [ksOf_succ hkt, hyt])
      have HTK := Lib.hid (show l.take (k + 1) = l.take k ++ [x] by rw [List.take_succ_eq_append_getElem hkl, hx])
      have HJ := Lib.hid (show ((k : Int) + (tn : Int)).tmod (m : Int) = (j : Int) by rw [← hj]; exact (Int.ofNat_tmod (k + tn) m).symm)
      obtain ⟨bx, hbx⟩ : ∃ b, fewN x = b := ⟨_, rfl⟩
      have hbw : Below w.heap.size w wr := HI.out.2.world
      have hcw : wr.cell? ⟨g', off' + k, none⟩ = some (.slice a n c') := (hbw.cell (p := ⟨g', off' + k, none⟩) hg).trans hc
      have hf := kn_Few (.slice a n c') x bx hbx w wr hn (hn.1.below hbw)
      have HN := Lib.hid hn; have HN2 := Lib.hid hn2; have HNL := Lib.hid hnl; have HG := Lib.hid hg; have HBX := Lib.hid hbx; have HBW := Lib.hid hbw; have HC := Lib.hid hc; have HC2 := Lib.hid hc2; have HGX := Lib.hid hgx; have HGY := Lib.hid hgy
      clear hn hn2 hnl hc hc2 hg hx hy hbx hbw hkl hjl hkt hyt hgx hgy eg hj
      cases bx with
      | false =>
        go_wp2_with fail
        refine hf.mono ?_
        rintro e w4 ⟨rfl, hb4⟩
        have HB4 := Lib.hid (HBW.out.trans (hb4.mono HBW.out.size)); clear hb4 hf
        go_wp2
        go_ret
        exact ⟨rfl, HB4.out⟩
      | true =>
        by_cases hn20 : 20 < (n : Int)
        · go_wp2_with fail
          refine hf.mono ?_
          rintro e w4 ⟨rfl, hb4⟩
          have hcw4 : w4.cell? ⟨g', off' + k, none⟩ = some (.slice a n c') := (hb4.cell (p := ⟨g', off' + k, none⟩) (Nat.lt_of_lt_of_le HG.out HBW.out.size)).trans hcw
          have HB4 := Lib.hid (HBW.out.trans (hb4.mono HBW.out.size)); clear hb4 hf
          go_wp2
          go_ret
          exact ⟨rfl, HB4.out⟩
        · have hn20' : (n : Int) ≤ 20 := by omega
          clear hn20
          go_wp2_with fail
          refine hf.mono ?_
          rintro e w4 ⟨rfl, hb4⟩
          have hcw4 : w4.cell? ⟨g', off' + k, none⟩ = some (.slice a n c') := (hb4.cell (p := ⟨g', off' + k, none⟩) (Nat.lt_of_lt_of_le HG.out HBW.out.size)).trans hcw
          have HLE := Lib.hid (show x.length ≤ 20 by have := HNL.out; omega)
          have HT5 := Lib.hid (HI.out.2.below' hb4)
          have HLEN : Hid ((ksOf (l.take k)).length ≤ 1 + 20 * k) := Lib.hid (by
            have h := ksOf_len (l.take k) (fun n hn => (HI.out.1 n hn).1)
            rw [List.length_take] at h
            omega)
          have HLEN2 : Hid ((ksOf ((turnL l tn).take k)).length ≤ 1 + 8796093021952 * k) := Lib.hid (by
            have h := ksOf_big ((turnL l tn).take k) (fun n hn => HG0.out n (turnL_mem.1 (List.mem_of_mem_take hn)))
            rw [List.length_take] at h
            have := Nat.mul_le_mul_left 8796093021952 (Nat.min_le_left k (turnL l tn).length)
            omega)
          have hb4w := HT5.out.world
          have hp1 := t2_Put HT5.out (.slice a n c') true x (HN.out.1.below hb4w) HGX.out (by have := HLEN.out; omega)
          clear hb4 hb4w hf hcw
          go_wp2_with fail
          refine hp1.mono ?_
          rintro e w6 ⟨⟨x6, rfl⟩, hT6⟩
          have hbw6 := hT6.world
          have hcw6 : w6.cell? ⟨g', off' + j, none⟩ = some (.slice a2 n2 c2) := (hbw6.cell (p := ⟨g', off' + j, none⟩) HG.out).trans HC2.out
          have hp2 := t2_Put hT6.flip (.slice a2 n2 c2) true y (HN2.out.1.below hbw6) HGY.out (by have := HLEN2.out; omega)
          have hjr := HJ.out
          have hjz : (j : Int) < (m : Int) := by omega
          clear hbw6 hT6 hp1 hcw4
          go_wp2_with fail
          refine hp2.mono ?_
          rintro e w7 ⟨⟨x7, rfl⟩, hT7⟩
          have HT7 := Lib.hid hT7.flip
          clear hT7 hp2 hcw6
          go_wp2
          go_roundw
          case measure => simp [intOf]; omega
          case rel => exact ⟨k + 1, by go_num, by omega, Lib.hid ⟨fun y hy => by
            rw [HTK.out] at hy
            rcases List.mem_append.1 hy with hy | hy
            · exact HI.out.1 y hy
            · rw [List.mem_singleton.1 hy]; exact ⟨HLE.out, HBX.out⟩, by rw [HKS.out, HKT.out]; exact HT7.out⟩⟩
    · obtain rfl : m = k := by omega
      have htake : l.take m = l := List.take_of_length_le (by rw [HM.out]; exact Nat.le_refl _)
      have htake2 : (turnL l tn).take m = turnL l tn := List.take_of_length_le (by rw [turnL_len, HM.out]; exact Nat.le_refl _)
      have hI := HI.out
      rw [htake, htake2] at hI
      have hfw : ∀ n ∈ l, fewN n = true := fun n hn => (hI.1 n hn).2
      have hok : ∀ n ∈ l, NmOK n := fun n hn => fewN_ok (hfw n hn)
      have hT := hI.2
      have HDA := Lib.hid (ksOf_deep l hok)
      have HDB := Lib.hid (ksOf_deep (turnL l tn) (fun n hn => hok n (turnL_mem.1 hn)))
      have hl1 : (ksOf l).length ≤ 401 := by
        have h := ksOf_len l (fun n hn => (hI.1 n hn).1)
        rw [HM.out] at h; omega
      have hnm := nms_turned (t := tn) hT.ok.1 hT.ok.2
      have hle : (ksOf (turnL l tn)).length = (ksOf l).length := by rw [← nmsOf_len, ← hnm, nmsOf_len]
      obtain ⟨n, hn⟩ : ∃ n, (ksOf l).length = n := ⟨_, rfl⟩
      rw [hn] at hl1 hle
      have HLA := Lib.hid hn; have HLB := Lib.hid hle; have HNM := Lib.hid hnm
      have h1 := t2_Names hT HDA.out (by rw [hn]; omega)
      have HT := Lib.hid hT
      have HKU : Hid (∀ p K K', KidsOf (ksOf l) p K → KidsOf (ksOf (turnL l tn)) p K' → K = K') := Lib.hid (fun p K K' a b => kids_turned a b)
      rw [hn] at h1
      clear htake htake2 hI hfw hok hT hnm hle hn HI hlt hk HT4
      generalize ksOf (turnL l tn) = kb at *
      generalize ksOf l = ka at *
      go_wp2_with fail
      refine h1.mono ?_
      rintro e w5 ⟨ax, cx, rfl, hx5, hb5⟩
      have hT5 := HT.out.below' hb5
      have h2 := t2_Names hT5.flip HDB.out (by rw [HLB.out]; omega)
      rw [HLB.out] at h2
      have HT5 := Lib.hid hT5; have HX5 := Lib.hid hx5
      clear h1 HT hT5 hx5 hb5
      go_wp2_with fail
      refine h2.mono ?_
      rintro e w6 ⟨ay, cy, rfl, hy6, hb6⟩
      have HT6 := Lib.hid (HT5.out.below' hb6); have HX6 := Lib.hid (NmsAt.below HX5.out hb6)
      rw [← HNM.out] at hy6
      have HY6 := Lib.hid hy6
      have h3 := t2_Len HT6.out (by rw [HLA.out]; omega)
      rw [HLA.out] at h3
      have hnn : ((n : Int) != (n : Int)) = false := by simp
      clear h2 HT5 HX5 hy6 hb6
      go_wp2_with fail
      refine h3.mono ?_
      rintro e w8 ⟨rfl, rfl⟩
      clear h3
      go_wp2
      go_loopw [10] (fun vi w9 => ∃ (wr : World) (i : Nat), wr = w9 ∧ vi = .int .i64 i ∧ i ≤ n ∧ Hid (Below w8.heap.size w8 wr)) (fun vi _ => n - (intOf vi).toNat)
      case atStart => exact ⟨_, 0, rfl, rfl, Nat.zero_le _, Lib.hid (Below.refl _ _)⟩
      case round =>
        obtain ⟨wr, i, rfl, rfl, hi, HB⟩ := hrel
        by_cases hlt : i < n
        · have hltz : (i : Int) < (n : Int) := by omega
          have hiz : (0 : Int) ≤ (i : Int) := by omega
          have hil : i < (nmsOf ka).length := by rw [nmsOf_len, HLA.out]; exact hlt
          obtain ⟨g, off, rfl, b1, m1, d1, hc1, hn1⟩ := (HX6.out.below HB.out).at' hil
          obtain ⟨g2, off2, rfl, b2, m2, d2, hc2, hn2⟩ := (HY6.out.below HB.out).at' hil
          obtain ⟨y, hy⟩ : ∃ y, (nmsOf ka)[i] = y := ⟨_, rfl⟩
          have hym : y ∈ nmsOf ka := by rw [← hy]; exact List.getElem_mem hil
          rw [hy] at hn1 hn2
          have hyk : NmOK y := HDA.out.nm hym
          have hya : wayN y ∈ ka := way_nms HT6.out.ok.1 hym
          have hyb : wayN y ∈ kb := way_nms HT6.out.ok.2 (by rw [← HNM.out]; exact hym)
          have KD := Lib.hid (show ∀ W W', (W.cell? ⟨g, off + i, none⟩ = some (.slice b1 m1 d1) ∧ W.cell? ⟨g2, off2 + i, none⟩ = some (.slice b2 m2 d2) ∧ Below wr.heap.size wr W) → Below W.heap.size W W' → (W'.cell? ⟨g, off + i, none⟩ = some (.slice b1 m1 d1) ∧ W'.cell? ⟨g2, off2 + i, none⟩ = some (.slice b2 m2 d2) ∧ Below wr.heap.size wr W') from by
            intro W W' ⟨h1, h2, h3⟩ hb
            exact ⟨(hb.cell (p := ⟨g, off + i, none⟩) (World.block_lt_of_cell? W _ h1)).trans h1, (hb.cell (p := ⟨g2, off2 + i, none⟩) (World.block_lt_of_cell? W _ h2)).trans h2, h3.trans (hb.mono h3.size)⟩)
          have HSM : Hid (∀ W, (W.cell? ⟨g, off + i, none⟩ = some (.slice b1 m1 d1) ∧ W.cell? ⟨g2, off2 + i, none⟩ = some (.slice b2 m2 d2) ∧ Below wr.heap.size wr W) → Calls Try.prog 10 #[.slice b1 m1 d1, .slice b2 m2 d2] W (fun e w' => e = .returned (.bool true) ∧ Below W.heap.size W w')) := Lib.hid (fun W hW =>
            kn_RSame _ _ y y true ((sameN_iff _ _).2 rfl) W (hn1.below hW.2.2) (hn2.below hW.2.2) hyk hyk)
          have hS0 : wr.cell? ⟨g, off + i, none⟩ = some (.slice b1 m1 d1) ∧ wr.cell? ⟨g2, off2 + i, none⟩ = some (.slice b2 m2 d2) ∧ Below wr.heap.size wr wr := ⟨hc1, hc2, Below.refl _ _⟩
          have HN1 := Lib.hid hn1; have HYA := Lib.hid hya; have HYB := Lib.hid hyb; have HYK := Lib.hid hyk
          clear hc1 hc2 hn1 hn2 hy hym hyk hya hyb hil
          go_wp2
          go_region_held3 (fun W => W.cell? ⟨g, off + i, none⟩ = some (.slice b1 m1 d1) ∧ W.cell? ⟨g2, off2 + i, none⟩ = some (.slice b2 m2 d2) ∧ Below wr.heap.size wr W) (first | assumption | exact KD.out _ _ (by assumption) (below_drewT (Below.refl _ _)) | exact KD.out _ _ (by assumption) (below_drewQ (Below.refl _ _) _)) (first | ((with_reducible refine (HSM.out _ (by assumption)).mono ?_); rintro e w5 ⟨rfl, hb5⟩; have hS2 := KD.out _ _ (by assumption) hb5))
          all_goals
            have hbx := hS2.2.2
            have hcx := hS2.1
            have hT9 := (HT6.out.below' HB.out).below' hbx
            have h4 := t2_Kids hT9 (.slice b1 m1 d1) y (HN1.out.below hbx) HYK.out HYA.out (by rw [HLA.out]; omega)
            have HT9 := Lib.hid hT9; have HBX := Lib.hid hbx
            clear hS2 hS0 hT9 hbx
            go_wp2_with fail
            refine h4.mono ?_
            rintro e w10 ⟨a4, c4, K, rfl, hK, hb10⟩
            have HK := Lib.hid hK
            have hT10 := HT9.out.below' hb10
            have hcx2 : w10.cell? ⟨g, off + i, none⟩ = some (.slice b1 m1 d1) := (hb10.cell (p := ⟨g, off + i, none⟩) (World.block_lt_of_cell? _ _ hcx)).trans hcx
            have HB10 := Lib.hid (HBX.out.trans (hb10.mono HBX.out.size))
            have h5 := t2_Kids hT10.flip (.slice b1 m1 d1) y (HN1.out.below HB10.out) HYK.out HYB.out (by rw [HLB.out]; omega)
            clear hb10 hT10 h4 hK hcx
            go_wp2_with fail
            refine h5.mono ?_
            rintro e w11 ⟨a5, c5, K', rfl, hK', hb11⟩
            obtain rfl := HKU.out _ _ _ HK.out hK'
            have HB11 := Lib.hid (HB.out.trans ((HB10.out.trans (hb11.mono HB10.out.size)).mono HB.out.size))
            clear hb11 hK' h5 hcx2
            have hkk : ((K.length : Int) != (K.length : Int)) = false := by simp
            go_wp2
            go_roundw
            case measure => simp [intOf]; omega
            case rel => exact ⟨_, i + 1, rfl, by go_num, by omega, HB11⟩
        · obtain rfl : n = i := by omega
          have HW := Lib.hid (HT6.out.below' HB.out).world
          go_wp2
          go_ret
          exact ⟨rfl, HW.out⟩
end
end Go.Proofs.Ytbnkecmhmcligaa
