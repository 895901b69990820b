/-
  TreeTexts.
-/
import Derived.Test.YtnpnfajgphpabaaMQ25
import Derived.Test.YtnpnfajgphpabaaMQ26
import Derived.Deep.RegionHeld3
namespace Go.Proofs.Ytnpnfajgphpabaa
open Go.RowKit Go.Shelf Go.Maps Go.WideMaps
set_option maxRecDepth 20000
set_option linter.unusedVariables false
set_option linter.unusedSimpArgs false
section
attribute [local go_sem] Oper.semAt_some
set_option maxRecDepth 100000 in
set_option maxHeartbeats 16000000 in
theorem law11_Texts (vl : Value) (l : List Nm) (vs : Value) (xs : List (List UInt8)) (w : World) (hL : NmsArg w vl l) (hS : StrsArg w vs xs) :
    Calls Try.prog 4 #[vl, vs] w fun e w' => e = .returned (.bool true) ∧ Below w.heap.size w w' := by
  obtain ⟨a0, c0, rfl⟩ := hL.len
  obtain ⟨ax, cx, rfl, -⟩ := id hS.1
  obtain ⟨m, hm⟩ : ∃ m, l.length = m := ⟨_, rfl⟩
  obtain ⟨ns, hns⟩ : ∃ k, xs.length = k := ⟨_, rfl⟩
  rw [hm] at hL ⊢; rw [hns] at hS ⊢
  have HLN := Lib.hid hL; have HSN := Lib.hid hS; have HM := Lib.hid hm; have HNS := Lib.hid hns
  clear hL hS hm hns
  by_cases h20 : 20 < (m : Int)
  · go_enter Try.func4, Try.ntmps4
    go_wp2_with fail
    refine (law11_known _).mono ?_
    rintro e w1 ⟨rfl, hb1⟩
    have HB1 := Lib.hid hb1; clear hb1
    go_wp2
    go_ret
    exact ⟨rfl, HB1.out⟩
  have h20' : (m : Int) ≤ 20 := by omega
  clear h20
  by_cases hne : ns = m
  case neg =>
    have hne' : ((ns : Int) != (m : Int)) = true := by simp; omega
    go_enter Try.func4, Try.ntmps4
    go_wp2_with fail
    refine (law11_known _).mono ?_
    rintro e w1 ⟨rfl, hb1⟩
    have HB1 := Lib.hid hb1; clear hb1
    go_wp2
    go_ret
    exact ⟨rfl, HB1.out⟩
  subst hne
  obtain ⟨vv, hvv⟩ : ∃ vv : Nat → Value, vv = fun j => strV (xs.getD j []) := ⟨_, rfl⟩
  have HVA := Lib.hid (show ∀ j (h : j < xs.length), vv j = strV xs[j] from fun j h => by rw [hvv]; show strV (xs.getD j []) = _; rw [List.getD_eq_getElem?_getD, List.getElem?_eq_getElem h]; rfl)
  have HVS := Lib.hid (show ∀ j, ∃ s, vv j = .string s from fun j => by rw [hvv]; exact ⟨_, rfl⟩)
  clear hvv
  have hnn : ((ns : Int) != (ns : Int)) = false := by simp
  go_enter Try.func4, Try.ntmps4
  go_wp2_with fail
  refine (law11_known _).mono ?_
  rintro e w2 ⟨rfl, hb2⟩
  have hn := tl_New_s w w2 hb2
  clear hb2
  go_wp2_with fail
  refine hn.mono ?_
  rintro e w3 ⟨B, rfl, ht, -⟩
  have HT3 := Lib.hid ht
  clear ht hn
  go_wp2
  go_loopw [6] (fun vi wr => ∃ (k : Nat), vi = .int .i64 k ∧ k ≤ ns ∧ Hid ((∀ n ∈ l.take k, n.length ≤ 20 ∧ fewN n = true) ∧ TLp 75 73 (.string ⟨#[]⟩) w B (ksOf (l.take k)) (vlN l vv k) wr)) (fun vi _ => ns - (intOf vi).toNat)
  case atStart => exact ⟨0, rfl, Nat.zero_le _, Lib.hid ⟨by simp, HT3.out⟩⟩
  case round =>
    obtain ⟨k, rfl, hk, HI⟩ := hrel
    by_cases hlt : k < ns
    · have hltz : (k : Int) < (ns : Int) := by omega
      have hkl : k < l.length := by rw [HM.out]; exact hlt
      have hks : k < xs.length := by rw [HNS.out]; exact hlt
      obtain ⟨g, off, rfl, -, hg, a, n, c', hc, hn, hnl⟩ := HLN.out.at hkl
      obtain ⟨g2, off2, rfl, -, hg2, hc2, hsl⟩ := HSN.out.at hks
      rw [← HVA.out k hks] at hc2
      obtain ⟨sk, hsk, hskz, hskv⟩ := str_of xs[k]
      rw [HVA.out k hks, hskv] at hc2
      rw [← hskz] at hsl
      obtain ⟨x, hx⟩ : ∃ x, l[k] = x := ⟨_, rfl⟩
      rw [hx] at hn hnl
      have HKS := Lib.hid (show ksOf (l.take (k + 1)) = addK (ksOf (l.take k)) (wayN x) by rw [ksOf_succ hkl, hx])
      have HVK := Lib.hid (show vlN l vv (k + 1) = updT (vlN l vv k) (wayN x) (.string sk) by rw [vlN_succ hkl, hx, HVA.out k hks, hskv])
      have HTK := Lib.hid (show l.take (k + 1) = l.take k ++ [x] by rw [List.take_succ_eq_append_getElem hkl, hx])
      obtain ⟨bx, hbx⟩ : ∃ b, fewN x = b := ⟨_, rfl⟩
      have hbw : Below w.heap.size w wr := HI.out.2.world
      have hcw : wr.cell? ⟨g, off + k, none⟩ = some (.slice a n c') := (hbw.cell (p := ⟨g, off + k, none⟩) hg).trans hc
      have hcs : wr.cell? ⟨g2, off2 + k, none⟩ = some (.string sk) := (hbw.cell (p := ⟨g2, off2 + k, none⟩) hg2).trans hc2
      have hf := kn_Few (.slice a n c') x bx hbx w wr hn (hn.1.below hbw)
      have HN := Lib.hid hn; have HNL := Lib.hid hnl; have HG := Lib.hid (And.intro hg hg2); have HBX := Lib.hid hbx; have HBW := Lib.hid hbw
      clear hn hnl hc hc2 hg hg2 hx hbx hbw hkl hks hsk hskz hskv
      cases bx with
      | false =>
        go_wp2_with fail
        refine hf.mono ?_
        rintro e w4 ⟨rfl, hb4⟩
        have HB4 := Lib.hid (HBW.out.trans (hb4.mono HBW.out.size)); clear hb4 hf
        go_wp2
        go_ret
        exact ⟨rfl, HB4.out⟩
      | true =>
        by_cases hn20 : 20 < (n : Int)
        · go_wp2_with fail
          refine hf.mono ?_
          rintro e w4 ⟨rfl, hb4⟩
          have hcw4 : w4.cell? ⟨g, off + k, none⟩ = some (.slice a n c') := (hb4.cell (p := ⟨g, off + k, none⟩) (Nat.lt_of_lt_of_le HG.out.1 HBW.out.size)).trans hcw
          have HB4 := Lib.hid (HBW.out.trans (hb4.mono HBW.out.size)); clear hb4 hf
          go_wp2
          go_ret
          exact ⟨rfl, HB4.out⟩
        · have hn20' : (n : Int) ≤ 20 := by omega
          clear hn20
          by_cases hs50 : 50 < (sk.size : Int)
          · go_wp2_with fail
            refine hf.mono ?_
            rintro e w4 ⟨rfl, hb4⟩
            have hcw4 : w4.cell? ⟨g, off + k, none⟩ = some (.slice a n c') := (hb4.cell (p := ⟨g, off + k, none⟩) (Nat.lt_of_lt_of_le HG.out.1 HBW.out.size)).trans hcw
            have hcs4 : w4.cell? ⟨g2, off2 + k, none⟩ = some (.string sk) := (hb4.cell (p := ⟨g2, off2 + k, none⟩) (Nat.lt_of_lt_of_le HG.out.2 HBW.out.size)).trans hcs
            have HB4 := Lib.hid (HBW.out.trans (hb4.mono HBW.out.size)); clear hb4 hf
            go_wp2
            go_ret
            exact ⟨rfl, HB4.out⟩
          have hs50' : (sk.size : Int) ≤ 50 := by omega
          clear hs50
          go_wp2_with fail
          refine hf.mono ?_
          rintro e w4 ⟨rfl, hb4⟩
          have hcw4 : w4.cell? ⟨g, off + k, none⟩ = some (.slice a n c') := (hb4.cell (p := ⟨g, off + k, none⟩) (Nat.lt_of_lt_of_le HG.out.1 HBW.out.size)).trans hcw
          have hcs4 : w4.cell? ⟨g2, off2 + k, none⟩ = some (.string sk) := (hb4.cell (p := ⟨g2, off2 + k, none⟩) (Nat.lt_of_lt_of_le HG.out.2 HBW.out.size)).trans hcs
          have hb4w := HBW.out.trans (hb4.mono HBW.out.size)
          have HLE := Lib.hid (show x.length ≤ 20 by have := HNL.out; omega)
          obtain ⟨RG, hRG⟩ : ∃ RG : World → Prop, RG = fun W => TLp 75 73 (.string ⟨#[]⟩) w B (addK (ksOf (l.take k)) (wayN x)) (updT (vlN l vv k) (wayN x) (.string sk)) W := ⟨_, rfl⟩
          obtain ⟨RP, hRP⟩ : ∃ RP : World → Prop, RP = fun W => Below w4.heap.size w4 W ∨ RG W := ⟨_, rfl⟩
          have HT4 : Hid (TLp 75 73 (.string ⟨#[]⟩) w B (ksOf (l.take k)) (vlN l vv k) w4) := Lib.hid (HI.out.2.below' hb4)
          have HLEN : Hid ((ksOf (l.take k)).length ≤ 1 + 20 * k) := Lib.hid (by
            have h := ksOf_len (l.take k) (fun n hn => (HI.out.1 n hn).1)
            rw [List.length_take] at h
            omega)
          have KD := Lib.hid (show ∀ W W', (W.cell? ⟨g, off + k, none⟩ = some (.slice a n c') ∧ W.cell? ⟨g2, off2 + k, none⟩ = some (.string sk) ∧ RP W) → Below W.heap.size W W' → (W'.cell? ⟨g, off + k, none⟩ = some (.slice a n c') ∧ W'.cell? ⟨g2, off2 + k, none⟩ = some (.string sk) ∧ RP W') from by
            intro W W' ⟨h1, h2, h3⟩ hb
            refine ⟨(hb.cell (p := ⟨g, off + k, none⟩) (World.block_lt_of_cell? W _ h1)).trans h1, (hb.cell (p := ⟨g2, off2 + k, none⟩) (World.block_lt_of_cell? W _ h2)).trans h2, ?_⟩
            rw [hRP] at h3 ⊢
            rcases h3 with h3 | h3
            · exact .inl (h3.trans (hb.mono h3.size))
            · right; rw [hRG] at h3 ⊢; exact h3.below' hb)
          have HP : Hid (∀ W, (W.cell? ⟨g, off + k, none⟩ = some (.slice a n c') ∧ W.cell? ⟨g2, off2 + k, none⟩ = some (.string sk) ∧ RP W) → Calls Try.prog 22 #[.pointer (some ⟨B, 0, none⟩), .slice a n c', .string sk] W (fun e w' => (∃ x, e = .returned x) ∧ (w'.cell? ⟨g, off + k, none⟩ = some (.slice a n c') ∧ w'.cell? ⟨g2, off2 + k, none⟩ = some (.string sk) ∧ RP w') ∧ RG w')) := Lib.hid (by
            intro W ⟨hW1, hW2, hW3⟩
            have hTW : ∃ ks f, TLp 75 73 (.string ⟨#[]⟩) w B ks f W ∧ ks.length ≤ 500 ∧ ((ks = ksOf (l.take k) ∧ f = vlN l vv k) ∨ (ks = addK (ksOf (l.take k)) (wayN x) ∧ f = updT (vlN l vv k) (wayN x) (.string sk))) := by
              rw [hRP] at hW3
              rcases hW3 with h | h
              · exact ⟨_, _, HT4.out.below' h, by have := HLEN.out; omega, .inl ⟨rfl, rfl⟩⟩
              · rw [hRG] at h
                exact ⟨_, _, h, by
                  have h1 := addK_len (ksOf (l.take k)) (wayN x)
                  rw [wayN_len] at h1
                  have := HLEN.out; have := HLE.out; omega, .inr ⟨rfl, rfl⟩⟩
            obtain ⟨ks, f, hT, hle, hcase⟩ := hTW
            refine (tl_Put_s hT (.slice a n c') (.string sk) x (HN.out.1.below hT.world) (fewN_ok HBX.out) ⟨_, rfl⟩ (by omega)).mono ?_
            rintro e w' ⟨h1, h2, h3⟩
            have hG : RG w' := by
              rw [hRG]
              rcases hcase with ⟨rfl, rfl⟩ | ⟨rfl, rfl⟩
              · exact h2
              · exact TLp.put_again HT4.out.ok (wayN_fold x) h2
            have hkc : ∀ {p : Addr} {v : Value}, W.cell? p = some v → p.block < w.heap.size → w'.cell? p = some v := fun {p v} hp hl => by
              have hw : w.cell? p = some v := by rw [← hT.world.cell hl]; exact hp
              have := h2.world.cell hl
              rw [this]; exact hw
            exact ⟨h1, ⟨hkc hW1 HG.out.1, hkc hW2 HG.out.2, by rw [hRP]; exact .inr hG⟩, hG⟩)
          have hS0 : w4.cell? ⟨g, off + k, none⟩ = some (.slice a n c') ∧ w4.cell? ⟨g2, off2 + k, none⟩ = some (.string sk) ∧ RP w4 := ⟨hcw4, hcs4, by rw [hRP]; exact .inl (Below.refl _ _)⟩
          have HRG := Lib.hid hRG
          clear hb4 hb4w hf hcw hcs hRG hRP HT4
          have hk0z : (0 : Int) ≤ (k : Int) := by omega
          go_wp2
          go_region_held3 (fun W => W.cell? ⟨g, off + k, none⟩ = some (.slice a n c') ∧ W.cell? ⟨g2, off2 + k, none⟩ = some (.string sk) ∧ RP W) (first | assumption | exact KD.out _ _ (by assumption) (below_drewT (Below.refl _ _)) | exact KD.out _ _ (by assumption) (below_drewQ (Below.refl _ _) _)) (first | ((with_reducible refine (HP.out _ (by assumption)).mono ?_); rintro e w5 ⟨⟨x5, rfl⟩, hS2, hG⟩))
          all_goals
            rw [HRG.out] at hG
            have HT5 := Lib.hid hG
            clear hG hS0
            go_wp2
            go_roundw
            case measure => simp [intOf]; omega
            case rel => exact ⟨k + 1, by go_num, by omega, Lib.hid ⟨fun y hy => by
              rw [HTK.out] at hy
              rcases List.mem_append.1 hy with hy | hy
              · exact HI.out.1 y hy
              · rw [List.mem_singleton.1 hy]; exact ⟨HLE.out, HBX.out⟩, by rw [HKS.out, HVK.out]; exact HT5.out⟩⟩
    · obtain rfl : ns = k := by omega
      have htake : l.take ns = l := List.take_of_length_le (by rw [HM.out]; exact Nat.le_refl _)
      have HTL : Hid (TLp 75 73 (.string ⟨#[]⟩) w B (ksOf l) (vlN l vv ns) wr) := Lib.hid (by have h := HI.out.2; rwa [htake] at h)
      have HFW : Hid (∀ j (h : j < l.length), fewN l[j] = true) := Lib.hid (fun j h => (HI.out.1 l[j] (by rw [htake]; exact List.getElem_mem h)).2)
      clear HI hk htake hlt
      go_wp2
      go_loopw [7] (fun vi w9 => ∃ (wq : World) (i : Nat), wq = w9 ∧ vi = .int .i64 i ∧ i ≤ ns ∧ Hid (TLp 75 73 (.string ⟨#[]⟩) w B (ksOf l) (vlN l vv ns) wq)) (fun vi _ => ns - (intOf vi).toNat)
      case atStart => exact ⟨_, 0, rfl, rfl, Nat.zero_le _, HTL⟩
      case round =>
        clear HTL HT3
        obtain ⟨wq, i, rfl, rfl, hi, HI⟩ := hrel
        by_cases hlt : i < ns
        · have hltz : (i : Int) < (ns : Int) := by omega
          have hiz : (0 : Int) ≤ (i : Int) := by omega
          have hil : i < l.length := by rw [HM.out]; exact hlt
          have his : i < xs.length := by rw [HNS.out]; exact hlt
          obtain ⟨g, off, rfl, -, hg, a, n, c', hc, hn, hnl⟩ := HLN.out.at hil
          obtain ⟨g2, off2, rfl, -, hg2, hc2, hsl⟩ := HSN.out.at his
          rw [← HVA.out i his] at hc2
          obtain ⟨si, hsi⟩ := HVS.out i
          rw [hsi] at hc2
          obtain ⟨x, hx⟩ : ∃ x, l[i] = x := ⟨_, rfl⟩
          have hfx := HFW.out i hil
          rw [hx] at hn hnl hfx
          have HV1 := Lib.hid (show vlN l vv (i + 1) (wayN x) = some (.string si) by rw [vlN_yes hil (by rw [hx]), hsi])
          have hbw : Below w.heap.size w wq := HI.out.world
          have hcw : wq.cell? ⟨g, off + i, none⟩ = some (.slice a n c') := (hbw.cell (p := ⟨g, off + i, none⟩) hg).trans hc
          have hcs : wq.cell? ⟨g2, off2 + i, none⟩ = some (.string si) := (hbw.cell (p := ⟨g2, off2 + i, none⟩) hg2).trans hc2
          have HN := Lib.hid hn; have HG := Lib.hid (And.intro hg hg2); have HFX := Lib.hid hfx; have HC := Lib.hid hc
          clear hn hnl hc hc2 hg hg2 hx hbw hil his hsi hsl hfx
          go_wp2
          clear hcs hcw
          go_loopw [8, 9] (fun vw vk w9 => ∃ (wp : World) (k : Nat) (sw : ByteArray), wp = w9 ∧ vw = .string sw ∧ vk = .int .i64 k ∧ k ≤ ns ∧ Hid (i < k ∧ vlN l vv k (wayN x) = some (.string sw)) ∧ Hid (TLp 75 73 (.string ⟨#[]⟩) w B (ksOf l) (vlN l vv ns) wp)) (fun _ vk _ => ns - (intOf vk).toNat)
          case atStart => exact ⟨_, i + 1, si, rfl, rfl, by go_num, by omega, Lib.hid ⟨by omega, HV1.out⟩, HI⟩
          case round =>
            clear HI HV1
            obtain ⟨wp, k, sw, rfl, rfl, rfl, hk, HK, HI⟩ := hrel
            by_cases hkt : k < ns
            · have hktz : (k : Int) < (ns : Int) := by omega
              have hkz : (0 : Int) ≤ (k : Int) := by omega
              have hkl : k < l.length := by rw [HM.out]; exact hkt
              have hks : k < xs.length := by rw [HNS.out]; exact hkt
              obtain ⟨g', off', eg, -, -, a3, n3, c3, hc, hn, -⟩ := HLN.out.at hkl
              obtain ⟨rfl, rfl⟩ : g' = g ∧ off' = off := by injection eg with eg; injection eg with e1 e2; exact ⟨e1.symm, e2.symm⟩
              obtain ⟨g2', off2', eg2, -, -, hc2, -⟩ := HSN.out.at hks
              obtain ⟨rfl, rfl⟩ : g2' = g2 ∧ off2' = off2 := by injection eg2 with eg2; injection eg2 with e1 e2; exact ⟨e1.symm, e2.symm⟩
              rw [← HVA.out k hks] at hc2
              obtain ⟨sk, hsk⟩ := HVS.out k
              rw [hsk] at hc2
              obtain ⟨y, hy⟩ : ∃ y, l[k] = y := ⟨_, rfl⟩
              have hfy := HFW.out k hkl
              rw [hy] at hn hfy
              obtain ⟨r, hr⟩ : ∃ r, sameN y x = r := ⟨_, rfl⟩
              have hbw : Below w.heap.size w wp := HI.out.world
              have hcw : wp.cell? ⟨g', off' + k, none⟩ = some (.slice a3 n3 c3) := (hbw.cell (p := ⟨g', off' + k, none⟩) HG.out.1).trans hc
              have hcx : wp.cell? ⟨g', off' + i, none⟩ = some (.slice a n c') := (hbw.cell (p := ⟨g', off' + i, none⟩) HG.out.1).trans HC.out
              have hcs : wp.cell? ⟨g2', off2' + k, none⟩ = some (.string sk) := (hbw.cell (p := ⟨g2', off2' + k, none⟩) HG.out.2).trans hc2
              have HV2 := Lib.hid (show vlN l vv (k + 1) (wayN x) = some (.string (if r then sk else sw)) by
                cases r with
                | true => rw [vlN_yes hkl (by rw [hy]; exact way_same hr), hsk]; rfl
                | false => rw [vlN_no hkl (by rw [hy]; exact way_diff hr), HK.out.2]; rfl)
              have KD := Lib.hid (show ∀ W W', (W.cell? ⟨g', off' + k, none⟩ = some (.slice a3 n3 c3) ∧ W.cell? ⟨g', off' + i, none⟩ = some (.slice a n c') ∧ Below wp.heap.size wp W) → Below W.heap.size W W' → (W'.cell? ⟨g', off' + k, none⟩ = some (.slice a3 n3 c3) ∧ W'.cell? ⟨g', off' + i, none⟩ = some (.slice a n c') ∧ Below wp.heap.size wp W') from by
                intro W W' ⟨h1, h2, h3⟩ hb
                exact ⟨(hb.cell (p := ⟨g', off' + k, none⟩) (World.block_lt_of_cell? W _ h1)).trans h1, (hb.cell (p := ⟨g', off' + i, none⟩) (World.block_lt_of_cell? W _ h2)).trans h2, h3.trans (hb.mono h3.size)⟩)
              have HS0 := Lib.hid hbw
              have HSM : Hid (∀ W, (W.cell? ⟨g', off' + k, none⟩ = some (.slice a3 n3 c3) ∧ W.cell? ⟨g', off' + i, none⟩ = some (.slice a n c') ∧ Below wp.heap.size wp W) → Calls Try.prog 14 #[.slice a3 n3 c3, .slice a n c'] W (fun e w' => e = .returned (.bool r) ∧ Below W.heap.size W w')) := Lib.hid (fun W hW => by
                have hbW : Below w.heap.size w W := HS0.out.trans (hW.2.2.mono HS0.out.size)
                exact kn_RSame _ _ y x r hr W (hn.1.below hbW) (HN.out.1.below hbW) (fewN_ok hfy) (fewN_ok HFX.out))
              have hS0 : wp.cell? ⟨g', off' + k, none⟩ = some (.slice a3 n3 c3) ∧ wp.cell? ⟨g', off' + i, none⟩ = some (.slice a n c') ∧ Below wp.heap.size wp wp := ⟨hcw, hcx, Below.refl _ _⟩
              have HCS := Lib.hid hcs
              clear hc hn hc2 hsk hy hfy hr hbw hcw hcx hcs eg eg2 hkl hks
              go_wp2
              go_region_held3 (fun W => W.cell? ⟨g', off' + k, none⟩ = some (.slice a3 n3 c3) ∧ W.cell? ⟨g', off' + i, none⟩ = some (.slice a n c') ∧ Below wp.heap.size wp W) (first | assumption | exact KD.out _ _ (by assumption) (below_drewT (Below.refl _ _)) | exact KD.out _ _ (by assumption) (below_drewQ (Below.refl _ _) _)) (first | ((with_reducible refine (HSM.out _ (by assumption)).mono ?_); rintro e w5 ⟨rfl, hb5⟩; have hS2 := KD.out _ _ (by assumption) hb5))
              all_goals
                have hz5 := hS2.2.2
                have HT5 := Lib.hid (HI.out.below' hz5)
                have hcs5 : World.cell? _ ⟨g2', off2' + k, none⟩ = some (.string sk) := (hz5.cell (p := ⟨g2', off2' + k, none⟩) (World.block_lt_of_cell? _ _ HCS.out)).trans HCS.out
                clear hz5 hS2 hS0
                cases r
                · go_wp2
                  go_roundw
                  case measure => simp [intOf]; omega
                  case rel => exact ⟨_, k + 1, sw, rfl, rfl, by go_num, by omega, Lib.hid ⟨by have := HK.out.1; omega, HV2.out⟩, HT5⟩
                · go_wp2
                  go_roundw
                  case measure => simp [intOf]; omega
                  case rel => exact ⟨_, k + 1, sk, rfl, rfl, by go_num, by omega, Lib.hid ⟨by have := HK.out.1; omega, HV2.out⟩, HT5⟩
            · obtain rfl : ns = k := by omega
              have hbw : Below w.heap.size w wp := HI.out.world
              have hcx : wp.cell? ⟨g, off + i, none⟩ = some (.slice a n c') := (hbw.cell (p := ⟨g, off + i, none⟩) HG.out.1).trans HC.out
              have hg := tl_Get_s HI.out (.slice a n c') x (HN.out.1.below hbw) (fewN_ok HFX.out) (fun v e => by rw [HK.out.2] at e; injection e with e; exact ⟨_, e.symm⟩)
              rw [HK.out.2] at hg
              unfold GetPost at hg
              simp only [Option.getD_some, Option.isSome_some] at hg
              clear hbw
              go_wp2_with fail
              refine hg.mono ?_
              rintro e w6 ⟨rfl, hb6⟩
              have HT6 := Lib.hid (HI.out.below' hb6)
              clear hb6 hg
              go_wp2
              go_roundw
              case measure => simp [intOf]; omega
              case rel => exact ⟨_, i + 1, rfl, by go_num, by omega, HT6⟩
        · have HW := Lib.hid HI.out.world
          obtain rfl : ns = i := by omega
          go_wp2
          go_ret
          exact ⟨rfl, HW.out⟩
end
end Go.Proofs.Ytnpnfajgphpabaa
