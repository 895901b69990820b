/-
  law5.RecStands: true for any records.
-/
import Derived.Test.YtfcdajldpnomfaaGreatDoorMQ10
namespace Go.Proofs.YtfcdajldpnomfaaGreatDoor
open Go.RowKit Go.Shelf
set_option maxRecDepth 20000
set_option linter.unusedVariables false
set_option linter.unusedSimpArgs false

def onM (y : Rc) (l : List Rc) : Bool := l.any fun a => sameR a y && decide (a.ttl = y.ttl)
theorem onM_take {y : Rc} {l : List Rc} {k : Nat} (h : k < l.length) : onM y (l.take (k + 1)) = (onM y (l.take k) || (sameR l[k] y && decide (l[k].ttl = y.ttl))) := by
  unfold onM
  rw [List.take_succ_eq_append_getElem h, List.any_append]
  simp
theorem onM_canon {l : List Rc} {y : Rc} (h : y ∈ canonM l) : onM y l = true := by
  obtain ⟨a, ha, h1, h2⟩ := (canonM_can l).of y h
  unfold onM
  rw [List.any_eq_true]
  refine ⟨a, ha, ?_⟩
  unfold sameR
  rw [h1]
  simp [h2]
theorem canon_least {l : List Rc} {x y : Rc} (hx : x ∈ l) (hy : y ∈ canonM l) (h : compareR x y = 0) : y.ttl ≤ x.ttl := by
  obtain ⟨z, hz, h1, h2⟩ := (canonM_can l).has x hx
  have e : z = y := (canonM_can l).up.one hz hy (cR_eq h1 h)
  rw [← e]; exact h2
theorem canon_rises {l L : List Rc} (hL : canonM l = L) {i : Nat} (h : i + 1 < L.length) : compareR L[i] L[i + 1] < 0 := by
  subst hL
  exact List.pairwise_iff_getElem.1 (canonM_can l).up i (i + 1) (by omega) h (by omega)

set_option maxRecDepth 100000 in
set_option maxHeartbeats 16000000 in
theorem law5_RecStands {w : World} (v : Value) (css : List (List Value)) (l : List Rc) (hA : SlK w v css) (hR : css.length = l.length ∧ ∀ i (h1 : i < css.length) (h2 : i < l.length), RcArg w css[i] l[i]) (hT : Tab w) (hZ : TabZ w) :
    Calls Tryz.prog 7 #[v] w fun e w' => e = .returned (.bool true) ∧ Below w.heap.size w w' := by
  obtain ⟨fw, hfw⟩ : ∃ fw, fewRs l = fw := ⟨_, rfl⟩
  have hkn := law5_known w hT hZ
  have hFew := fun W hb => law5_Few v css l w W hA hR hb
  rw [hfw] at hFew
  have hrow : RowR w v l := ⟨css, hA, rcs_arg hR⟩
  obtain ⟨a, ca, rfl, -⟩ := hrow.shape
  have HOK := Lib.hid (fun (h : fw = true) => fewRs_ok hR (hfw.trans h))
  obtain ⟨n, hn⟩ : ∃ n, l.length = n := ⟨_, rfl⟩
  rw [hn] at hA hrow hFew ⊢
  have HFew := Lib.hid hFew; have HROW := Lib.hid hrow; have HA := Lib.hid hA; have HR := Lib.hid (rcs_arg hR); have HN := Lib.hid hn
  clear hA hR hT hZ hFew hfw hrow hn
  go_enter Tryz.func7, Tryz.ntmps7
  go_wp2_with fail
  refine hkn.mono ?_
  rintro e w0 ⟨rfl, hb⟩
  have HB_w0 := Lib.hid hb
  have hc := HFew.out w0 hb
  clear hb hkn
  go_wp2_with fail
  refine hc.mono ?_
  rintro e w1 ⟨rfl, hb⟩
  have HB_w1 := Lib.hid (HB_w0.out.trans (hb.mono HB_w0.out.size))
  clear hb hc HB_w0 HFew
  cases fw
  · go_wp2_with fail
    go_ret
    exact ⟨rfl, HB_w1.out⟩
  obtain ⟨hl60, hok, hnm⟩ := HOK.out (by simp)
  have hn60 : n ≤ 60 := by have := HN.out; omega
  obtain ⟨L, hL⟩ : ∃ L, canonM l = L := ⟨_, rfl⟩
  have hLk : ∀ r ∈ L, RcOK r := by rw [← hL]; exact canonM_ok l hok
  obtain ⟨m, hm⟩ : ∃ m, L.length = m := ⟨_, rfl⟩
  have hmn : m ≤ n := by rw [← hm, ← hL, ← HN.out]; exact canonM_length l
  have hc := row_Canon (.slice a n ca) l L hL w1 (HROW.out.below HB_w1.out) hok (by omega)
  have KOF := Lib.hid (fun (x : Value) (W : World) (h : RowR W x l) => row_OfAll x l W h hnm (by omega))
  have KRC := Lib.hid (fun (x : Value) (W : World) (h : RowR W x l) => row_RCanon x l L hL W h hok (by omega))
  have HL := Lib.hid hL; have HLK := Lib.hid hLk; have HOKL := Lib.hid hok; have HM := Lib.hid hm
  clear HOK hl60 hok hnm hL hLk hm
  go_wp2_with fail
  refine hc.mono ?_
  rintro e w2 ⟨v2, rfl, hr, hb⟩
  have HB_w2 := Lib.hid (HB_w1.out.trans (hb.mono HB_w1.out.size))
  obtain ⟨csL, hcL, hRL⟩ := hr
  obtain ⟨ac, cc, rfl, -, -, -⟩ := id hcL
  have hcl : csL.length = m := by rw [hRL.1]; exact HM.out
  rw [hcl] at hcL ⊢
  have HCL := Lib.hid hcL; have HRL := Lib.hid hRL; have HCM := Lib.hid hcl
  clear hb hc HB_w1 hcL hRL hcl
  go_wp2_with fail
  go_loopg [4] m (fun g1 vi wq => ∃ (wr : World) (i : Nat), wr = wq ∧ vi = .int .i64 i ∧ i ≤ m ∧ m - i ≤ g1 ∧ Hid (Below w2.heap.size w2 wr))
  case atStart => exact ⟨_, 0, rfl, rfl, Nat.zero_le _, by omega, Lib.hid (Below.refl _ _)⟩
  case round =>
    obtain ⟨wr, i, rfl, rfl, hi, hg1, HB⟩ := hrel
    by_cases hlt : i < m
    · have hltz : (i : Int) < (m : Int) := by omega
      obtain ⟨bc, oc, rfl, hbc, hec⟩ := HCL.out.elem HRL.out.ck (by have := HCM.out; omega)
      obtain ⟨b, off, rfl, hbl, hel⟩ := HA.out.elem HR.out.ck (by have := HR.out.1; have := HN.out; omega)
      have hi1 : i < csL.length := by have := HCM.out; omega
      have hi2 : i < L.length := by have := HM.out; omega
      have h1 := HRL.out.2 i hi1 hi2
      have hoky := HLK.out _ (List.getElem_mem hi2)
      have hyL : L[i]'hi2 ∈ canonM l := by rw [HL.out]; exact List.getElem_mem hi2
      obtain ⟨y, hy⟩ : ∃ r, L[i]'hi2 = r := ⟨_, rfl⟩
      rw [hy] at h1 hoky hyL
      obtain ⟨⟨p0', q0', r0'⟩, ⟨p3', q3', r3'⟩, ⟨p4', q4', r4'⟩, ⟨p5', q5', r5'⟩, ⟨p6', q6', r6'⟩, e1⟩ := h1.shape
      simp only at e1
      rw [e1] at h1
      have HE1 := Lib.hid (fun W hb => hec i hi1 _ _ _ _ _ _ _ e1 W hb)
      have HY1 := Lib.hid h1; have HOKY := Lib.hid hoky; have HYL := Lib.hid hyL
      obtain ⟨ty, hty⟩ : ∃ t, y.ttl = t := ⟨_, rfl⟩
      rw [hty] at HE1 HY1
      have HTY := Lib.hid hty
      -- the inner part, from whatever world
      have hcl9 : (fun W => Below wr.heap.size wr W) wr.drew := ⟨rfl, rfl, rfl, Nat.le_refl _, fun _ _ => rfl⟩
      have hne : Nonempty (WIn (fun W => Below wr.heap.size wr W)) := ⟨⟨_, hcl9⟩⟩
      have f1 := fun p : WIn (fun W => Below wr.heap.size wr W) => HE1.out p.w (HB.out.trans (p.ok.mono HB.out.size))
      have j0 := fun p => (f1 p).1; have j1 := fun p => (f1 p).2.1; have j2 := fun p => (f1 p).2.2.1; have j3 := fun p => (f1 p).2.2.2.1; have j4 := fun p => (f1 p).2.2.2.2.1; have j5 := fun p => (f1 p).2.2.2.2.2.1; have j6 := fun p => (f1 p).2.2.2.2.2.2
      have HHEL := Lib.hid hel
      rcases Nat.eq_zero_or_pos i with hi0 | hi0
      · have hiz2 : ¬ (0 : Int) < (i : Int) := by omega
        have hiz5 : ¬ 0 < i := by omega
        clear hi0 f1 hty hy h1 hoky hyL e1 hec hel hbc hbl hi1 hi2
        go_wp2_with fail
        refine wp_region_cls (fun W => Below wr.heap.size wr W) follows_mixed (by kernel_rfl) hcl9 ?_
        repeat (go_big_quiet_step (fail))
        refine wpQuiet_nil ?_
        rintro _ ⟨p, rfl⟩
        have HB9 := Lib.hid (HB.out.trans (p.ok.mono HB.out.size))
        clear hiz2 hiz5
        clear j0 j1 j2 j3 j4 j5 j6 hcl9 hne HB
        generalize p.w = w9 at *
        go_wp2_with fail
        go_loopg [5, 6] n (fun g2 vo vk wq => ∃ (w3 : World) (k : Nat) (on : Bool), w3 = wq ∧ vo = .bool on ∧ vk = .int .i64 k ∧ k ≤ n ∧ n - k ≤ g2 ∧ Hid (on = onM y (l.take k)) ∧ Hid (Below w2.heap.size w2 w3))
        case atStart => exact ⟨_, 0, false, rfl, rfl, rfl, Nat.zero_le _, by omega, Lib.hid rfl, HB9⟩
        case round =>
          obtain ⟨w3, k, on, rfl, rfl, rfl, hk, hg2, HON, HB3⟩ := hrel
          clear HB9
          by_cases hkn : k < n
          · have hkz : (k : Int) < (n : Int) := by omega
            have hk1 : k < css.length := by have := HR.out.1; have := HN.out; omega
            have hk2 : k < l.length := by have := HN.out; omega
            have h0 := HR.out.2 k hk1 hk2
            have hokx := HOKL.out _ (List.getElem_mem hk2)
            have hst := onM_take (y := y) hk2
            have hxl : l[k]'hk2 ∈ l := List.getElem_mem hk2
            obtain ⟨x, hx⟩ : ∃ r, l[k]'hk2 = r := ⟨_, rfl⟩
            rw [hx] at h0 hokx hst hxl
            obtain ⟨⟨a0, b0, d0⟩, ⟨a3, b3, d3⟩, ⟨a4, b4, d4⟩, ⟨a5, b5, d5⟩, ⟨a6, b6, d6⟩, e0⟩ := h0.shape
            simp only at e0
            rw [e0] at h0
            have hcl : (fun W => Below w3.heap.size w3 W) w3.drew := ⟨rfl, rfl, rfl, Nat.le_refl _, fun _ _ => rfl⟩
            have hne : Nonempty (WIn (fun W => Below w3.heap.size w3 W)) := ⟨⟨_, hcl⟩⟩
            have hbw := fun p : WIn (fun W => Below w3.heap.size w3 W) => HB_w2.out.trans ((HB3.out.trans (p.ok.mono HB3.out.size)).mono HB_w2.out.size)
            have f0 := fun p : WIn (fun W => Below w3.heap.size w3 W) => HHEL.out k hk1 _ _ _ _ _ _ _ e0 p.w (hbw p)
            have f1 := fun p : WIn (fun W => Below w3.heap.size w3 W) => HE1.out p.w (HB3.out.trans (p.ok.mono HB3.out.size))
            have g0 := fun p => (f0 p).1; have g1' := fun p => (f0 p).2.1; have g2' := fun p => (f0 p).2.2.1; have g3 := fun p => (f0 p).2.2.2.1; have g4 := fun p => (f0 p).2.2.2.2.1; have g5 := fun p => (f0 p).2.2.2.2.2.1; have g6 := fun p => (f0 p).2.2.2.2.2.2
            have j0 := fun p => (f1 p).1; have j1 := fun p => (f1 p).2.1; have j2 := fun p => (f1 p).2.2.1; have j3 := fun p => (f1 p).2.2.2.1; have j4 := fun p => (f1 p).2.2.2.2.1; have j5 := fun p => (f1 p).2.2.2.2.2.1; have j6 := fun p => (f1 p).2.2.2.2.2.2
            have hcs := fun p : WIn (fun W => Below w3.heap.size w3 W) => Calls.cls (C := (fun W => Below w3.heap.size w3 W)) ((rec_Same _ _ _ _ p.w (h0.below (hbw p)) (HY1.out.below (HB3.out.trans (p.ok.mono HB3.out.size))) hokx HOKY.out).mono fun _ _ ⟨hq, hb⟩ => ⟨hq, p.ok.trans (hb.mono p.ok.size)⟩)
            have hlst := fun (h : sameR x y = true) => canon_least hxl HYL.out (by unfold sameR at h; simpa using h)
            obtain ⟨sv, hsv⟩ : ∃ s, sameR x y = s := ⟨_, rfl⟩
            obtain ⟨tx, htx⟩ : ∃ t, x.ttl = t := ⟨_, rfl⟩
            rw [hsv] at hcs hst hlst
            rw [htx] at g1' hcs hst hlst
            rw [HTY.out] at hst hlst
            have HST := Lib.hid hst; have HLS := Lib.hid hlst
            clear f0 f1 hx h0 hokx hst hxl e0 hk1 hk2 hsv htx hbw hlst
            cases sv
            · go_wp2_with fail
              refine wp_region_cls (fun W => Below w3.heap.size w3 W) follows_mixed (by kernel_rfl) hcl ?_
              repeat (go_big_quiet_step (exact hcs _))
              refine wpQuiet_nil ?_
              rintro _ ⟨p, rfl⟩
              have HP := Lib.hid p.ok
              have HE := Lib.hid (show on = onM y (l.take (k + 1)) by rw [HST.out, ← HON.out]; simp)
              clear g0 g1' g2' g3 g4 g5 g6 j0 j1 j2 j3 j4 j5 j6 hcs
              go_wp2
              go_roundg (n - (k + 1))
              case measure => omega
              case rel => exact ⟨_, k + 1, on, rfl, rfl, by go_num, by omega, by omega, HE, Lib.hid (HB3.out.trans (HP.out.mono HB3.out.size))⟩
            · have hle : ty ≤ tx := HLS.out (by simp)
              have hltt : ¬ (tx : Int) < (ty : Int) := by omega
              go_wp2_with fail
              refine wp_region_cls (fun W => Below w3.heap.size w3 W) follows_mixed (by kernel_rfl) hcl ?_
              repeat (go_big_quiet_step (exact hcs _))
              refine wpQuiet_nil ?_
              rintro _ ⟨p, rfl⟩
              have hcl2 : (fun W => Below w3.heap.size w3 W) p.w.drew := p.ok.trans ⟨rfl, rfl, rfl, Nat.le_refl _, fun _ _ => rfl⟩
              clear hcs hle
              cases on
              · by_cases htt : tx = ty
                · subst htt
                  have HE := Lib.hid (show true = onM y (l.take (k + 1)) by rw [HST.out]; simp)
                  go_wp2_with fail
                  refine wp_region_cls (fun W => Below w3.heap.size w3 W) follows_mixed (by kernel_rfl) hcl2 ?_
                  repeat (go_big_quiet_step (fail))
                  refine wpQuiet_nil ?_
                  rintro _ ⟨p2, rfl⟩
                  have hcl3 : (fun W => Below w3.heap.size w3 W) p2.w.drew := p2.ok.trans ⟨rfl, rfl, rfl, Nat.le_refl _, fun _ _ => rfl⟩
                  go_wp2_with fail
                  refine wp_region_cls (fun W => Below w3.heap.size w3 W) follows_mixed (by kernel_rfl) hcl3 ?_
                  repeat (go_big_quiet_step (fail))
                  refine wpQuiet_nil ?_
                  rintro _ ⟨p3, rfl⟩
                  have HP := Lib.hid p3.ok
                  clear g0 g1' g2' g3 g4 g5 g6 j0 j1 j2 j3 j4 j5 j6
                  go_wp2
                  go_roundg (n - (k + 1))
                  case measure => omega
                  case rel => exact ⟨_, k + 1, _, rfl, rfl, by go_num, by omega, by omega, HE, Lib.hid (HB3.out.trans (HP.out.mono HB3.out.size))⟩
                · have hz : ¬ (tx : Int) = (ty : Int) := by omega
                  have hzb : ((tx : Int) == (ty : Int)) = false := by simpa using hz
                  have HE := Lib.hid (show false = onM y (l.take (k + 1)) by rw [HST.out, ← HON.out]; simp [htt])
                  go_wp2_with fail
                  refine wp_region_cls (fun W => Below w3.heap.size w3 W) follows_mixed (by kernel_rfl) hcl2 ?_
                  repeat (go_big_quiet_step (fail))
                  refine wpQuiet_nil ?_
                  rintro _ ⟨p2, rfl⟩
                  have hcl3 : (fun W => Below w3.heap.size w3 W) p2.w.drew := p2.ok.trans ⟨rfl, rfl, rfl, Nat.le_refl _, fun _ _ => rfl⟩
                  go_wp2_with fail
                  refine wp_region_cls (fun W => Below w3.heap.size w3 W) follows_mixed (by kernel_rfl) hcl3 ?_
                  repeat (go_big_quiet_step (fail))
                  refine wpQuiet_nil ?_
                  rintro _ ⟨p3, rfl⟩
                  have HP := Lib.hid p3.ok
                  clear g0 g1' g2' g3 g4 g5 g6 j0 j1 j2 j3 j4 j5 j6
                  go_wp2
                  go_roundg (n - (k + 1))
                  case measure => omega
                  case rel => exact ⟨_, k + 1, _, rfl, rfl, by go_num, by omega, by omega, HE, Lib.hid (HB3.out.trans (HP.out.mono HB3.out.size))⟩
              · have HE := Lib.hid (show true = onM y (l.take (k + 1)) by rw [HST.out, ← HON.out]; simp)
                go_wp2_with fail
                refine wp_region_cls (fun W => Below w3.heap.size w3 W) follows_mixed (by kernel_rfl) hcl2 ?_
                repeat (go_big_quiet_step (fail))
                refine wpQuiet_nil ?_
                rintro _ ⟨p2, rfl⟩
                have hcl3 : (fun W => Below w3.heap.size w3 W) p2.w.drew := p2.ok.trans ⟨rfl, rfl, rfl, Nat.le_refl _, fun _ _ => rfl⟩
                go_wp2_with fail
                refine wp_region_cls (fun W => Below w3.heap.size w3 W) follows_mixed (by kernel_rfl) hcl3 ?_
                repeat (go_big_quiet_step (fail))
                refine wpQuiet_nil ?_
                rintro _ ⟨p3, rfl⟩
                have HP := Lib.hid p3.ok
                clear g0 g1' g2' g3 g4 g5 g6 j0 j1 j2 j3 j4 j5 j6
                go_wp2
                go_roundg (n - (k + 1))
                case measure => omega
                case rel => exact ⟨_, k + 1, _, rfl, rfl, by go_num, by omega, by omega, HE, Lib.hid (HB3.out.trans (HP.out.mono HB3.out.size))⟩
          · obtain rfl : k = n := by omega
            have hon : on = true := by
              rw [HON.out, List.take_of_length_le (by have := HN.out; omega)]
              exact onM_canon HYL.out
            subst hon
            go_wp2
            go_roundg (m - (i + 1))
            case measure => omega
            case rel => exact ⟨_, i + 1, rfl, by go_num, by omega, by omega, HB3⟩
      · obtain ⟨ip, rfl⟩ : ∃ ip, i = ip + 1 := ⟨i - 1, by omega⟩
        have hp1 : ip < csL.length := by omega
        have hp2 : ip < L.length := by omega
        have h0 := HRL.out.2 ip hp1 hp2
        have hokx := HLK.out _ (List.getElem_mem hp2)
        have hup := canon_rises HL.out (i := ip) hi2
        rw [hy] at hup
        obtain ⟨x, hx⟩ : ∃ r, L[ip]'hp2 = r := ⟨_, rfl⟩
        rw [hx] at h0 hokx hup
        obtain ⟨⟨p0, q0, r0⟩, ⟨p3, q3, r3⟩, ⟨p4, q4, r4⟩, ⟨p5, q5, r5⟩, ⟨p6, q6, r6⟩, e0⟩ := h0.shape
        simp only at e0
        rw [e0] at h0
        have f0 := fun p : WIn (fun W => Below wr.heap.size wr W) => hec ip hp1 _ _ _ _ _ _ _ e0 p.w (HB.out.trans (p.ok.mono HB.out.size))
        have g0 := fun p => (f0 p).1; have g1' := fun p => (f0 p).2.1; have g2' := fun p => (f0 p).2.2.1; have g3 := fun p => (f0 p).2.2.2.1; have g4 := fun p => (f0 p).2.2.2.2.1; have g5 := fun p => (f0 p).2.2.2.2.2.1; have g6 := fun p => (f0 p).2.2.2.2.2.2
        have hcg := fun p : WIn (fun W => Below wr.heap.size wr W) => Calls.cls (C := (fun W => Below wr.heap.size wr W)) ((rec_Compare _ _ _ _ p.w (h0.below (HB.out.trans (p.ok.mono HB.out.size))) (HY1.out.below (HB.out.trans (p.ok.mono HB.out.size))) hokx HOKY.out).mono fun _ _ ⟨hq, hb⟩ => ⟨hq, p.ok.trans (hb.mono p.ok.size)⟩)
        obtain ⟨cv, hcv⟩ : ∃ s, compareR x y = s := ⟨_, rfl⟩
        rw [hcv] at hcg hup
        obtain ⟨tx, htx⟩ : ∃ t, x.ttl = t := ⟨_, rfl⟩
        rw [htx] at g1' hcg
        have hiz2 : (0 : Int) < (ip : Int) + 1 := by omega
        have hwp : IntKind.i64.wrap (ip : Int) = (ip : Int) := by rw [IntKind.wrap_i64]; omega
        have hpz0 : (0 : Int) ≤ (ip : Int) := by omega
        have hpz : (ip : Int) < (m : Int) := by omega
        have hpz1 : (ip : Int) + 1 < (m : Int) := by omega
        have hpz2 : (0 : Int) ≤ (ip : Int) + 1 := by omega
        have hpe : ((ip : Int) + 1).toNat = ip + 1 := by omega
        have hup2 : ¬ (0 : Int) ≤ cv := by omega
        clear f0 f1 hty hy h1 hoky hyL e1 hec hel hbc hbl hi1 hi2 h0 hokx hx e0 hp1 hp2 hcv htx hup
        go_wp2_with fail
        refine wp_region_cls (fun W => Below wr.heap.size wr W) follows_mixed (by kernel_rfl) hcl9 ?_
        repeat (go_big_quiet_step (exact hcg _))
        refine wpQuiet_nil ?_
        rintro _ ⟨p, rfl⟩
        have HB9 := Lib.hid (HB.out.trans (p.ok.mono HB.out.size))
        clear j0 j1 j2 j3 j4 j5 j6 g0 g1' g2' g3 g4 g5 g6 hcg hcl9 hne HB
        generalize p.w = w9 at *
        go_wp2_with fail
        go_loopg [5, 6] n (fun g2 vo vk wq => ∃ (w3 : World) (k : Nat) (on : Bool), w3 = wq ∧ vo = .bool on ∧ vk = .int .i64 k ∧ k ≤ n ∧ n - k ≤ g2 ∧ Hid (on = onM y (l.take k)) ∧ Hid (Below w2.heap.size w2 w3))
        case atStart => exact ⟨_, 0, false, rfl, rfl, rfl, Nat.zero_le _, by omega, Lib.hid rfl, HB9⟩
        case round =>
          obtain ⟨w3, k, on, rfl, rfl, rfl, hk, hg2, HON, HB3⟩ := hrel
          clear HB9
          by_cases hkn : k < n
          · have hkz : (k : Int) < (n : Int) := by omega
            have hk1 : k < css.length := by have := HR.out.1; have := HN.out; omega
            have hk2 : k < l.length := by have := HN.out; omega
            have h0 := HR.out.2 k hk1 hk2
            have hokx := HOKL.out _ (List.getElem_mem hk2)
            have hst := onM_take (y := y) hk2
            have hxl : l[k]'hk2 ∈ l := List.getElem_mem hk2
            obtain ⟨x, hx⟩ : ∃ r, l[k]'hk2 = r := ⟨_, rfl⟩
            rw [hx] at h0 hokx hst hxl
            obtain ⟨⟨a0, b0, d0⟩, ⟨a3, b3, d3⟩, ⟨a4, b4, d4⟩, ⟨a5, b5, d5⟩, ⟨a6, b6, d6⟩, e0⟩ := h0.shape
            simp only at e0
            rw [e0] at h0
            have hcl : (fun W => Below w3.heap.size w3 W) w3.drew := ⟨rfl, rfl, rfl, Nat.le_refl _, fun _ _ => rfl⟩
            have hne : Nonempty (WIn (fun W => Below w3.heap.size w3 W)) := ⟨⟨_, hcl⟩⟩
            have hbw := fun p : WIn (fun W => Below w3.heap.size w3 W) => HB_w2.out.trans ((HB3.out.trans (p.ok.mono HB3.out.size)).mono HB_w2.out.size)
            have f0 := fun p : WIn (fun W => Below w3.heap.size w3 W) => HHEL.out k hk1 _ _ _ _ _ _ _ e0 p.w (hbw p)
            have f1 := fun p : WIn (fun W => Below w3.heap.size w3 W) => HE1.out p.w (HB3.out.trans (p.ok.mono HB3.out.size))
            have g0 := fun p => (f0 p).1; have g1' := fun p => (f0 p).2.1; have g2' := fun p => (f0 p).2.2.1; have g3 := fun p => (f0 p).2.2.2.1; have g4 := fun p => (f0 p).2.2.2.2.1; have g5 := fun p => (f0 p).2.2.2.2.2.1; have g6 := fun p => (f0 p).2.2.2.2.2.2
            have j0 := fun p => (f1 p).1; have j1 := fun p => (f1 p).2.1; have j2 := fun p => (f1 p).2.2.1; have j3 := fun p => (f1 p).2.2.2.1; have j4 := fun p => (f1 p).2.2.2.2.1; have j5 := fun p => (f1 p).2.2.2.2.2.1; have j6 := fun p => (f1 p).2.2.2.2.2.2
            have hcs := fun p : WIn (fun W => Below w3.heap.size w3 W) => Calls.cls (C := (fun W => Below w3.heap.size w3 W)) ((rec_Same _ _ _ _ p.w (h0.below (hbw p)) (HY1.out.below (HB3.out.trans (p.ok.mono HB3.out.size))) hokx HOKY.out).mono fun _ _ ⟨hq, hb⟩ => ⟨hq, p.ok.trans (hb.mono p.ok.size)⟩)
            have hlst := fun (h : sameR x y = true) => canon_least hxl HYL.out (by unfold sameR at h; simpa using h)
            obtain ⟨sv, hsv⟩ : ∃ s, sameR x y = s := ⟨_, rfl⟩
            obtain ⟨tx, htx⟩ : ∃ t, x.ttl = t := ⟨_, rfl⟩
            rw [hsv] at hcs hst hlst
            rw [htx] at g1' hcs hst hlst
            rw [HTY.out] at hst hlst
            have HST := Lib.hid hst; have HLS := Lib.hid hlst
            clear f0 f1 hx h0 hokx hst hxl e0 hk1 hk2 hsv htx hbw hlst
            cases sv
            · go_wp2_with fail
              refine wp_region_cls (fun W => Below w3.heap.size w3 W) follows_mixed (by kernel_rfl) hcl ?_
              repeat (go_big_quiet_step (exact hcs _))
              refine wpQuiet_nil ?_
              rintro _ ⟨p, rfl⟩
              have HP := Lib.hid p.ok
              have HE := Lib.hid (show on = onM y (l.take (k + 1)) by rw [HST.out, ← HON.out]; simp)
              clear g0 g1' g2' g3 g4 g5 g6 j0 j1 j2 j3 j4 j5 j6 hcs
              go_wp2
              go_roundg (n - (k + 1))
              case measure => omega
              case rel => exact ⟨_, k + 1, on, rfl, rfl, by go_num, by omega, by omega, HE, Lib.hid (HB3.out.trans (HP.out.mono HB3.out.size))⟩
            · have hle : ty ≤ tx := HLS.out (by simp)
              have hltt : ¬ (tx : Int) < (ty : Int) := by omega
              go_wp2_with fail
              refine wp_region_cls (fun W => Below w3.heap.size w3 W) follows_mixed (by kernel_rfl) hcl ?_
              repeat (go_big_quiet_step (exact hcs _))
              refine wpQuiet_nil ?_
              rintro _ ⟨p, rfl⟩
              have hcl2 : (fun W => Below w3.heap.size w3 W) p.w.drew := p.ok.trans ⟨rfl, rfl, rfl, Nat.le_refl _, fun _ _ => rfl⟩
              clear hcs hle
              cases on
              · by_cases htt : tx = ty
                · subst htt
                  have HE := Lib.hid (show true = onM y (l.take (k + 1)) by rw [HST.out]; simp)
                  go_wp2_with fail
                  refine wp_region_cls (fun W => Below w3.heap.size w3 W) follows_mixed (by kernel_rfl) hcl2 ?_
                  repeat (go_big_quiet_step (fail))
                  refine wpQuiet_nil ?_
                  rintro _ ⟨p2, rfl⟩
                  have hcl3 : (fun W => Below w3.heap.size w3 W) p2.w.drew := p2.ok.trans ⟨rfl, rfl, rfl, Nat.le_refl _, fun _ _ => rfl⟩
                  go_wp2_with fail
                  refine wp_region_cls (fun W => Below w3.heap.size w3 W) follows_mixed (by kernel_rfl) hcl3 ?_
                  repeat (go_big_quiet_step (fail))
                  refine wpQuiet_nil ?_
                  rintro _ ⟨p3, rfl⟩
                  have HP := Lib.hid p3.ok
                  clear g0 g1' g2' g3 g4 g5 g6 j0 j1 j2 j3 j4 j5 j6
                  go_wp2
                  go_roundg (n - (k + 1))
                  case measure => omega
                  case rel => exact ⟨_, k + 1, _, rfl, rfl, by go_num, by omega, by omega, HE, Lib.hid (HB3.out.trans (HP.out.mono HB3.out.size))⟩
                · have hz : ¬ (tx : Int) = (ty : Int) := by omega
                  have hzb : ((tx : Int) == (ty : Int)) = false := by simpa using hz
                  have HE := Lib.hid (show false = onM y (l.take (k + 1)) by rw [HST.out, ← HON.out]; simp [htt])
                  go_wp2_with fail
                  refine wp_region_cls (fun W => Below w3.heap.size w3 W) follows_mixed (by kernel_rfl) hcl2 ?_
                  repeat (go_big_quiet_step (fail))
                  refine wpQuiet_nil ?_
                  rintro _ ⟨p2, rfl⟩
                  have hcl3 : (fun W => Below w3.heap.size w3 W) p2.w.drew := p2.ok.trans ⟨rfl, rfl, rfl, Nat.le_refl _, fun _ _ => rfl⟩
                  go_wp2_with fail
                  refine wp_region_cls (fun W => Below w3.heap.size w3 W) follows_mixed (by kernel_rfl) hcl3 ?_
                  repeat (go_big_quiet_step (fail))
                  refine wpQuiet_nil ?_
                  rintro _ ⟨p3, rfl⟩
                  have HP := Lib.hid p3.ok
                  clear g0 g1' g2' g3 g4 g5 g6 j0 j1 j2 j3 j4 j5 j6
                  go_wp2
                  go_roundg (n - (k + 1))
                  case measure => omega
                  case rel => exact ⟨_, k + 1, _, rfl, rfl, by go_num, by omega, by omega, HE, Lib.hid (HB3.out.trans (HP.out.mono HB3.out.size))⟩
              · have HE := Lib.hid (show true = onM y (l.take (k + 1)) by rw [HST.out, ← HON.out]; simp)
                go_wp2_with fail
                refine wp_region_cls (fun W => Below w3.heap.size w3 W) follows_mixed (by kernel_rfl) hcl2 ?_
                repeat (go_big_quiet_step (fail))
                refine wpQuiet_nil ?_
                rintro _ ⟨p2, rfl⟩
                have hcl3 : (fun W => Below w3.heap.size w3 W) p2.w.drew := p2.ok.trans ⟨rfl, rfl, rfl, Nat.le_refl _, fun _ _ => rfl⟩
                go_wp2_with fail
                refine wp_region_cls (fun W => Below w3.heap.size w3 W) follows_mixed (by kernel_rfl) hcl3 ?_
                repeat (go_big_quiet_step (fail))
                refine wpQuiet_nil ?_
                rintro _ ⟨p3, rfl⟩
                have HP := Lib.hid p3.ok
                clear g0 g1' g2' g3 g4 g5 g6 j0 j1 j2 j3 j4 j5 j6
                go_wp2
                go_roundg (n - (k + 1))
                case measure => omega
                case rel => exact ⟨_, k + 1, _, rfl, rfl, by go_num, by omega, by omega, HE, Lib.hid (HB3.out.trans (HP.out.mono HB3.out.size))⟩
          · obtain rfl : k = n := by omega
            have hon : on = true := by
              rw [HON.out, List.take_of_length_le (by have := HN.out; omega)]
              exact onM_canon HYL.out
            subst hon
            go_wp2
            go_roundg (m - (ip + 1 + 1))
            case measure => omega
            case rel => exact ⟨_, ip + 1 + 1, rfl, by go_num, by omega, by omega, HB3⟩
    · obtain rfl : i = m := by omega
      have hc := KOF.out (.slice a n ca) wr (HROW.out.below (HB_w2.out.trans (HB.out.mono HB_w2.out.size)))
      go_wp2_with fail
      refine hc.mono ?_
      rintro e w20 ⟨x20, rfl, hr, hb⟩
      have HB20 := Lib.hid (HB.out.trans (hb.mono HB.out.size))
      have hc2 := KRC.out x20 w20 hr
      clear hc hr hb
      go_wp2_with fail
      refine hc2.mono ?_
      rintro e w21 ⟨x21, rfl, hr, hb⟩
      have HB21 := Lib.hid (HB20.out.trans (hb.mono HB20.out.size))
      obtain ⟨a21, c21, rfl, -⟩ := hr.shape
      rw [HM.out]
      clear hc2 hr hb
      go_wp2_with fail
      go_ret
      exact ⟨rfl, HB_w2.out.trans (HB21.out.mono HB_w2.out.size)⟩
end Go.Proofs.YtfcdajldpnomfaaGreatDoor

