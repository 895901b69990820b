/-
  Contract of name.readLabels.
-/
import Derived.Test.YtkjmghnbcnbdbaaGreatDoorMQ15
import Derived.Test.YtkjmghnbcnbdbaaGreatDoorMQ38
import Derived.Test.YtkjmghnbcnbdbaaGreatDoorMQ31
import Derived.Lib.ItoaNum
import Derived.Lib.ItoaMem
namespace Go.Proofs.YtkjmghnbcnbdbaaGreatDoor
set_option maxRecDepth 20000
open Go.RowKit Go.Shelf

def ReadNPost (ps : Nm) (w : World) (e : Ending) (w' : World) : Prop := ∃ v', e = .returned (.tuple #[v', .int .i64 (readN ps).2]) ∧ OwnG 9 strV w' w.heap.size v' (readN ps).1 ∧ Below w.heap.size w w'
theorem readN_fin {ps : Nm} {w w' : World} {e : Ending} {v : Value} (l : Nm) (er : Int) (h : readN ps = (l, er)) (he : e = .returned (.tuple #[v, .int .i64 er])) (ho : OwnG 9 strV w' w.heap.size v l) (hw : Below w.heap.size w w') : ReadNPost ps w e w' := by
  unfold ReadNPost; rw [h]; exact ⟨v, he, ho, hw⟩

set_option maxHeartbeats 4000000 in
theorem name_readLabels (v : Value) (ps : Nm) (w : World) (hA : StrsAt w v ps) (hn : ps.length ≤ 1099511627776) (hx : ∀ x ∈ ps, x.length ≤ 1099511627776) :
    Calls Tryz.prog 129 #[v] w (ReadNPost ps w) := by
  obtain ⟨a, c, rfl, _⟩ := id hA
  obtain ⟨n, hnn⟩ : ∃ n, ps.length = n := ⟨_, rfl⟩
  have HN := Lib.hid hnn
  have hAcell := fun W' (hb : Below w.heap.size w W') j hj => hA.cell hb j hj
  rw [hnn] at hn ⊢
  have HA := Lib.hid hA
  clear hA hnn
  go_enter Tryz.func129, Tryz.ntmps129
  go_wp2_with (at_make; refine wpl_make_g (α := List UInt8) (enc := strV) w rfl _ _ elemNm rfl w.heap.size .i64 .i64 _ n rfl rfl rfl (by omega) (by unfold maxLen; omega) (Nat.le_refl _) ?_; intro w0 hown0 hg0; have hB0 : Below w.heap.size w w0 := (Below.refl _ w).grown hg0 (Nat.le_refl _) (by simp))
  go_loopw [4, 14] (fun u i wr => ∃ (k : Nat) (done : Nm), i = .int .i64 k ∧ k ≤ n ∧ done.length = k ∧ OwnG 9 strV wr w.heap.size u done ∧ Below w.heap.size w wr ∧ Hid (readN (ps.take k) = (done, 0))) (fun _ i _ => n - (intOf i).toNat)
  case atStart => exact ⟨0, [], rfl, Nat.zero_le _, rfl, hown0, hB0, Lib.hid rfl⟩
  case round =>
    obtain ⟨k, done, rfl, hk, hdk, hown, hB, HR⟩ := hrel
    have HD := Lib.hid hdk; clear hdk
    obtain ⟨au, cu, rfl⟩ := hown.shape
    generalize hdl : done.length = dl at *
    have HDL := Lib.hid hdl; clear hdl
    by_cases hlt : k < n
    · have hkp : k < ps.length := by rw [HN.out]; exact hlt
      obtain ⟨g, off, rfl, hg, hcell⟩ := hAcell wr hB k hkp
      obtain ⟨s, hs0, hsz, hsv⟩ := str_of ps[k]
      rw [hsv] at hcell
      have hxk := hx ps[k] (List.getElem_mem hkp)
      obtain ⟨⟨l, er⟩, hq⟩ : ∃ q, parseM ps[k] = q := ⟨_, rfl⟩
      have hP : ∀ W, Calls Tryz.prog 130 #[.string s] W fun e w' => e = .returned (.tuple #[.string ⟨l.toArray⟩, .int .i64 er]) ∧ Below W.heap.size W w' := fun W => by
        refine (label_Parse s W (by omega)).mono ?_
        intro e w' h; unfold ParsePost at h; rw [hs0, hq] at h; exact h
      have htk : ps.take (k + 1) = ps.take k ++ [ps[k]] := List.take_succ_eq_append_getElem hkp
      have hrd : readN (ps.take (k + 1)) = if er = 0 then (done ++ [l], 0) else ([], er) := by
        rw [htk, readN_snoc _ _ (by rw [HR.out]), HR.out, hq]
      have hBz := hB.size
      by_cases her : (er != 0) = true
      · have hne : er ≠ 0 := by simpa using her
        have H0 : Hid (readN ps = ([], er)) := Lib.hid (by
          rw [if_neg hne] at hrd
          have := readN_stop (List.take_prefix (k + 1) ps) (by rw [hrd]; exact hne)
          rw [hrd] at this; exact this)
        clear hs0 hsz hsv hxk hq htk hrd hne
        go_wp2_with (go_at_call 130; refine (hP _).mono ?_; rintro e w2 ⟨rfl, hb2⟩)
        go_ret2
        exact readN_fin [] er H0.out rfl (OwnG.nil _ _) (hB.trans (hb2.mono hBz))
      · have her0 : er = 0 := by simpa using her
        subst her0
        have H0 : Hid (readN (ps.take (k + 1)) = (done ++ [l], 0)) := Lib.hid (by rw [hrd, if_pos rfl])
        clear hs0 hsz hsv hxk hq htk hrd her
        have hcl : [Value.string ⟨l.toArray⟩] = [l].map strV := rfl
        have HC := Lib.hid hcl; clear hcl
        generalize (⟨l.toArray⟩ : ByteArray) = sl at *
        go_wp2_with (first | (go_at_call 130; refine (hP _).mono ?_; rintro e w2 ⟨rfl, hb2⟩; have hown2 := hown.below (hb2.mono (Nat.le_refl _)); have hB2 := hB.trans (hb2.mono hBz)) | (at_builtin; refine wpl_append_g w2 rfl (.tmp 26) (.tmp 28) elemNm rfl strV_one w.heap.size (.slice au dl cu) done rfl hown2 [.string sl] [l] HC.out 1 1 rfl rfl hB2.size (by have := HD.out; have := HDL.out; unfold maxLen; simp; omega) (by have := HD.out; have := HDL.out; simp; omega) ?_; intro v3 w3 hown3 hg3; have hB3 : Below w.heap.size w w3 := hB2.grown hg3 hB2.size hown2.base_le))
        go_roundw
        case rel => exact ⟨k + 1, done ++ [l], by go_num, by omega, by have := HD.out; have := HDL.out; simp; omega, hown3, hB3, H0⟩
        case measure => simp [intOf]; omega
    · obtain rfl : k = n := by omega
      have H0 : Hid (readN ps = (done, 0)) := Lib.hid (by rw [← HR.out, List.take_of_length_le (by rw [HN.out]; exact Nat.le_refl _)])
      clear HR
      go_wp2
      go_ret2
      exact readN_fin done 0 H0.out rfl hown hB
end Go.Proofs.YtkjmghnbcnbdbaaGreatDoor

/-
  Contract of name.Parse.
-/
namespace Go.Proofs.YtkjmghnbcnbdbaaGreatDoor
set_option maxRecDepth 20000
open Go.RowKit Go.Shelf

theorem splitM_ne {s : List UInt8} (h : (splitM s).2 = 0) : (splitM s).1 ≠ [] := by
  unfold splitM at h ⊢
  by_cases e : (spRun s).taken = true
  · rw [if_pos e] at h; cases h
  · rw [if_neg e]; simp
theorem splitM_len (s : List UInt8) : (splitM s).1.length ≤ s.length + 1 ∧ ∀ x ∈ (splitM s).1, x.length ≤ s.length := by
  unfold splitM
  by_cases e : (spRun s).taken = true
  · rw [if_pos e]; simp
  · rw [if_neg e]
    have h := (spRun_inv s).2.2
    refine ⟨by simp; omega, ?_⟩
    intro x hx
    simp only [List.mem_append, List.mem_map, List.mem_singleton] at hx
    rcases hx with ⟨p, _, rfl⟩ | rfl
    · unfold piece; simp; omega
    · simp
theorem parseM_len (l : List UInt8) : (parseM l).1.length ≤ l.length := by
  have h : (scan l).1.length ≤ l.length := scanM_len _ l (Nat.le_refl _)
  unfold parseM
  split
  · split
    · exact h
    · simp
  · simp
theorem readN_len {B : Nat} : ∀ (ps : Nm), (∀ p ∈ ps, p.length ≤ B) → (readN ps).1.length ≤ ps.length ∧ ∀ x ∈ (readN ps).1, x.length ≤ B
  | [] => by intro _; simp [readN]
  | p :: r => by
    intro h
    obtain ⟨i1, i2⟩ := readN_len r (fun x hx => h x (by simp [hx]))
    have hp := h p (by simp)
    have hl := parseM_len p
    simp only [readN]
    split
    · split
      · refine ⟨by simpa using i1, ?_⟩
        intro x hx
        rcases List.mem_cons.1 hx with rfl | hx
        · omega
        · exact i2 x hx
      · simp
    · simp
theorem wholeN_eq {ps : Nm} {n : Nat} (hn : ps.length = n + 1) : wholeN ps = decide (ps[n]'(by omega) = []) := by
  unfold wholeN
  rw [List.getLast?_eq_getElem?, show ps.length - 1 = n by omega, List.getElem?_eq_getElem (by omega)]
  simp

def ParseNPost (s : ByteArray) (o : Nm) (w : World) (e : Ending) (w' : World) : Prop := ∃ v', e = .returned (.tuple #[v', .int .i64 (parseN s.data.toList o).2]) ∧ OwnG 9 strV w' w.heap.size v' (parseN s.data.toList o).1 ∧ Below w.heap.size w w'
theorem parseN_fin {s : ByteArray} {o : Nm} {w w' : World} {e : Ending} {v : Value} (l : Nm) (er : Int) (h : parseN s.data.toList o = (l, er)) (he : e = .returned (.tuple #[v, .int .i64 er])) (ho : OwnG 9 strV w' w.heap.size v l) (hw : Below w.heap.size w w') : ParseNPost s o w e w' := by
  unfold ParseNPost; rw [h]; exact ⟨v, he, ho, hw⟩

set_option maxRecDepth 100000 in
set_option maxHeartbeats 4000000 in
theorem name_Parse (s : ByteArray) (v : Value) (o : Nm) (w : World) (hA : StrsAt w v o) (hO : SlOK v) (hs : s.size ≤ 500000) (hk : NmOK o) (ho : o.length ≤ 500000) :
    Calls Tryz.prog 109 #[.string s, v] w (ParseNPost s o w) := by
  obtain ⟨a, c, rfl, _⟩ := id hA
  have hC := clone_Name (.slice a o.length c) o w hA hO (by omega)
  by_cases h1 : s.data.toList = [64]
  · obtain rfl : s = ⟨#[64]⟩ := ba_ext (by rw [h1])
    go_enter Tryz.func109, Tryz.ntmps109
    go_wp2_with (go_at_call 127; refine hC.mono ?_; rintro e w2 ⟨v', rfl, hown, hb⟩)
    go_ret2
    exact parseN_fin o 0 rfl rfl hown hb
  by_cases h2 : s.data.toList = [46]
  · obtain rfl : s = ⟨#[46]⟩ := ba_ext (by rw [h2])
    go_enter Tryz.func109, Tryz.ntmps109
    go_wp2
    go_ret2
    exact parseN_fin [] 0 rfl rfl (OwnG.nil _ _) (Below.refl _ _)
  by_cases h3 : s.data.toList = []
  · obtain rfl : s = ⟨#[]⟩ := ba_ext (by rw [h3])
    go_enter Tryz.func109, Tryz.ntmps109
    go_wp2
    go_ret2
    exact parseN_fin [] 8 rfl rfl (OwnG.nil _ _) (Below.refl _ _)
  have hP : parseN s.data.toList o = if (splitM s.data.toList).2 = 0 then endN (splitM s.data.toList).1 o else ([], (splitM s.data.toList).2) := by
    unfold parseN; rw [if_neg h1, if_neg h2, if_neg h3]
  have e1 : (s.toList == [64]) = false := by rw [toList_data]; simpa using h1
  have e2 : (s.toList == [46]) = false := by rw [toList_data]; simpa using h2
  have e3 : (s.toList == []) = false := by rw [toList_data]; simpa using h3
  have hS := label_Split s w (by omega)
  unfold SplitPost at hS
  obtain ⟨hlen1, hlen2⟩ := splitM_len s.data.toList
  have hne := splitM_ne (s := s.data.toList)
  rw [size_data] at hlen1 hlen2
  obtain ⟨⟨ps, er⟩, hq⟩ : ∃ q, splitM s.data.toList = q := ⟨_, rfl⟩
  rw [hq] at hP hS hlen1 hlen2 hne
  have HP := Lib.hid hP
  have HNE := Lib.hid hne
  clear hP hq h1 h2 h3 hC hne
  simp only at hlen1 hlen2 hS
  go_enter Tryz.func109, Tryz.ntmps109
  go_wp2_with fail
  refine hS.mono ?_
  rintro e w1 ⟨v1, rfl, hown1, hb1⟩
  by_cases her : (er != 0) = true
  · have H0 : Hid (parseN s.data.toList o = ([], er)) := Lib.hid (by rw [HP.out, if_neg (by simpa using her)])
    clear HP hS
    go_wp2
    go_ret2
    exact parseN_fin [] er H0.out rfl (OwnG.nil _ _) hb1
  have her0 : er = 0 := by simpa using her
  subst her0
  have HPE : Hid (parseN s.data.toList o = endN ps o) := Lib.hid (by rw [HP.out, if_pos rfl])
  have hpne : ps ≠ [] := HNE.out rfl
  obtain ⟨n, hn⟩ : ∃ n, ps.length = n + 1 := ⟨ps.length - 1, by cases ps with | nil => exact absurd rfl hpne | cons x r => simp⟩
  have hok1 := hown1.slOK
  obtain ⟨a1, c1, rfl⟩ := hown1.shape
  obtain ⟨g, rfl, hgb, hglt, hcells⟩ := hown1.cells hpne
  have hat1 := StrsAt.of_own hown1
  obtain ⟨a9, n9, c9, e9, hcap1, _⟩ := hok1
  cases e9
  have hlast := hcells n (by omega)
  have hwN := wholeN_eq hn
  obtain ⟨pl, hpl⟩ : ∃ pl, ps[n]'(by omega) = pl := ⟨_, rfl⟩
  rw [hpl] at hlast hwN
  clear hpl
  obtain ⟨sl, hsl0, hslz, hslv⟩ := str_of pl
  rw [hslv] at hlast
  have hat2 := strs_take hat1 n (by omega) c1
  rw [hn] at hat1 hcap1 ⊢
  have HNN := Lib.hid hn
  have hnb : n ≤ 500000 := by omega
  clear hcells hown1 HP hS hn her
  by_cases hwh : pl = []
  · have hw : wholeN ps = true := by rw [hwN]; exact decide_eq_true hwh
    have hpn : partsN ps = ps.take n := by unfold partsN; rw [hw, if_pos rfl, List.dropLast_eq_take, HNN.out]; rfl
    have e4 : (sl.toList == []) = true := by rw [toList_data, hsl0, hwh]; rfl
    have hPV := hat2
    clear hsl0 hslz hslv hwh hwN hat1 hat2
    have hRL0 := name_readLabels (.slice (some ⟨g, 0, none⟩) n c1) (ps.take n) w1 hPV (by simp; omega) (fun x hx => by have := hlen2 x (List.mem_of_mem_take hx); omega)
    obtain ⟨⟨rs, e2⟩, hq2⟩ : ∃ q, readN (ps.take n) = q := ⟨_, rfl⟩
    have hRL : Calls Tryz.prog 129 #[(.slice (some ⟨g, 0, none⟩) n c1)] w1 fun e w' => ∃ v', e = .returned (.tuple #[v', .int .i64 e2]) ∧ OwnG 9 strV w' w1.heap.size v' rs ∧ Below w1.heap.size w1 w' := by
      refine hRL0.mono ?_
      intro e w' h; unfold ReadNPost at h; rw [hq2] at h; exact h
    obtain ⟨hr1, hr2⟩ := readN_len (B := s.size) (ps.take n) (fun x hx => hlen2 x (List.mem_of_mem_take hx))
    rw [hq2] at hr1 hr2
    simp only at hr1 hr2
    have h5 : (ps.take n).length ≤ ps.length := by simp; omega
    have hr3 : rs.length ≤ 500001 := by omega
    have hE : endN ps o = if e2 = 0 then (if checkN rs = 0 then (rs, 0) else ([], checkN rs)) else ([], e2) := by
      unfold endN; rw [hpn, hw]; simp only [if_true]; rw [hq2]
    have hall : NmOK rs := ⟨by omega, fun x hx => by have := hr2 x hx; omega⟩
    clear hRL0 hr1 hr2
    by_cases her2 : (e2 != 0) = true
    · have H0 : Hid (parseN s.data.toList o = ([], e2)) := Lib.hid (by rw [HPE.out, hE, if_neg (by simpa using her2)])
      clear hE hq2 hw hpn
      go_wp2_with (go_at_call 129; refine hRL.mono ?_; rintro e w2 ⟨v2, rfl, hown2, hb2⟩; have hB2 : Below w.heap.size w w2 := hb1.trans (hb2.mono hb1.size); have hown2' := hown2.weaken hb1.size)
      go_ret2
      exact parseN_fin [] e2 H0.out rfl (OwnG.nil _ _) hB2
    have her20 : e2 = 0 := by simpa using her2
    subst her20
    obtain ⟨q, hcq⟩ : ∃ q, checkN rs = q := ⟨_, rfl⟩
    have hCk := fun W v2 (h : OwnG 9 strV W w.heap.size v2 rs) => name_Check v2 rs W (StrsAt.of_own h) hall
    rw [hcq] at hE hCk
    rw [if_pos rfl] at hE
    by_cases hq0 : (q != 0) = true
    · have H0 : Hid (parseN s.data.toList o = ([], q)) := Lib.hid (by rw [HPE.out, hE, if_neg (by simpa using hq0)])
      clear hE hq2 hcq her2 hw hpn
      go_wp2_with (first | (go_at_call 129; refine hRL.mono ?_; rintro e w2 ⟨v2, rfl, hown2, hb2⟩; have hB2 : Below w.heap.size w w2 := hb1.trans (hb2.mono hb1.size); have hown2' := hown2.weaken hb1.size) | (go_at_call 26; refine (hCk _ _ hown2').mono ?_; rintro e w4 ⟨rfl, hb4⟩))
      go_ret2
      exact parseN_fin [] q H0.out rfl (OwnG.nil _ _) (hB2.trans (hb4.mono hB2.size))
    · have hq1 : (q != 0) = false := by simpa using hq0
      have H0 : Hid (parseN s.data.toList o = (rs, 0)) := Lib.hid (by rw [HPE.out, hE, if_pos (by simpa using hq1)])
      clear hE hq2 hcq her2 hq0 hw hpn
      go_wp2_with (first | (go_at_call 129; refine hRL.mono ?_; rintro e w2 ⟨v2, rfl, hown2, hb2⟩; have hB2 : Below w.heap.size w w2 := hb1.trans (hb2.mono hb1.size); have hown2' := hown2.weaken hb1.size) | (go_at_call 26; refine (hCk _ _ hown2').mono ?_; rintro e w4 ⟨rfl, hb4⟩))
      go_ret2
      exact parseN_fin rs 0 H0.out rfl (hown2'.below hb4) (hB2.trans (hb4.mono hB2.size))
  · have hw : wholeN ps = false := by rw [hwN]; exact decide_eq_false hwh
    have hpn : partsN ps = ps := by unfold partsN; rw [hw]; rfl
    have e4 : (sl.toList == []) = false := by rw [toList_data, hsl0]; simpa using hwh
    have hPV := hat1
    have hn := HNN.out
    clear hsl0 hslz hslv hwh hwN hat1 hat2
    have hRL0 := name_readLabels (.slice (some ⟨g, 0, none⟩) (n + 1) c1) ps w1 hPV (by omega) (fun x hx => by have := hlen2 x hx; omega)
    obtain ⟨⟨rs, e2⟩, hq2⟩ : ∃ q, readN ps = q := ⟨_, rfl⟩
    have hRL : Calls Tryz.prog 129 #[(.slice (some ⟨g, 0, none⟩) (n + 1) c1)] w1 fun e w' => ∃ v', e = .returned (.tuple #[v', .int .i64 e2]) ∧ OwnG 9 strV w' w1.heap.size v' rs ∧ Below w1.heap.size w1 w' := by
      refine hRL0.mono ?_
      intro e w' h; unfold ReadNPost at h; rw [hq2] at h; exact h
    obtain ⟨hr1, hr2⟩ := readN_len (B := s.size) ps (fun x hx => hlen2 x hx)
    rw [hq2] at hr1 hr2
    simp only at hr1 hr2
    have hr3 : rs.length ≤ 500001 := by omega
    have hE : endN ps o = if e2 = 0 then (if checkN (rs ++ o) = 0 then ((rs ++ o), 0) else ([], checkN (rs ++ o))) else ([], e2) := by
      unfold endN; rw [hpn, hw]; simp only [Bool.false_eq_true, if_false]; rw [hq2]
    have hall : NmOK (rs ++ o) := ⟨by rw [List.length_append]; omega, fun x hx => by rcases List.mem_append.1 hx with h | h; (have := hr2 x h; omega); exact hk.2 x h⟩
    clear hRL0 hr1 hr2
    by_cases her2 : (e2 != 0) = true
    · have H0 : Hid (parseN s.data.toList o = ([], e2)) := Lib.hid (by rw [HPE.out, hE, if_neg (by simpa using her2)])
      clear hE hq2 hw hpn
      go_wp2_with (go_at_call 129; refine hRL.mono ?_; rintro e w2 ⟨v2, rfl, hown2, hb2⟩; have hB2 : Below w.heap.size w w2 := hb1.trans (hb2.mono hb1.size); have hown2' := hown2.weaken hb1.size)
      go_ret2
      exact parseN_fin [] e2 H0.out rfl (OwnG.nil _ _) hB2
    have her20 : e2 = 0 := by simpa using her2
    subst her20
    obtain ⟨q, hcq⟩ : ∃ q, checkN (rs ++ o) = q := ⟨_, rfl⟩
    have hCk := fun W v2 (h : OwnG 9 strV W w.heap.size v2 (rs ++ o)) => name_Check v2 (rs ++ o) W (StrsAt.of_own h) hall
    rw [hcq] at hE hCk
    rw [if_pos rfl] at hE
    by_cases hq0 : (q != 0) = true
    · have H0 : Hid (parseN s.data.toList o = ([], q)) := Lib.hid (by rw [HPE.out, hE, if_neg (by simpa using hq0)])
      clear hE hq2 hcq her2 hw hpn
      go_wp2_with (first | (go_at_call 129; refine hRL.mono ?_; rintro e w2 ⟨v2, rfl, hown2, hb2⟩; have hB2 : Below w.heap.size w w2 := hb1.trans (hb2.mono hb1.size); have hown2' := hown2.weaken hb1.size) | (at_builtin; refine wpl_append_s w2 rfl (.tmp 51) (.tmp 52) elemNm rfl w.heap.size v2 rs rfl hown2' (.slice a o.length c) o rfl (hA.below hB2) hO hB2.size (by unfold maxLen; omega) (by omega) ?_; intro v3 w3 hown3 hg3; have hB3 : Below w.heap.size w w3 := hB2.grown hg3 hB2.size hown2'.base_le) | (go_at_call 26; refine (hCk _ _ hown3).mono ?_; rintro e w4 ⟨rfl, hb4⟩))
      go_ret2
      exact parseN_fin [] q H0.out rfl (OwnG.nil _ _) (hB3.trans (hb4.mono hB3.size))
    · have hq1 : (q != 0) = false := by simpa using hq0
      have H0 : Hid (parseN s.data.toList o = ((rs ++ o), 0)) := Lib.hid (by rw [HPE.out, hE, if_pos (by simpa using hq1)])
      clear hE hq2 hcq her2 hq0 hw hpn
      go_wp2_with (first | (go_at_call 129; refine hRL.mono ?_; rintro e w2 ⟨v2, rfl, hown2, hb2⟩; have hB2 : Below w.heap.size w w2 := hb1.trans (hb2.mono hb1.size); have hown2' := hown2.weaken hb1.size) | (at_builtin; refine wpl_append_s w2 rfl (.tmp 51) (.tmp 52) elemNm rfl w.heap.size v2 rs rfl hown2' (.slice a o.length c) o rfl (hA.below hB2) hO hB2.size (by unfold maxLen; omega) (by omega) ?_; intro v3 w3 hown3 hg3; have hB3 : Below w.heap.size w w3 := hB2.grown hg3 hB2.size hown2'.base_le) | (go_at_call 26; refine (hCk _ _ hown3).mono ?_; rintro e w4 ⟨rfl, hb4⟩))
      go_ret2
      exact parseN_fin (rs ++ o) 0 H0.out rfl (hown3.below hb4) (hB3.trans (hb4.mono hB3.size))
end Go.Proofs.YtkjmghnbcnbdbaaGreatDoor

/-
  Contract of name.Compare.
-/
namespace Go.Proofs.YtkjmghnbcnbdbaaGreatDoor
set_option maxRecDepth 20000
open Go.RowKit Go.Shelf

section
attribute [local go_sem] Oper.semAt_some
set_option maxRecDepth 100000 in
set_option maxHeartbeats 4000000 in
theorem name_Compare (v u : Value) (xs ys : Nm) (w : World) (hA : StrsAt w v xs) (hU : StrsAt w u ys) (hk : NmOK xs) (hk2 : NmOK ys) :
    Calls Tryz.prog 46 #[v, u] w fun e w' => e = .returned (.int .i64 (compareN xs ys)) ∧ Below w.heap.size w w' := by
  obtain ⟨a, c, rfl, _⟩ := id hA
  obtain ⟨a2, c2, rfl, _⟩ := id hU
  have hl1 := hk.1
  have hl2 := hk2.1
  refine (callsIn_wide (n := 5)).1 ?_
  refine callsIn_of_wp_marks Tryz.func46 rfl trivial ?_ rfl
  simp only [Tryz.ntmps46, List.size_toArray, List.length_cons, List.length_nil, Nat.reduceAdd, Nat.reduceSub, Array.replicate_succ, Array.replicate_zero, List.push_toArray, List.append_toArray, List.nil_append, List.cons_append]
  gi_wp2_with (refine ⟨trivial, ?_⟩; gi_at_call 75; refine (callsIn_wide.2 (name_upward _ _ _ _)).mono ?_; rintro e w' ⟨rfl, rfl⟩)
  obtain ⟨W0, hW0⟩ : ∃ W0, ((((w.alloc (.cells #[.slice a xs.length c] 42)).alloc (.cells #[.slice a2 ys.length c2] 42)).alloc (.cells #[.int .i64 0] 3)).alloc (.cells #[.slice a xs.length c] 42)) = W0 := ⟨_, rfl⟩
  have bA : Boxed W0 w.heap.size 42 (.slice a xs.length c) := by rw [← hW0]; exact (((Boxed.new w _ _).alloc _).alloc _).alloc _
  have bB : Boxed W0 (w.heap.size + 1) 42 (.slice a2 ys.length c2) := by
    have := Boxed.new (w.alloc (.cells #[.slice a xs.length c] 42)) 42 (.slice a2 ys.length c2)
    rw [World.size_alloc] at this
    rw [← hW0]; exact (this.alloc _).alloc _
  have bI : Boxed W0 (w.heap.size + 1 + 1) 3 (.int .i64 0) := by
    have := Boxed.new ((w.alloc (.cells #[.slice a xs.length c] 42)).alloc (.cells #[.slice a2 ys.length c2] 42)) 3 (.int .i64 0)
    rw [World.size_alloc, World.size_alloc] at this
    rw [← hW0]; exact this.alloc _
  have bV : Boxed W0 (w.heap.size + 1 + 1 + 1) 42 (.slice a xs.length c) := by
    have := Boxed.new (((w.alloc (.cells #[.slice a xs.length c] 42)).alloc (.cells #[.slice a2 ys.length c2] 42)).alloc (.cells #[.int .i64 0] 3)) 42 (.slice a xs.length c)
    rw [World.size_alloc, World.size_alloc, World.size_alloc] at this
    rw [← hW0]; exact this
  have hsz : W0.heap.size = w.heap.size + 4 := by rw [← hW0]; simp
  have hB0 : Below w.heap.size w W0 := by rw [← hW0]; exact ((((Below.refl _ w).alloc (Nat.le_refl _) _).alloc (by simp) _).alloc (by simp; omega) _).alloc (by simp; omega) _
  have hrow := hA.row_lt
  rw [hW0]
  have HZ := Lib.hid hsz; clear hsz hW0
  refine wpIn_rangeFunc_ownG rfl (by omega) (gf := 100) (lb := #[.pointer (some ⟨w.heap.size + 1 + 1 + 1, 0, none⟩)]) rfl trivial (enters_of Tryz.func100 (by kernel_rfl) rfl)
    (upward_stops _ (by omega) (w.heap.size + 1 + 1 + 1) (.slice a xs.length c) xs (by unfold maxLen; omega) W0 (by rw [HZ.out]; omega) bV.cell (hA.below hB0)) keepN_t (keepN_b (by rw [HZ.out]; omega) (fun g e => by have := hrow g e; rw [HZ.out]; omega)) (Below.refl _ _) (fun _ => rfl)
    (fun pre W => Boxed W w.heap.size 42 (.slice a xs.length c) ∧ Boxed W (w.heap.size + 1) 42 (.slice a2 ys.length c2) ∧ Boxed W (w.heap.size + 1 + 1) 3 (.int .i64 0) ∧ Below w.heap.size w W ∧ ∀ j ∈ pre, AlikeAt xs ys j)
    (fun k pre W => Boxed W w.heap.size 42 (.slice a xs.length c) ∧ Boxed W (w.heap.size + 1) 42 (.slice a2 ys.length c2) ∧ Below w.heap.size w W ∧ ∃ p x, pre = p ++ [x] ∧ (∀ j ∈ p, AlikeAt xs ys j) ∧
      ((k = .exit 0 ∧ ¬ xs.length ≤ x.val + ys.length ∧ Boxed W (w.heap.size + 1 + 1) 3 (.int .i64 0)) ∨ (k = .ret ∧ ∃ d, ∃ h : d < ys.length, x.val + ys.length = d + xs.length ∧ compareM xs[x] ys[d] ≠ 0 ∧ Boxed W (w.heap.size + 1 + 1) 3 (.int .i64 (compareM xs[x] ys[d])))))
    (OwnFrom.and (Own.from (boxed_own _ _ _) _) (OwnFrom.and (Own.from (boxed_own _ _ _) _) (OwnFrom.and (Own.from (boxed_own _ _ _) _) (OwnFrom.and (ownFrom_below (Nat.le_refl _) (by rw [HZ.out]; omega)) (ownFrom_pure _ _)))))
    ?hix
    ⟨bA, bB, bI, hB0, by simp⟩
    (fun j => { tmps := #[.slice a xs.length c, .slice a2 ys.length c2, .pointer (some ⟨w.heap.size, 0, none⟩), .pointer (some ⟨w.heap.size + 1, 0, none⟩), .pointer (some ⟨w.heap.size + 1 + 1, 0, none⟩), .int .i64 (j.val : Int), .string ⟨xs[j].toArray⟩, undef, undef, .slice a xs.length c, .func (.func 100) #[] #[.pointer (some ⟨w.heap.size + 1 + 1 + 1, 0, none⟩)], .int .i64 (j.val : Int), .string ⟨xs[j].toArray⟩, undef, undef, undef, undef, undef, undef, undef, undef, undef, undef, undef, undef, undef, undef, undef, undef, undef, undef, undef, undef, undef, undef, undef], defers := [] }) ?assign ?body ?done ?stop
  case hix =>
    intro k pre W W' row hs hg hr
    obtain ⟨h1, h2, h3, p, x, e, h4, h5⟩ := hs
    have hO : ∀ {B : Nat} {t : TypeId} {v : Value}, Boxed W B t v → Boxed W' B t v := fun hb => Own.from (boxed_own _ _ (fun _ : Unit => _)) _ () W W' row hb hg hr
    refine ⟨hO h1, hO h2, ownFrom_below (β := Unit) (Nat.le_refl _) (by rw [HZ.out]; omega) () W W' row h3 hg hr, p, x, e, h4, ?_⟩
    rcases h5 with ⟨a1, a2, a3⟩ | ⟨a1, d, h, a2, a3, a4⟩
    · exact .inl ⟨a1, a2, hO a3⟩
    · exact .inr ⟨a1, d, h, a2, a3, hO a4⟩
  case assign =>
    intro l x W K hK
    unfold idxV strV
    gi_wp2
    exact hK
  case body =>
    rintro l pre x W ⟨hN, hM, hI, hB, hC⟩ hlt
    have cn := hN.cell
    have cm := hM.cell
    have c0 := hI.cell; have f0 := hI.frozen
    have hxi : x.val < xs.length := x.isLt
    by_cases hge : xs.length ≤ x.val + ys.length
    · obtain ⟨d, hd⟩ : ∃ d, x.val + ys.length = d + xs.length := ⟨x.val + ys.length - xs.length, by omega⟩
      have hdy : d < ys.length := by omega
      have hde : x.val + ys.length - xs.length = d := by omega
      obtain ⟨g, off, rfl, hg, hcell⟩ := hU.cell hB d hdy
      have hz1 : ys[d].length ≤ 1048576 := hk2.get d hdy
      have hx1 : xs[x].length ≤ 1048576 := hk.get x.val hxi
      obtain ⟨sx, hsx0, hsxz, hsxv⟩ := str_of xs[x]
      obtain ⟨sy, hsy0, hsyz, hsyv⟩ := str_of ys[d]
      have hS := fun W => label_Compare sx sy W (by unfold maxLen; omega) (by unfold maxLen; omega)
      rw [hsx0, hsy0] at hS
      rw [str_at hsxv]
      rw [hsyv] at hcell
      have hsub : (x.val : Int) + (ys.length : Int) - (xs.length : Int) = (d : Int) := by omega
      generalize hq : compareM xs[x] ys[d] = q at *
      have HQ := Lib.hid hq
      clear hsx0 hsxz hsxv hsy0 hsyz hsyv hx1 hz1 hq hde
      by_cases hq0 : (q != 0) = true
      · have hn : q ≠ 0 := by simpa using hq0
        have HN := Lib.hid hn; clear hn
        gi_wp2_with (refine ⟨trivial, ?_⟩; gi_at_call 76; refine (CallsIn.inRound l (callsIn_wide.2 (hS _))).mono ?_; rintro e w' ⟨rfl, n, rfl⟩)
        refine ⟨((keepsOthers_drewN _ _).trans (KeepsOthers.setCell _ _ _)).from _, hN.other (by omega) _, hM.other (by omega) _, (below_drewQ hB _).setCell (p := ⟨w.heap.size + 1 + 1, 0, none⟩) (by simp; omega) _, pre, x, rfl, hC, .inr ⟨rfl, d, hdy, hd, by rw [HQ.out]; exact HN.out, ?_⟩⟩
        rw [HQ.out]; exact Boxed.set _ (show Boxed (W.drewN n) (w.heap.size + 1 + 1) 3 (.int .i64 0) from hI)
      · have hn : (q != 0) = false := by simpa using hq0
        have hn0 : q = 0 := by simpa using hn
        have HN := Lib.hid hn0; clear hn0 hq0
        gi_wp2_with (refine ⟨trivial, ?_⟩; gi_at_call 76; refine (CallsIn.inRound l (callsIn_wide.2 (hS _))).mono ?_; rintro e w' ⟨rfl, n, rfl⟩)
        refine ⟨(keepsOthers_drewN _ _).from _, KeepN.drewN _ _, hN, hM, hI, below_drewQ hB _, ?_⟩
        intro j hj
        rcases List.mem_append.1 hj with hj | hj
        · exact hC j hj
        · obtain rfl := List.mem_singleton.1 hj; exact ⟨d, hdy, hd, by rw [HQ.out]; exact HN.out⟩
    · have hneg : (x.val : Int) + (ys.length : Int) - (xs.length : Int) < 0 := by omega
      gi_wp2
      exact ⟨(KeepsOthers.refl _).from _, hN, hM, hB, pre, x, rfl, hC, .inl ⟨rfl, hge, hI⟩⟩
  case done =>
    rintro D zs W hD rfl ⟨hN, hM, hI, hB, hC⟩ hK
    have cn := hN.cell
    have cm := hM.cell
    have c0 := hI.cell; have f0 := hI.frozen
    have hDn : w.heap.size + 1 + 1 ≠ D := by have := HZ.out; omega
    have hE : compareN xs ys = cmpI xs.length ys.length := compareN_even (fun j h1 h2 => (hC ⟨j, h1⟩ (by simp)).eq.2 (by omega))
    have HE := Lib.hid hE; clear hE hC
    gi_wp2_with (refine ⟨trivial, ?_⟩; gi_at_call 44; refine (callsIn_wide.2 (cmp_int _ _ _)).mono ?_; rintro e w' ⟨rfl, rfl⟩)
    refine ⟨by simp, .inl ⟨_, _, rfl, run_takeDeferred (heap_setOther hK hDn.symm _), ?_⟩⟩
    refine ⟨_, results_cell rfl Tryz.underlying3 _ _ rfl (out_cell (hI.set _) hDn _), by rw [HE.out], ?_⟩
    exact below_putO (hB.setCell (p := ⟨w.heap.size + 1 + 1, 0, none⟩) (by simp; omega) _) (by have := HZ.out; omega) (Nat.le_refl _)
  case stop =>
    rintro D k pre W hD hp ⟨hN, hM, hB, p, x, rfl, hp0, hor⟩ hK
    have cn := hN.cell
    have cm := hM.cell
    have hDn : w.heap.size + 1 + 1 ≠ D := by have := HZ.out; omega
    obtain ⟨_, hall⟩ := rev_prefix hp
    rcases hor with ⟨rfl, hx, hI⟩ | ⟨rfl, d, hd, he, hne, hI⟩
    · have c0 := hI.cell; have f0 := hI.frozen
      have hE : compareN xs ys = cmpI xs.length ys.length := compareN_even (fun j h1 h2 => (hp0 ⟨j, h1⟩ (hall _ (by show x.val < j; omega))).eq.2 (by omega))
      have HE := Lib.hid hE; clear hE hall hp0 hx
      gi_wp2_with (refine ⟨trivial, ?_⟩; gi_at_call 44; refine (callsIn_wide.2 (cmp_int _ _ _)).mono ?_; rintro e w' ⟨rfl, rfl⟩)
      refine ⟨by simp, .inl ⟨_, _, rfl, run_takeDeferred (heap_setOther hK hDn.symm _), ?_⟩⟩
      refine ⟨_, results_cell rfl Tryz.underlying3 _ _ rfl (out_cell (hI.set _) hDn _), by rw [HE.out], ?_⟩
      exact below_putO (hB.setCell (p := ⟨w.heap.size + 1 + 1, 0, none⟩) (by simp; omega) _) (by have := HZ.out; omega) (Nat.le_refl _)
    · have c0 := hI.cell; have f0 := hI.frozen
      have hE : compareN xs ys = compareM xs[x] ys[d] := by
        obtain rfl : d = x.val + ys.length - xs.length := by omega
        exact compareN_at x.val x.isLt (by omega) hne (fun j h1 h2 h3 => (hp0 ⟨j, h1⟩ (hall _ h3)).eq.2 (by omega))
      have HE := Lib.hid hE; clear hE hall hp0
      gi_wp2
      refine ⟨by simp, .inl ⟨_, _, rfl, run_takeDeferred hK, ?_⟩⟩
      refine ⟨_, results_cell rfl Tryz.underlying3 _ _ rfl (out_cell hI hDn _), by rw [HE.out], ?_⟩
      exact below_putO hB (by have := HZ.out; omega) (Nat.le_refl _)
end
end Go.Proofs.YtkjmghnbcnbdbaaGreatDoor

/-
  Plain facts for types and numbers: digits, decimals read and written, letters great and small, the names of types.
-/
namespace Go.Proofs.YtkjmghnbcnbdbaaGreatDoor
set_option maxRecDepth 20000
open Go.RowKit Go.Shelf


/-! ### decimals -/
def valL (l : List UInt8) : Nat := l.foldl (fun n c => 10 * n + (c.toNat - 48)) 0
theorem valL_snoc (l : List UInt8) (c : UInt8) : valL (l ++ [c]) = 10 * valL l + (c.toNat - 48) := by simp [valL]
theorem foldl_ge (l : List UInt8) : ∀ n, n ≤ l.foldl (fun n c => 10 * n + (c.toNat - 48)) n := by
  induction l with
  | nil => intro n; simp
  | cons c l ih => intro n; simp only [List.foldl_cons]; exact Nat.le_trans (by omega) (ih _)
theorem valL_prefix {p l : List UInt8} (h : p <+: l) : valL p ≤ valL l := by
  obtain ⟨r, rfl⟩ := h; unfold valL; rw [List.foldl_append]; exact foldl_ge _ _
def allDigits (l : List UInt8) : Bool := l.all digitU
def formN (l : List UInt8) : Bool := (!l.isEmpty && allDigits l) && !(decide (1 < l.length) && decide (l.head? = some 48))
/-- A decimal without leading noughts, at most so much. -/
def numM (l : List UInt8) (most : Nat) : Nat × Int := if formN l then (if valL l ≤ most then (valL l, 0) else (0, 7)) else (0, 2)

theorem digitU_iff (c : UInt8) : digitU c = true ↔ 48 ≤ c.toNat ∧ c.toNat ≤ 57 := by unfold digitU; simp
theorem digitU_of (d : Nat) (h : d < 10) : digitU (UInt8.ofNat (48 + d)) = true := by
  rw [digitU_iff]; have : (UInt8.ofNat (48 + d)).toNat = 48 + d := by simp; omega
  omega
theorem ofNat_val (d : Nat) (h : d < 10) : (UInt8.ofNat (48 + d)).toNat - 48 = d := by
  have : (UInt8.ofNat (48 + d)).toNat = 48 + d := by simp; omega
  omega
theorem dec_facts : ∀ (u : Nat), allDigits (Lib.decDigits u) = true ∧ valL (Lib.decDigits u) = u ∧ Lib.decDigits u ≠ [] ∧ (1 < (Lib.decDigits u).length → (Lib.decDigits u).head? ≠ some 48) ∧ (0 < u → (Lib.decDigits u).head? ≠ some 48) := by
  intro u
  induction u using Nat.strongRecOn with
  | ind u ih =>
    rw [Lib.decDigits]
    by_cases h : u < 10
    · rw [dif_pos h]
      refine ⟨by simp only [allDigits, List.all_cons, List.all_nil, Bool.and_true]; exact digitU_of u h, by simp only [valL, List.foldl_cons, List.foldl_nil]; rw [ofNat_val u h]; omega, by simp, by simp, ?_⟩
      intro h0 e
      simp only [List.head?_cons, Option.some.injEq] at e
      have := congrArg UInt8.toNat e
      simp at this; omega
    · rw [dif_neg h]
      obtain ⟨h1, h2, h3, h4, h5⟩ := ih (u / 10) (by omega)
      have hm : u % 10 < 10 := Nat.mod_lt _ (by omega)
      have hh : (Lib.decDigits (u / 10) ++ [UInt8.ofNat (48 + u % 10)]).head? = (Lib.decDigits (u / 10)).head? := by
        cases hd : Lib.decDigits (u / 10) with
        | nil => exact absurd hd h3
        | cons a b => rfl
      refine ⟨?_, ?_, by simp, fun _ => by rw [hh]; exact h5 (by omega), fun _ => by rw [hh]; exact h5 (by omega)⟩
      · unfold allDigits at *; rw [List.all_append, h1]; simp only [List.all_cons, List.all_nil, Bool.and_true, Bool.true_and]; exact digitU_of _ hm
      · rw [valL_snoc, h2, ofNat_val _ hm]; omega
theorem numM_dec (u most : Nat) (h : u ≤ most) : numM (Lib.decDigits u) most = (u, 0) := by
  obtain ⟨h1, h2, h3, h4, _⟩ := dec_facts u
  have hf : formN (Lib.decDigits u) = true := by
    unfold formN
    rw [h1]
    have : (Lib.decDigits u).isEmpty = false := by cases hd : Lib.decDigits u with
      | nil => exact absurd hd h3
      | cons a b => rfl
    rw [this]
    by_cases hl : 1 < (Lib.decDigits u).length
    · have := h4 hl; simp [this]
    · simp [hl]
  unfold numM; rw [hf, if_pos rfl, h2, if_pos h]

/-! ### letters -/
def greatU (c : UInt8) : UInt8 := if 97 ≤ c.toNat ∧ c.toNat ≤ 122 then c - 32 else c
def greatL (l : List UInt8) : List UInt8 := l.map greatU
theorem greatU_hi (c : UInt8) (h1 : 97 ≤ (c.toNat : Int)) (h2 : (c.toNat : Int) ≤ 122) : (c.toNat : Int) - 97 + 65 = ((greatU c).toNat : Int) := by
  unfold greatU; rw [if_pos ⟨by omega, by omega⟩, UInt8.toNat_sub]; simp; omega
theorem greatU_nat (c : UInt8) : (greatU c).toNat = if 97 ≤ c.toNat ∧ c.toNat ≤ 122 then c.toNat - 32 else c.toNat := by
  unfold greatU
  by_cases h : 97 ≤ c.toNat ∧ c.toNat ≤ 122
  · rw [if_pos h, if_pos h, UInt8.toNat_sub]; simp; omega
  · rw [if_neg h, if_neg h]
theorem smallU_nat (c : UInt8) : (smallU c).toNat = if 65 ≤ c.toNat ∧ c.toNat ≤ 90 then c.toNat + 32 else c.toNat := by
  unfold smallU
  by_cases h : 65 ≤ c.toNat ∧ c.toNat ≤ 90
  · rw [if_pos h, if_pos h, UInt8.toNat_add]; simp; omega
  · rw [if_neg h, if_neg h]
theorem great_small (c : UInt8) : greatU (smallU c) = greatU c := by
  apply UInt8.toNat.inj; rw [greatU_nat, greatU_nat, smallU_nat]; repeat' split
  all_goals omega
theorem small_great (c : UInt8) : smallU (greatU c) = smallU c := by
  apply UInt8.toNat.inj; rw [smallU_nat, smallU_nat, greatU_nat]; repeat' split
  all_goals omega
theorem greatL_fold (l : List UInt8) : greatL (foldL l) = greatL l := by unfold greatL foldL; rw [List.map_map]; exact List.map_congr_left fun c _ => great_small c
theorem foldL_great (l : List UInt8) : foldL (greatL l) = foldL l := by unfold greatL foldL; rw [List.map_map]; exact List.map_congr_left fun c _ => small_great c
theorem digit_great (c : UInt8) : digitU (greatU c) = digitU c ∧ (digitU c = true → greatU c = c) := by
  refine ⟨?_, ?_⟩
  · rw [Bool.eq_iff_iff, digitU_iff, digitU_iff, greatU_nat]; split <;> omega
  · intro h; rw [digitU_iff] at h; unfold greatU; rw [if_neg (by omega)]
theorem digit_small (c : UInt8) : digitU (smallU c) = digitU c ∧ (digitU c = true → smallU c = c) := by
  refine ⟨?_, ?_⟩
  · rw [Bool.eq_iff_iff, digitU_iff, digitU_iff, smallU_nat]; split <;> omega
  · intro h; rw [digitU_iff] at h; unfold smallU; rw [if_neg (by omega)]
theorem numM_map (f : UInt8 → UInt8) (hf : ∀ c, digitU (f c) = digitU c ∧ (digitU c = true → f c = c)) (l : List UInt8) (most : Nat) : numM (l.map f) most = numM l most := by
  by_cases h : allDigits l = true
  · have : l.map f = l := by
      conv => rhs; rw [← List.map_id l]
      apply List.map_congr_left
      intro c hc; exact (hf c).2 (List.all_eq_true.1 h c hc)
    rw [this]
  · have h1 : formN l = false := by unfold formN; simp only [Bool.not_eq_true] at h; rw [h]; simp
    have h2 : allDigits (l.map f) = false := by
      simp only [Bool.not_eq_true] at h
      rw [← h]; unfold allDigits; rw [List.all_map]; congr 1; funext c; exact (hf c).1
    have h3 : formN (l.map f) = false := by unfold formN; rw [h2]; simp
    unfold numM; rw [h1, h3]; rfl

/-! ### the names of types -/
def typeT (j : Nat) : Int := [1, 2, 5, 6, 12, 15, 16, 28, 39].getD j 0
def typeS (j : Nat) : List UInt8 := ([[65], [78, 83], [67, 78, 65, 77, 69], [83, 79, 65], [80, 84, 82], [77, 88], [84, 88, 84], [65, 65, 65, 65], [68, 78, 65, 77, 69]] : List (List UInt8)).getD j []
/-- The first row with that number; with that name. -/
def rowOfT (t : Int) : Option Nat := (List.range 9).find? fun j => decide (typeT j = t)
def rowOfS (s : List UInt8) : Option Nat := (List.range 9).find? fun j => decide (typeS j = s)
def typeNameM (t : Int) : List UInt8 := match rowOfT t with | some j => typeS j | none => []
def knownM (t : Int) : Bool := (rowOfT t).isSome
def typeTextM (t : Int) : List UInt8 := match rowOfT t with | some j => typeS j | none => [84, 89, 80, 69] ++ Lib.itoa t
def parseTypeM (s : List UInt8) : Int × Int :=
  match rowOfS (greatL s) with
  | some j => (typeT j, 0)
  | none =>
    if (greatL s).take 4 = [84, 89, 80, 69] then
      (if (numM (s.drop 4) 65535).2 = 2 then (0, 6) else if (numM (s.drop 4) 65535).2 ≠ 0 ∨ (numM (s.drop 4) 65535).1 = 0 then (0, 7) else ((numM (s.drop 4) 65535).1, 0))
    else (0, 6)
theorem find_range {n : Nat} {p : Nat → Bool} {j : Nat} (h : (List.range n).find? p = some j) : j < n ∧ p j = true ∧ ∀ i, i < j → p i = false := by
  refine ⟨by have := List.mem_of_find?_eq_some h; simpa using this, List.find?_some h, ?_⟩
  intro i hi
  rw [List.find?_range_eq_some] at h
  simpa using h.2.2 i hi
theorem find_range_none {n : Nat} {p : Nat → Bool} (h : (List.range n).find? p = none) : ∀ i, i < n → p i = false := by
  intro i hi; rw [List.find?_eq_none] at h; simpa using h i (by simpa using hi)
theorem rowOfT_typeT : ∀ j, j < 9 → rowOfT (typeT j) = some j := by decide
theorem rowOfS_typeS : ∀ j, j < 9 → rowOfS (typeS j) = some j := by decide
theorem great_typeS : ∀ j, j < 9 → greatL (typeS j) = typeS j := by decide
theorem typeS_ne : ∀ j, j < 9 → typeS j ≠ [] ∧ (typeS j).take 4 ≠ [84, 89, 80, 69] ∧ (typeS j).length ≤ 5 := by decide
theorem typeT_pos : ∀ j, j < 9 → 0 < typeT j ∧ typeT j ≤ 65535 := by decide
theorem fold_typeS (j : Nat) (hj : j < 9) (s : List UInt8) : (foldL (typeS j) = foldL s) ↔ (typeS j = greatL s) := by
  constructor
  · intro h
    have := congrArg greatL h
    rwa [greatL_fold, greatL_fold, great_typeS j hj] at this
  · intro h
    have := congrArg foldL h
    rwa [foldL_great] at this
theorem great_dec (u : Nat) : greatL (Lib.decDigits u) = Lib.decDigits u := by
  have h := (dec_facts u).1
  unfold greatL
  conv => rhs; rw [← List.map_id (Lib.decDigits u)]
  apply List.map_congr_left
  intro c hc; exact (digit_great c).2 (List.all_eq_true.1 h c hc)
theorem great_text (t : Nat) : greatL (typeTextM t) = typeTextM t := by
  unfold typeTextM
  cases h : rowOfT t with
  | some j => exact great_typeS j (find_range h).1
  | none =>
    show greatL ([84, 89, 80, 69] ++ Lib.itoa t) = [84, 89, 80, 69] ++ Lib.itoa t
    rw [Lib.itoa_nonneg]
    have h1 : greatL ([84, 89, 80, 69] ++ Lib.decDigits t) = greatL [84, 89, 80, 69] ++ greatL (Lib.decDigits t) := by simp [greatL]
    rw [h1, great_dec]; rfl
/-- A text that is a type's words but for its letters is that type. -/
theorem parse_great (t : Nat) (h1 : 0 < t) (h2 : t ≤ 65535) (s : List UInt8) (hs : greatL s = typeTextM t) : parseTypeM s = ((t : Int), 0) := by
  unfold parseTypeM
  rw [hs]
  unfold typeTextM at hs ⊢
  cases h : rowOfT t with
  | some j =>
    obtain ⟨hj, hp, _⟩ := find_range h
    simp only
    rw [rowOfS_typeS j hj]
    simp only [Prod.mk.injEq, and_true]
    exact of_decide_eq_true hp
  | none =>
    rw [h] at hs
    simp only [Lib.itoa_nonneg] at hs ⊢
    have hn : rowOfS ([84, 89, 80, 69] ++ Lib.decDigits t) = none := by
      cases h' : rowOfS ([84, 89, 80, 69] ++ Lib.decDigits t) with
      | none => rfl
      | some j =>
        obtain ⟨hj, hp, _⟩ := find_range h'
        have e := of_decide_eq_true hp
        have := (typeS_ne j hj).2.1
        rw [e] at this
        exact absurd rfl this
    rw [hn]
    simp only
    have h4 : ([84, 89, 80, 69] ++ Lib.decDigits t).take 4 = [84, 89, 80, 69] := rfl
    rw [if_pos h4]
    have hd : greatL (s.drop 4) = Lib.decDigits t := by
      have := congrArg (List.drop 4) hs
      unfold greatL at this ⊢
      rw [← List.map_drop] at this
      exact this
    have hnum : numM (s.drop 4) 65535 = (t, 0) := by
      rw [← numM_map greatU digit_great (s.drop 4) 65535]
      show numM (greatL (s.drop 4)) 65535 = _
      rw [hd]; exact numM_dec t 65535 h2
    rw [hnum]
    simp; omega
theorem text_inj (a b : Nat) (h1 : 0 < a) (h2 : a ≤ 65535) (h3 : 0 < b) (h4 : b ≤ 65535) (h : typeTextM a = typeTextM b) : a = b := by
  have e1 := parse_great a h1 h2 _ (great_text a)
  have e2 := parse_great b h3 h4 _ (great_text b)
  rw [h, e2] at e1
  simp at e1; omega

/-! ### bytes turned one by one -/
def half (f : Nat → UInt8 → UInt8) (l : List UInt8) (k : Nat) : List UInt8 := (l.take k).mapIdx f ++ l.drop k
theorem half_zero (f : Nat → UInt8 → UInt8) (l : List UInt8) : half f l 0 = l := by simp [half]
theorem half_all (f : Nat → UInt8 → UInt8) (l : List UInt8) : half f l l.length = l.mapIdx f := by simp [half]
theorem half_len (f : Nat → UInt8 → UInt8) (l : List UInt8) (k : Nat) : (half f l k).length = l.length := by simp [half]; omega
theorem half_get (f : Nat → UInt8 → UInt8) (l : List UInt8) (k : Nat) (h : k < l.length) : (half f l k)[k]'(by rw [half_len]; exact h) = l[k] := by
  unfold half
  rw [List.getElem_append_right (by simp; omega)]
  simp; congr 1; omega
theorem half_succ (f : Nat → UInt8 → UInt8) (l : List UInt8) (k : Nat) (h : k < l.length) : (half f l k).set k (f k l[k]) = half f l (k + 1) := by
  unfold half
  rw [List.take_succ_eq_append_getElem h, List.mapIdx_append, List.drop_eq_getElem_cons h, List.set_append_right _ _ (by simp; omega)]
  have : k - ((l.take k).mapIdx f).length = 0 := by simp; omega
  rw [this]
  simp only [List.set_cons_zero, List.mapIdx_cons, List.mapIdx_nil, List.append_assoc, List.cons_append, List.nil_append]
  congr 2
  simp; congr 1; omega

end Go.Proofs.YtkjmghnbcnbdbaaGreatDoor

/-
  Package rtype's table of names: names, the iterator over its rows.
-/
namespace Go.Proofs.YtkjmghnbcnbdbaaGreatDoor
set_option maxRecDepth 20000
open Go.RowKit Go.Shelf

/-- The table's rows in block g. -/
def NRow (g : Nat) (W : World) : Prop := g < W.heap.size ∧ ∀ j, j < 9 → W.cell? ⟨g, j * 2, none⟩ = some (.int .i64 (typeT j)) ∧ W.cell? ⟨g, j * 2 + 1, none⟩ = some (strV (typeS j))
theorem NRow.below {g : Nat} {W W' : World} (h : NRow g W) (hb : Below W.heap.size W W') : NRow g W' := ⟨Nat.lt_of_lt_of_le h.1 hb.size, fun j hj =>
  ⟨(hb.cell (p := ⟨g, j * 2, none⟩) h.1).trans (h.2 j hj).1, (hb.cell (p := ⟨g, j * 2 + 1, none⟩) h.1).trans (h.2 j hj).2⟩⟩
def NamesPost (w : World) (e : Ending) (w' : World) : Prop := ∃ g, e = .returned (.agg #[.slice (some ⟨g, 0, none⟩) 9 9]) ∧ NRow g w' ∧ Below w.heap.size w w'

def NamesPost2 (w : World) (e : Ending) (w' : World) : Prop := ∃ g, e = .returned (.agg #[.slice (some ⟨g, 0, none⟩) 9 9]) ∧ NRow g w' ∧ Below w.heap.size w w' ∧ w.heap.size ≤ g

set_option maxHeartbeats 1000000 in
theorem rtype_names2 (w : World) : Calls Tryz.prog 104 #[] w (NamesPost2 w) := by
  go_enter Tryz.func104, Tryz.ntmps104
  go_wp2
  refine bodyPost_ret (v := .agg #[.slice (some ⟨w.heap.size + 1, 0, none⟩) 9 9]) (by simp [results, Tryz.results104, go_sem]) rfl ?_
  refine ⟨_, rfl, ⟨by simp, fun j hj => ?_⟩, ((Below.refl _ _).alloc (Nat.le_refl _) _).alloc (by simp) _, Nat.le_succ _⟩
  have key : ∀ i, i < 18 → ∀ u, ((List.range 18).map fun i => if i % 2 = 0 then Value.int .i64 (typeT (i / 2)) else strV (typeS (i / 2)))[i]? = some u →
      ((w.alloc (.cells #[.slice (some ⟨w.heap.size + 1, 0, none⟩) 9 9] 140)).alloc (.cells ((List.range 18).map fun i => if i % 2 = 0 then Value.int .i64 (typeT (i / 2)) else strV (typeS (i / 2))).toArray 163)).cell? ⟨w.heap.size + 1, i, none⟩ = some u := by
    intro i hi u hu
    have h := cells_new (w.alloc (.cells #[.slice (some ⟨w.heap.size + 1, 0, none⟩) 9 9] 140)) ((List.range 18).map fun i => if i % 2 = 0 then Value.int .i64 (typeT (i / 2)) else strV (typeS (i / 2))) 163 i u hu
    have e : ((⟨(w.alloc (.cells #[.slice (some ⟨w.heap.size + 1, 0, none⟩) 9 9] 140)).heap.size, 0, none⟩ : Addr).add i) = ⟨w.heap.size + 1, i, none⟩ := by unfold Addr.add; by_cases hj : i = 0 <;> simp [hj]
    rw [e] at h
    exact h
  refine ⟨?_, ?_⟩
  · exact key (j * 2) (by omega) _ (by simp [show j * 2 < 18 by omega])
  · exact key (j * 2 + 1) (by omega) _ (by simp [show j * 2 + 1 < 18 by omega, show (j * 2 + 1) / 2 = j by omega, show (j * 2 + 1) % 2 = 1 by omega])

theorem rtype_names (w : World) : Calls Tryz.prog 104 #[] w (NamesPost w) := (rtype_names2 w).mono fun _ _ ⟨g, h1, h2, h3, _⟩ => ⟨g, h1, h2, h3⟩

/-- What a round must keep: the table's box, its rows. -/
def KeepT (b g : Nat) (W W' : World) : Prop := KeepB b W W' ∧ KeepB g W W'
theorem KeepT.refl (b g : Nat) (W : World) : KeepT b g W W := ⟨rfl, rfl⟩
theorem keepT_t {b g : Nat} {A B C : World} (h : KeepT b g A B) (k : KeepT b g B C) : KeepT b g A C := ⟨h.1.trans k.1, h.2.trans k.2⟩
theorem keepT_b {b g : Nat} {w : World} (hb : b < w.heap.size) (hg : g < w.heap.size) (W : World) (l : Nat) (o o' : Obj) (hl : w.heap.size ≤ l) (h : W.heap[l]? = some o) (h1 : o.isCells = false) (h2 : o.isWalk = false) : KeepT b g W (W.putObj l o') :=
  ⟨keepB_b hb W l o o' hl h h1 h2, keepB_b hg W l o o' hl h h1 h2⟩
theorem KeepB.lt {b : Nat} {A B : World} (h : KeepB b A B) (hb : b < A.heap.size) : b < B.heap.size := by
  rcases Nat.lt_or_ge b B.heap.size with h' | h'
  · exact h'
  · unfold KeepB at h; rw [Array.getElem?_eq_none h', Array.getElem?_eq_getElem hb] at h; cases h
def rowV (j : Fin 9) : Array Value := #[.int .i64 (typeT j.val), strV (typeS j.val)]

section
attribute [local go_sem] Oper.semAt_some

set_option maxRecDepth 100000 in
set_option maxHeartbeats 2000000 in
theorem all1_in (n : Nat) (hn : 1 ≤ n) (l b g : Nat) (J Jx : List (Fin 9) → World → Prop)
    (hJ : ∀ pre W o, J pre W → J pre (W.alloc o))
    (hY : ∀ pre x W, J pre W → pre.length < 9 → YieldAt Fence.wide (n - 1) Tryz.prog l (rowV x) W fun e W' =>
      (e = .returned (.bool true) ∧ J (pre ++ [x]) W' ∧ KeepT b g W W') ∨ (e = .returned (.bool false) ∧ Jx (pre ++ [x]) W'))
    (W : World) (hbl : b < W.heap.size) (hgl : g < W.heap.size) (hc : W.cell? ⟨b, 0, none⟩ = some (.slice (some ⟨g, 0, none⟩) 9 9)) (hN : ∀ j, j < 9 → W.cell? ⟨g, j * 2, none⟩ = some (.int .i64 (typeT j)) ∧ W.cell? ⟨g, j * 2 + 1, none⟩ = some (strV (typeS j))) (h0 : J [] W) :
    CallsIn Fence.wide n Tryz.prog 137 #[.func (.yield l) #[] #[], .pointer (some ⟨b, 0, none⟩)] W fun e W' => (∃ v, e = .returned v) ∧
      ((∃ ys, ys = List.finRange 9 ∧ J ys W') ∨ (∃ pre, pre <+: List.finRange 9 ∧ Jx pre W')) := by
  refine callsIn_of_wp Tryz.func137 rfl trivial ?_ rfl
  simp only [Tryz.ntmps137, List.size_toArray, List.length_cons, List.length_nil, Nat.reduceAdd, Nat.reduceSub, Array.replicate_succ, Array.replicate_zero, List.push_toArray, List.append_toArray, List.nil_append, List.cons_append]
  have HN := Lib.hid hN
  clear hN
  gi_wp2
  gi_loopw [8] (fun i wr => ∃ k : Nat, k ≤ 9 ∧ i = .int .i64 k ∧ J ((List.finRange 9).take k) wr ∧ KeepT b g W wr ∧ b < wr.heap.size ∧ g < wr.heap.size)
    (fun i _ => 9 - (intOf i).toNat)
  case atStart => exact ⟨0, by omega, rfl, h0, KeepT.refl _ _ _, hbl, hgl⟩
  case round =>
    obtain ⟨k, hk, rfl, hJs, hnx, hbw, hgw⟩ := hrel
    by_cases hlt : k < 9
    · have c1 := (hnx.2.cell (o := k * 2)).trans (HN.out k hlt).1
      have c2 := (hnx.2.cell (o := k * 2 + 1)).trans (HN.out k hlt).2
      have hY1 := fun W1 (h : J ((List.finRange 9).take k) W1) => hY _ ⟨k, hlt⟩ W1 h (by simp; omega)
      have htk : (List.finRange 9).take (k + 1) = (List.finRange 9).take k ++ [⟨k, hlt⟩] := by
        rw [List.take_succ_eq_append_getElem (by simpa using hlt)]; simp
      unfold rowV at hY1
      simp only at hY1
      generalize typeT k = x at *
      obtain ⟨sk, hsk0, hskz, hskv⟩ := str_of (typeS k)
      rw [hskv] at hY1 c2
      have HTK := Lib.hid htk
      clear hsk0 hskz hskv htk
      obtain ⟨fn, tmps, assign, body, hy, hR⟩ := hY1 (wr.alloc (.cells #[.int .i64 x, .string sk] 163)) (hJ _ _ _ hJs)
      have hka : KeepT b g wr (wr.alloc (.cells #[.int .i64 x, .string sk] 163)) := ⟨KeepB.alloc _ _ (by omega), KeepB.alloc _ _ (by omega)⟩
      clear hY1
      gi_wp2
      refine hR.mono ?_
      rintro e W3 (⟨rfl, hJ3, hk3⟩ | ⟨rfl, hJx3⟩)
      · gi_wp2
        go_roundw
        case rel => exact ⟨k + 1, by omega, by simp, by rw [HTK.out]; exact hJ3, keepT_t hnx (keepT_t hka hk3), (keepT_t hka hk3).1.lt hbw, (keepT_t hka hk3).2.lt hgw⟩
        case measure => simp [intOf]; omega
      · gi_wp2
        refine bodyPost_ret (results_none rfl _ _ _) rfl ?_
        exact ⟨⟨_, rfl⟩, .inr ⟨_, by rw [← HTK.out]; exact List.take_prefix _ _, hJx3⟩⟩
    · obtain rfl : k = 9 := by omega
      gi_wp2
      go_end0
      exact ⟨⟨_, rfl⟩, .inl ⟨_, by rw [List.take_of_length_le (by simp)], hJs⟩⟩

theorem all_stops (n : Nat) (hn : 1 ≤ n) (b g : Nat) (w : World) (hb : b < w.heap.size) (hc : w.cell? ⟨b, 0, none⟩ = some (.slice (some ⟨g, 0, none⟩) 9 9)) (hN : NRow g w) :
    SeqStopsK Fence.wide n Tryz.prog 137 #[.pointer (some ⟨b, 0, none⟩)] rowV (KeepT b g) (fun ys => ys = List.finRange 9) (fun pre => pre <+: List.finRange 9) 9 w := fun l J Jx W hW hJ _ hY h0 =>
  all1_in n hn l b g J Jx (fun pre W' o h => hJ pre W' _ none h (World.grownBy_alloc W' o none) (fun _ e => by cases e)) hY W (Nat.lt_of_lt_of_le hb hW.size) (Nat.lt_of_lt_of_le hN.1 hW.size) ((hW.cell (p := ⟨b, 0, none⟩) hb).trans hc) (hN.below hW).2 h0

set_option maxHeartbeats 400000 in
theorem table_all (v : Value) (w : World) :
    Calls Tryz.prog 123 #[.agg #[v]] w fun e w' => e = .returned (.func (.func 137) #[] #[.pointer (some ⟨w.heap.size, 0, none⟩)]) ∧ w' = w.alloc (.cells #[v] 140) := by
  go_enter Tryz.func123, Tryz.ntmps123
  go_wp2
  go_ret
  exact ⟨rfl, rfl⟩
end
end Go.Proofs.YtkjmghnbcnbdbaaGreatDoor

