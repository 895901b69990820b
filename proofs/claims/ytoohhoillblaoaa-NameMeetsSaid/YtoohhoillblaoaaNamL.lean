/-
  Contract of name.Parse.
-/
import Derived.Test.YtoohhoillblaoaaNamK
import Derived.Test.YtoohhoillblaoaaRefB
namespace Go.Proofs.Ytoohhoillblaoaa
open Go.RowKit Go.Shelf

theorem splitM_ne {s : List UInt8} (h : (splitM s).2 = 0) : (splitM s).1 ≠ [] := by
  unfold splitM at h ⊢
  by_cases e : (spRun s).taken = true
  · rw [if_pos e] at h; cases h
  · rw [if_neg e]; simp
theorem splitM_len (s : List UInt8) : (splitM s).1.length ≤ s.length + 1 ∧ ∀ x ∈ (splitM s).1, x.length ≤ s.length := by
  unfold splitM
  by_cases e : (spRun s).taken = true
  · rw [if_pos e]; simp
  · rw [if_neg e]
    have h := (spRun_inv s).2.2
    refine ⟨by simp; omega, ?_⟩
    intro x hx
    simp only [List.mem_append, List.mem_map, List.mem_singleton] at hx
    rcases hx with ⟨p, _, rfl⟩ | rfl
    · unfold piece; simp; omega
    · simp
theorem parseM_len (l : List UInt8) : (parseM l).1.length ≤ l.length := by
  have h : (scan l).1.length ≤ l.length := scanM_len _ l (Nat.le_refl _)
  unfold parseM
  split
  · split
    · exact h
    · simp
  · simp
theorem readN_len {B : Nat} : ∀ (ps : Nm), (∀ p ∈ ps, p.length ≤ B) → (readN ps).1.length ≤ ps.length ∧ ∀ x ∈ (readN ps).1, x.length ≤ B
  | [] => by intro _; simp [readN]
  | p :: r => by
    intro h
    obtain ⟨i1, i2⟩ := readN_len r (fun x hx => h x (by simp [hx]))
    have hp := h p (by simp)
    have hl := parseM_len p
    simp only [readN]
    split
    · split
      · refine ⟨by simpa using i1, ?_⟩
        intro x hx
        rcases List.mem_cons.1 hx with rfl | hx
        · omega
        · exact i2 x hx
      · simp
    · simp
theorem wholeN_eq {ps : Nm} {n : Nat} (hn : ps.length = n + 1) : wholeN ps = decide (ps[n]'(by omega) = []) := by
  unfold wholeN
  rw [List.getLast?_eq_getElem?, show ps.length - 1 = n by omega, List.getElem?_eq_getElem (by omega)]
  simp

def ParseNPost (s : ByteArray) (o : Nm) (w : World) (e : Ending) (w' : World) : Prop := ∃ v', e = .returned (.tuple #[v', .int .i64 (parseN s.data.toList o).2]) ∧ OwnG 9 strV w' w.heap.size v' (parseN s.data.toList o).1 ∧ Below w.heap.size w w'
theorem parseN_fin {s : ByteArray} {o : Nm} {w w' : World} {e : Ending} {v : Value} (l : Nm) (er : Int) (h : parseN s.data.toList o = (l, er)) (he : e = .returned (.tuple #[v, .int .i64 er])) (ho : OwnG 9 strV w' w.heap.size v l) (hw : Below w.heap.size w w') : ParseNPost s o w e w' := by
  unfold ParseNPost; rw [h]; exact ⟨v, he, ho, hw⟩

set_option maxRecDepth 100000 in
set_option maxHeartbeats 4000000 in
theorem name_Parse (s : ByteArray) (v : Value) (o : Nm) (w : World) (hA : StrsAt w v o) (hO : SlOK v) (hs : s.size ≤ 500000) (hk : NmOK o) (ho : o.length ≤ 500000) :
    Calls Try.prog 24 #[.string s, v] w (ParseNPost s o w) := by
  obtain ⟨a, c, rfl, _⟩ := id hA
  have hC := clone_Name (.slice a o.length c) o w hA hO (by omega)
  by_cases h1 : s.data.toList = [64]
  · obtain rfl : s = ⟨#[64]⟩ := ba_ext (by rw [h1])
    go_enter Try.func24, Try.ntmps24
    go_wp2_with (go_at_call 48; refine hC.mono ?_; rintro e w2 ⟨v', rfl, hown, hb⟩)
    go_ret2
    exact parseN_fin o 0 rfl rfl hown hb
  by_cases h2 : s.data.toList = [46]
  · obtain rfl : s = ⟨#[46]⟩ := ba_ext (by rw [h2])
    go_enter Try.func24, Try.ntmps24
    go_wp2
    go_ret2
    exact parseN_fin [] 0 rfl rfl (OwnG.nil _ _) (Below.refl _ _)
  by_cases h3 : s.data.toList = []
  · obtain rfl : s = ⟨#[]⟩ := ba_ext (by rw [h3])
    go_enter Try.func24, Try.ntmps24
    go_wp2
    go_ret2
    exact parseN_fin [] 8 rfl rfl (OwnG.nil _ _) (Below.refl _ _)
  have hP : parseN s.data.toList o = if (splitM s.data.toList).2 = 0 then endN (splitM s.data.toList).1 o else ([], (splitM s.data.toList).2) := by
    unfold parseN; rw [if_neg h1, if_neg h2, if_neg h3]
  have e1 : (s.toList == [64]) = false := by rw [toList_data]; simpa using h1
  have e2 : (s.toList == [46]) = false := by rw [toList_data]; simpa using h2
  have e3 : (s.toList == []) = false := by rw [toList_data]; simpa using h3
  have hS := label_Split s w (by omega)
  unfold SplitPost at hS
  obtain ⟨hlen1, hlen2⟩ := splitM_len s.data.toList
  have hne := splitM_ne (s := s.data.toList)
  rw [size_data] at hlen1 hlen2
  obtain ⟨⟨ps, er⟩, hq⟩ : ∃ q, splitM s.data.toList = q := ⟨_, rfl⟩
  rw [hq] at hP hS hlen1 hlen2 hne
  have HP := Lib.hid hP
  have HNE := Lib.hid hne
  clear hP hq h1 h2 h3 hC hne
  simp only at hlen1 hlen2 hS
  go_enter Try.func24, Try.ntmps24
  go_wp2_with fail
  refine hS.mono ?_
  rintro e w1 ⟨v1, rfl, hown1, hb1⟩
  by_cases her : (er != 0) = true
  · have H0 : Hid (parseN s.data.toList o = ([], er)) := Lib.hid (by rw [HP.out, if_neg (by simpa using her)])
    clear HP hS
    go_wp2
    go_ret2
    exact parseN_fin [] er H0.out rfl (OwnG.nil _ _) hb1
  have her0 : er = 0 := by simpa using her
  subst her0
  have HPE : Hid (parseN s.data.toList o = endN ps o) := Lib.hid (by rw [HP.out, if_pos rfl])
  have hpne : ps ≠ [] := HNE.out rfl
  obtain ⟨n, hn⟩ : ∃ n, ps.length = n + 1 := ⟨ps.length - 1, by cases ps with | nil => exact absurd rfl hpne | cons x r => simp⟩
  have hok1 := hown1.slOK
  obtain ⟨a1, c1, rfl⟩ := hown1.shape
  obtain ⟨g, rfl, hgb, hglt, hcells⟩ := hown1.cells hpne
  have hat1 := StrsAt.of_own hown1
  obtain ⟨a9, n9, c9, e9, hcap1, _⟩ := hok1
  cases e9
  have hlast := hcells n (by omega)
  have hwN := wholeN_eq hn
  obtain ⟨pl, hpl⟩ : ∃ pl, ps[n]'(by omega) = pl := ⟨_, rfl⟩
  rw [hpl] at hlast hwN
  clear hpl
  obtain ⟨sl, hsl0, hslz, hslv⟩ := str_of pl
  rw [hslv] at hlast
  have hat2 := strs_take hat1 n (by omega) c1
  rw [hn] at hat1 hcap1 ⊢
  have HNN := Lib.hid hn
  have hnb : n ≤ 500000 := by omega
  clear hcells hown1 HP hS hn her
  by_cases hwh : pl = []
  · have hw : wholeN ps = true := by rw [hwN]; exact decide_eq_true hwh
    have hpn : partsN ps = ps.take n := by unfold partsN; rw [hw, if_pos rfl, List.dropLast_eq_take, HNN.out]; rfl
    have e4 : (sl.toList == []) = true := by rw [toList_data, hsl0, hwh]; rfl
    have hPV := hat2
    clear hsl0 hslz hslv hwh hwN hat1 hat2
    have hRL0 := name_readLabels (.slice (some ⟨g, 0, none⟩) n c1) (ps.take n) w1 hPV (by simp; omega) (fun x hx => by have := hlen2 x (List.mem_of_mem_take hx); omega)
    obtain ⟨⟨rs, e2⟩, hq2⟩ : ∃ q, readN (ps.take n) = q := ⟨_, rfl⟩
    have hRL : Calls Try.prog 50 #[(.slice (some ⟨g, 0, none⟩) n c1)] w1 fun e w' => ∃ v', e = .returned (.tuple #[v', .int .i64 e2]) ∧ OwnG 9 strV w' w1.heap.size v' rs ∧ Below w1.heap.size w1 w' := by
      refine hRL0.mono ?_
      intro e w' h; unfold ReadNPost at h; rw [hq2] at h; exact h
    obtain ⟨hr1, hr2⟩ := readN_len (B := s.size) (ps.take n) (fun x hx => hlen2 x (List.mem_of_mem_take hx))
    rw [hq2] at hr1 hr2
    simp only at hr1 hr2
    have h5 : (ps.take n).length ≤ ps.length := by simp; omega
    have hr3 : rs.length ≤ 500001 := by omega
    have hE : endN ps o = if e2 = 0 then (if checkN rs = 0 then (rs, 0) else ([], checkN rs)) else ([], e2) := by
      unfold endN; rw [hpn, hw]; simp only [if_true]; rw [hq2]
    have hall : NmOK rs := ⟨by omega, fun x hx => by have := hr2 x hx; omega⟩
    clear hRL0 hr1 hr2
    by_cases her2 : (e2 != 0) = true
    · have H0 : Hid (parseN s.data.toList o = ([], e2)) := Lib.hid (by rw [HPE.out, hE, if_neg (by simpa using her2)])
      clear hE hq2 hw hpn
      go_wp2_with (go_at_call 50; refine hRL.mono ?_; rintro e w2 ⟨v2, rfl, hown2, hb2⟩; have hB2 : Below w.heap.size w w2 := hb1.trans (hb2.mono hb1.size); have hown2' := hown2.weaken hb1.size)
      go_ret2
      exact parseN_fin [] e2 H0.out rfl (OwnG.nil _ _) hB2
    have her20 : e2 = 0 := by simpa using her2
    subst her20
    obtain ⟨q, hcq⟩ : ∃ q, checkN rs = q := ⟨_, rfl⟩
    have hCk := fun W v2 (h : OwnG 9 strV W w.heap.size v2 rs) => name_Check v2 rs W (StrsAt.of_own h) hall
    rw [hcq] at hE hCk
    rw [if_pos rfl] at hE
    by_cases hq0 : (q != 0) = true
    · have H0 : Hid (parseN s.data.toList o = ([], q)) := Lib.hid (by rw [HPE.out, hE, if_neg (by simpa using hq0)])
      clear hE hq2 hcq her2 hw hpn
      go_wp2_with (first | (go_at_call 50; refine hRL.mono ?_; rintro e w2 ⟨v2, rfl, hown2, hb2⟩; have hB2 : Below w.heap.size w w2 := hb1.trans (hb2.mono hb1.size); have hown2' := hown2.weaken hb1.size) | (go_at_call 15; refine (hCk _ _ hown2').mono ?_; rintro e w4 ⟨rfl, hb4⟩))
      go_ret2
      exact parseN_fin [] q H0.out rfl (OwnG.nil _ _) (hB2.trans (hb4.mono hB2.size))
    · have hq1 : (q != 0) = false := by simpa using hq0
      have H0 : Hid (parseN s.data.toList o = (rs, 0)) := Lib.hid (by rw [HPE.out, hE, if_pos (by simpa using hq1)])
      clear hE hq2 hcq her2 hq0 hw hpn
      go_wp2_with (first | (go_at_call 50; refine hRL.mono ?_; rintro e w2 ⟨v2, rfl, hown2, hb2⟩; have hB2 : Below w.heap.size w w2 := hb1.trans (hb2.mono hb1.size); have hown2' := hown2.weaken hb1.size) | (go_at_call 15; refine (hCk _ _ hown2').mono ?_; rintro e w4 ⟨rfl, hb4⟩))
      go_ret2
      exact parseN_fin rs 0 H0.out rfl (hown2'.below hb4) (hB2.trans (hb4.mono hB2.size))
  · have hw : wholeN ps = false := by rw [hwN]; exact decide_eq_false hwh
    have hpn : partsN ps = ps := by unfold partsN; rw [hw]; rfl
    have e4 : (sl.toList == []) = false := by rw [toList_data, hsl0]; simpa using hwh
    have hPV := hat1
    have hn := HNN.out
    clear hsl0 hslz hslv hwh hwN hat1 hat2
    have hRL0 := name_readLabels (.slice (some ⟨g, 0, none⟩) (n + 1) c1) ps w1 hPV (by omega) (fun x hx => by have := hlen2 x hx; omega)
    obtain ⟨⟨rs, e2⟩, hq2⟩ : ∃ q, readN ps = q := ⟨_, rfl⟩
    have hRL : Calls Try.prog 50 #[(.slice (some ⟨g, 0, none⟩) (n + 1) c1)] w1 fun e w' => ∃ v', e = .returned (.tuple #[v', .int .i64 e2]) ∧ OwnG 9 strV w' w1.heap.size v' rs ∧ Below w1.heap.size w1 w' := by
      refine hRL0.mono ?_
      intro e w' h; unfold ReadNPost at h; rw [hq2] at h; exact h
    obtain ⟨hr1, hr2⟩ := readN_len (B := s.size) ps (fun x hx => hlen2 x hx)
    rw [hq2] at hr1 hr2
    simp only at hr1 hr2
    have hr3 : rs.length ≤ 500001 := by omega
    have hE : endN ps o = if e2 = 0 then (if checkN (rs ++ o) = 0 then ((rs ++ o), 0) else ([], checkN (rs ++ o))) else ([], e2) := by
      unfold endN; rw [hpn, hw]; simp only [Bool.false_eq_true, if_false]; rw [hq2]
    have hall : NmOK (rs ++ o) := ⟨by rw [List.length_append]; omega, fun x hx => by rcases List.mem_append.1 hx with h | h; (have := hr2 x h; omega); exact hk.2 x h⟩
    clear hRL0 hr1 hr2
    by_cases her2 : (e2 != 0) = true
    · have H0 : Hid (parseN s.data.toList o = ([], e2)) := Lib.hid (by rw [HPE.out, hE, if_neg (by simpa using her2)])
      clear hE hq2 hw hpn
      go_wp2_with (go_at_call 50; refine hRL.mono ?_; rintro e w2 ⟨v2, rfl, hown2, hb2⟩; have hB2 : Below w.heap.size w w2 := hb1.trans (hb2.mono hb1.size); have hown2' := hown2.weaken hb1.size)
      go_ret2
      exact parseN_fin [] e2 H0.out rfl (OwnG.nil _ _) hB2
    have her20 : e2 = 0 := by simpa using her2
    subst her20
    obtain ⟨q, hcq⟩ : ∃ q, checkN (rs ++ o) = q := ⟨_, rfl⟩
    have hCk := fun W v2 (h : OwnG 9 strV W w.heap.size v2 (rs ++ o)) => name_Check v2 (rs ++ o) W (StrsAt.of_own h) hall
    rw [hcq] at hE hCk
    rw [if_pos rfl] at hE
    by_cases hq0 : (q != 0) = true
    · have H0 : Hid (parseN s.data.toList o = ([], q)) := Lib.hid (by rw [HPE.out, hE, if_neg (by simpa using hq0)])
      clear hE hq2 hcq her2 hw hpn
      go_wp2_with (first | (go_at_call 50; refine hRL.mono ?_; rintro e w2 ⟨v2, rfl, hown2, hb2⟩; have hB2 : Below w.heap.size w w2 := hb1.trans (hb2.mono hb1.size); have hown2' := hown2.weaken hb1.size) | (at_builtin; refine wpl_append_s w2 rfl (.tmp 51) (.tmp 52) elemNm rfl w.heap.size v2 rs rfl hown2' (.slice a o.length c) o rfl (hA.below hB2) hO hB2.size (by unfold maxLen; omega) (by omega) ?_; intro v3 w3 hown3 hg3; have hB3 : Below w.heap.size w w3 := hB2.grown hg3 hB2.size hown2'.base_le) | (go_at_call 15; refine (hCk _ _ hown3).mono ?_; rintro e w4 ⟨rfl, hb4⟩))
      go_ret2
      exact parseN_fin [] q H0.out rfl (OwnG.nil _ _) (hB3.trans (hb4.mono hB3.size))
    · have hq1 : (q != 0) = false := by simpa using hq0
      have H0 : Hid (parseN s.data.toList o = ((rs ++ o), 0)) := Lib.hid (by rw [HPE.out, hE, if_pos (by simpa using hq1)])
      clear hE hq2 hcq her2 hq0 hw hpn
      go_wp2_with (first | (go_at_call 50; refine hRL.mono ?_; rintro e w2 ⟨v2, rfl, hown2, hb2⟩; have hB2 : Below w.heap.size w w2 := hb1.trans (hb2.mono hb1.size); have hown2' := hown2.weaken hb1.size) | (at_builtin; refine wpl_append_s w2 rfl (.tmp 51) (.tmp 52) elemNm rfl w.heap.size v2 rs rfl hown2' (.slice a o.length c) o rfl (hA.below hB2) hO hB2.size (by unfold maxLen; omega) (by omega) ?_; intro v3 w3 hown3 hg3; have hB3 : Below w.heap.size w w3 := hB2.grown hg3 hB2.size hown2'.base_le) | (go_at_call 15; refine (hCk _ _ hown3).mono ?_; rintro e w4 ⟨rfl, hb4⟩))
      go_ret2
      exact parseN_fin (rs ++ o) 0 H0.out rfl (hown3.below hb4) (hB3.trans (hb4.mono hB3.size))
end Go.Proofs.Ytoohhoillblaoaa
