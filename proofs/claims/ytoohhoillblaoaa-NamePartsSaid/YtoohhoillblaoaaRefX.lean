/-
  The document's names (package toponymref6): ParseName.
-/
import Derived.Test.YtoohhoillblaoaaRefW
import Derived.Test.YtoohhoillblaoaaNamL
namespace Go.Proofs.Ytoohhoillblaoaa
open Go.RowKit Go.Shelf

def partsK (ps : Nm) (k : Nat) : Nm := if k = ps.length then partsN ps else ps.take k
def wholeK (ps : Nm) (k : Nat) : Bool := decide (k = ps.length) && wholeN ps
theorem partsK_lt {ps : Nm} {k : Nat} (h : k < ps.length) : partsK ps k = ps.take k := by unfold partsK; rw [if_neg (by omega)]
theorem partsK_end (ps : Nm) : partsK ps ps.length = partsN ps := by unfold partsK; rw [if_pos rfl]
/-- The last piece, empty. -/
theorem partsK_dot {ps : Nm} {k : Nat} (h : ps.length = k + 1) (h2 : ps[k]'(by omega) = []) : partsK ps (k + 1) = ps.take k ∧ wholeK ps (k + 1) = true := by
  have hw : wholeN ps = true := by rw [wholeN_eq h]; exact decide_eq_true h2
  unfold partsK wholeK partsN
  rw [if_pos h.symm, hw, if_pos rfl, List.dropLast_eq_take, h]
  simp
/-- A piece that is not the last one, or not empty. -/
theorem partsK_next {ps : Nm} {k : Nat} (h : k < ps.length) (h2 : ¬ (ps.length = k + 1 ∧ ps[k] = [])) : partsK ps (k + 1) = ps.take k ++ [ps[k]] ∧ wholeK ps (k + 1) = false ∧ ps.take k ++ [ps[k]] <+: partsN ps := by
  have ht : ps.take k ++ [ps[k]] = ps.take (k + 1) := (List.take_succ_eq_append_getElem h).symm
  rw [ht]
  by_cases e : ps.length = k + 1
  · have hw : wholeN ps = false := by rw [wholeN_eq e]; exact decide_eq_false (fun q => h2 ⟨e, q⟩)
    have hp : partsN ps = ps := by unfold partsN; rw [hw]; rfl
    have hk : ps.take (k + 1) = ps := List.take_of_length_le (by omega)
    unfold partsK wholeK
    rw [if_pos e.symm, hw, hp, hk, Bool.and_false]
    exact ⟨rfl, rfl, List.prefix_rfl⟩
  · refine ⟨partsK_lt (by omega), by unfold wholeK; rw [decide_eq_false (by omega)]; rfl, ?_⟩
    unfold partsN
    split
    · rw [List.dropLast_eq_take]
      exact List.take_prefix_take_left (by omega)
    · exact List.take_prefix _ _

set_option maxRecDepth 100000 in
set_option maxHeartbeats 8000000 in
theorem ref_ParseName (s : ByteArray) (v : Value) (o : Nm) (w : World) (hA : NmAt w v o) (hs : s.size ≤ 500000) (hk : NmOK o) (ho : o.length ≤ 500000) :
    Calls Try.prog 25 #[.string s, v] w (ParseNPost s o w) := by
  obtain ⟨a, c, rfl, _⟩ := id hA.1
  have hO := hA.2
  by_cases h1 : s.data.toList = [64]
  · obtain rfl : s = ⟨#[64]⟩ := ba_ext (by rw [h1])
    have hlit : OwnG 9 strV (w.alloc (.cells #[] 9)) w.heap.size (.slice (some ⟨w.heap.size, 0, none⟩) 0 0) [] := OwnG.lit (T := 9) (enc := strV) w w.heap.size (Nat.le_refl _) [] (by simp)
    have hb1 : Below w.heap.size w (w.alloc (.cells #[] 9)) := (Below.refl _ w).alloc (Nat.le_refl _) _
    go_enter Try.func25, Try.ntmps25
    go_wp2_with (at_builtin; refine wpl_append_s (w.alloc (.cells #[] 9)) rfl (.tmp 16) (.tmp 17) elemS rfl w.heap.size (.slice (some ⟨w.heap.size, 0, none⟩) 0 0) [] rfl hlit (.slice a o.length c) o rfl (hA.1.below hb1) hO hb1.size (by unfold maxLen; simp; omega) (by simp; omega) ?_; intro v1 w1 hown1 hg1; have hB1 : Below w.heap.size w w1 := hb1.grown hg1 hb1.size hlit.base_le)
    go_ret2
    exact parseN_fin o 0 rfl rfl hown1 hB1
  by_cases h2 : s.data.toList = [46]
  · obtain rfl : s = ⟨#[46]⟩ := ba_ext (by rw [h2])
    go_enter Try.func25, Try.ntmps25
    go_wp2
    go_ret2
    exact parseN_fin [] 0 rfl rfl (OwnG.nil _ _) (Below.refl _ _)
  by_cases h3 : s.data.toList = []
  · obtain rfl : s = ⟨#[]⟩ := ba_ext (by rw [h3])
    go_enter Try.func25, Try.ntmps25
    go_wp2
    go_ret2
    exact parseN_fin [] 8 rfl rfl (OwnG.nil _ _) (Below.refl _ _)
  have hP : parseN s.data.toList o = if (splitM s.data.toList).2 = 0 then endN (splitM s.data.toList).1 o else ([], (splitM s.data.toList).2) := by
    unfold parseN; rw [if_neg h1, if_neg h2, if_neg h3]
  have e1 : (s.toList == [64]) = false := by rw [toList_data]; simpa using h1
  have e2 : (s.toList == [46]) = false := by rw [toList_data]; simpa using h2
  have e3 : (s.toList == []) = false := by rw [toList_data]; simpa using h3
  have hS := ref_Split s w (by omega)
  unfold RSplitPost at hS
  obtain ⟨hlen1, hlen2⟩ := splitM_len s.data.toList
  have hne := splitM_ne (s := s.data.toList)
  rw [size_data] at hlen1 hlen2
  obtain ⟨⟨ps, er⟩, hq⟩ : ∃ q, splitM s.data.toList = q := ⟨_, rfl⟩
  rw [hq] at hP hS hlen1 hlen2 hne
  have HP := Lib.hid hP
  have HNE := Lib.hid hne
  clear hP hq h1 h2 h3 hne
  simp only at hlen1 hlen2 hS
  go_enter Try.func25, Try.ntmps25
  go_wp2_with fail
  refine hS.mono ?_
  rintro e w1 ⟨v1, rfl, hown1, hb1⟩
  by_cases her : (er != 0) = true
  · have H0 : Hid (parseN s.data.toList o = ([], er)) := Lib.hid (by rw [HP.out, if_neg (by simpa using her)])
    clear HP hS
    go_wp2
    go_ret2
    exact parseN_fin [] er H0.out rfl (OwnG.nil _ _) hb1
  have her0 : er = 0 := by simpa using her
  subst her0
  have HPE : Hid (parseN s.data.toList o = endN ps o) := Lib.hid (by rw [HP.out, if_pos rfl])
  have hpne : ps ≠ [] := HNE.out rfl
  obtain ⟨n, hn⟩ : ∃ n, ps.length = n := ⟨_, rfl⟩
  obtain ⟨a1, c1, rfl⟩ := hown1.shape
  obtain ⟨g, rfl, hgb, hglt, hcells⟩ := hown1.cells hpne
  have hn1 : 0 < n := by rw [← hn]; cases ps with | nil => exact absurd rfl hpne | cons x r => simp
  rw [hn] at hlen1 ⊢
  have HN := Lib.hid hn
  have HCL := Lib.hid hcells
  have HL2 := Lib.hid hlen2
  clear hcells hown1 HP hS hn her hlen2 HNE hpne
  have hnb : n ≤ 500001 := by omega
  go_wp2
  go_loopw [8, 9, 10] (fun u wh i wr => ∃ (k : Nat) (fs : Nm), i = .int .i64 k ∧ k ≤ n ∧ wh = .bool (wholeK ps k) ∧ OwnG 9 strV wr w1.heap.size u fs ∧ fs.length ≤ k ∧ Below w.heap.size w wr ∧ Below w1.heap.size w1 wr ∧ Hid (readN (partsK ps k) = (fs, 0))) (fun _ _ i _ => n - (intOf i).toNat)
  case atStart =>
    refine ⟨0, [], rfl, Nat.zero_le _, ?_, OwnG.nil _ _, Nat.le_refl _, hb1, Below.refl _ _, Lib.hid ?_⟩
    · unfold wholeK; rw [decide_eq_false (by rw [HN.out]; omega)]; rfl
    · rw [partsK_lt (by rw [HN.out]; omega)]; rfl
  case round =>
    obtain ⟨k, fs, rfl, hkn, rfl, hown, hfk, hB, hB1, HR⟩ := hrel
    obtain ⟨au, cu, rfl⟩ := hown.shape
    have hBz := hB.size
    have hBz1 := hB1.size
    generalize hfl : fs.length = fl at *
    have HFL := Lib.hid hfl
    clear hfl
    by_cases hlt : k < n
    · have hkp : k < ps.length := by rw [HN.out]; exact hlt
      have hcell := (hB1.cell (p := ⟨g, k, none⟩) (by have := HN.out; exact hglt)).trans (HCL.out k hkp)
      obtain ⟨sk, hsk0, hskz, hskv⟩ := str_of ps[k]
      rw [hskv] at hcell
      have hskb : sk.size ≤ 500000 := by rw [hskz]; exact Nat.le_trans (HL2.out _ (List.getElem_mem hkp)) hs
      have hwk0 : wholeK ps k = false := by unfold wholeK; rw [decide_eq_false (by rw [HN.out]; omega)]; rfl
      rw [partsK_lt hkp] at HR
      rw [hwk0]
      by_cases hdot : ps.length = k + 1 ∧ ps[k] = []
      · obtain ⟨hp1, hp2⟩ := partsK_dot hdot.1 hdot.2
        have e4 : (sk.toList == []) = true := by rw [toList_data, hsk0, hdot.2]; rfl
        have e5 : ((k : Int) == (n : Int) - 1) = true := by have := HN.out; have := hdot.1; simp; omega
        have HR2 : Hid (readN (partsK ps (k + 1)) = (fs, 0)) := Lib.hid (by rw [hp1]; exact HR.out)
        have HW : Hid (wholeK ps (k + 1) = true) := Lib.hid hp2
        clear hp1 hp2 hdot hsk0 hskz hskv hwk0 HR
        go_wp2
        go_roundw
        case rel => exact ⟨k + 1, fs, by go_num, by omega, by rw [HW.out], by have := HFL.out; subst this; exact hown, by have := HFL.out; omega, hB, hB1, HR2⟩
        case measure => simp [intOf]; omega
      · obtain ⟨hp1, hp2, hp3⟩ := partsK_next hkp hdot
        have hcond : (sk.toList == []) = false ∨ ((sk.toList == []) = true ∧ ((k : Int) == (n : Int) - 1) = false) := by
          by_cases h : ps[k] = []
          · right
            refine ⟨by rw [toList_data, hsk0, h]; rfl, ?_⟩
            have : ps.length ≠ k + 1 := fun e => hdot ⟨e, h⟩
            have := HN.out; simp; omega
          · left; rw [toList_data, hsk0]; simpa using h
        obtain ⟨⟨m, f⟩, hm⟩ : ∃ q, parseM ps[k] = q := ⟨_, rfl⟩
        have hrs : readN (ps.take k ++ [ps[k]]) = if f = 0 then (fs ++ [m], 0) else ([], f) := by
          rw [readN_snoc _ _ (by rw [HR.out]), HR.out, hm]
        have hPL : ∀ W, Calls Try.prog 52 #[.string sk] W fun e w' => e = .returned (.tuple #[.string ⟨m.toArray⟩, .int .i64 f]) ∧ Below W.heap.size W w' := fun W => by
          refine (ref_ParseLabel sk W (by omega)).mono ?_
          intro e w' h; unfold ParsePost at h; rw [hsk0, hm] at h; exact h
        by_cases hf : (f != 0) = true
        · have hf1 : f ≠ 0 := by simpa using hf
          have H0 : Hid (parseN s.data.toList o = ([], f)) := Lib.hid (by
            rw [if_neg hf1] at hrs
            have h1 := readN_stop hp3 (by rw [hrs]; exact hf1)
            rw [hrs] at h1
            rw [HPE.out]; unfold endN; rw [h1, if_neg hf1])
          clear hp1 hp2 hp3 hdot hsk0 hskz hskv hwk0 HR hrs hm hf1
          rcases hcond with e4 | ⟨e4, e5⟩
          all_goals
            go_wp2_with (go_at_call 52; refine (hPL _).mono ?_; rintro e w2 ⟨rfl, hb2⟩)
            go_ret2
            exact parseN_fin [] f H0.out rfl (OwnG.nil _ _) (hB.trans (hb2.mono hBz))
        · have hf0 : f = 0 := by simpa using hf
          subst hf0
          rw [if_pos rfl, ← hp1] at hrs
          have HR2 := Lib.hid hrs
          have HW := Lib.hid hp2
          clear hp1 hp2 hp3 hdot hsk0 hskz hskv hwk0 HR hrs hm hf
          have hcl : [Value.string ⟨m.toArray⟩] = [m].map strV := rfl
          have HCS := Lib.hid hcl; clear hcl
          generalize (⟨m.toArray⟩ : ByteArray) = sm at *
          rcases hcond with e4 | ⟨e4, e5⟩
          all_goals
            go_wp2_with (first | (go_at_call 52; refine (hPL _).mono ?_; rintro e w2 ⟨rfl, hb2⟩; have hown2 := hown.below (hb2.mono (Nat.le_refl _)); have hB2 := hB.trans (hb2.mono hBz); have hB12 := hB1.trans (hb2.mono hBz1)) | (at_builtin; refine wpl_append_g w2 rfl (.tmp 60) (.tmp 62) elemStr rfl strV_one w1.heap.size (.slice au fl cu) fs rfl hown2 [.string sm] [m] HCS.out 1 1 rfl rfl hB12.size (by have := HFL.out; unfold maxLen; simp; omega) (by have := HFL.out; simp; omega) ?_; intro v3 w3 hown3 hg3; have hB3 : Below w.heap.size w w3 := hB2.grown hg3 hB2.size (fun q e => Nat.le_trans hb1.size (hown2.base_le q e)); have hB13 : Below w1.heap.size w1 w3 := hB12.grown hg3 hB12.size hown2.base_le))
            go_roundw
            case rel => exact ⟨k + 1, fs ++ [m], by go_num, by omega, by rw [HW.out], hown3, by have := HFL.out; simp; omega, hB3, hB13, HR2⟩
            case measure => simp [intOf]; omega
    · obtain rfl : k = n := by omega
      obtain ⟨wb, hwb⟩ : ∃ b, wholeN ps = b := ⟨_, rfl⟩
      have hwk : wholeK ps k = wb := by unfold wholeK; rw [decide_eq_true HN.out.symm, Bool.true_and, hwb]
      rw [hwk]
      have hR := HR.out
      rw [show partsK ps k = partsN ps by rw [← HN.out]; exact partsK_end ps] at hR
      obtain ⟨all, hall0⟩ : ∃ all, (if wb = true then fs else fs ++ o) = all := ⟨_, rfl⟩
      have hE : endN ps o = if checkN all = 0 then (all, 0) else ([], checkN all) := by
        unfold endN; rw [hR, hwb]; simp only [if_true]
        rw [hall0]
      have hfs := readN_len (B := s.size) (partsN ps) (fun x hx => HL2.out x (by
        unfold partsN at hx; split at hx
        · rw [List.dropLast_eq_take] at hx; exact List.mem_of_mem_take hx
        · exact hx))
      rw [hR] at hfs
      have hfx : ∀ x ∈ fs, x.length ≤ 1048576 := fun x hx => Nat.le_trans (hfs.2 x hx) (by omega)
      have hfn : fs.length ≤ 500001 := by have := HFL.out; omega
      have hallok : NmOK all := by
        rw [← hall0]
        cases wb
        · exact ⟨by simp; omega, fun x hx => by simp at hx; rcases hx with h | h; (exact hfx x h); exact hk.2 x h⟩
        · exact ⟨by simp; omega, fun x hx => hfx x (by simpa using hx)⟩
      obtain ⟨q, hcq⟩ : ∃ q, checkN all = q := ⟨_, rfl⟩
      have hCk := fun W v2 (h : OwnG 9 strV W w.heap.size v2 all) => ref_CheckName v2 all W (StrsAt.of_own h) hallok
      rw [hcq] at hE hCk
      have hown' := hown.weaken hb1.size
      have HFN := Lib.hid hfn
      have H0 : Hid (parseN s.data.toList o = if q = 0 then (all, 0) else ([], q)) := Lib.hid (by rw [HPE.out, hE])
      clear hwk hR hE hfs hfx hcq hwb HR hfn hallok hown hfk hlt
      cases wb with
      | true =>
        have hal : all = fs := by rw [← hall0]; rfl
        subst hal
        clear hall0
        by_cases hq0 : (q != 0) = true
        · have H1 : Hid (parseN s.data.toList o = ([], q)) := Lib.hid (by rw [H0.out, if_neg (by simpa using hq0)])
          clear H0
          go_wp2_with (go_at_call 13; refine (hCk _ _ hown').mono ?_; rintro e w3 ⟨rfl, rfl⟩)
          go_ret2
          exact parseN_fin [] q H1.out rfl (OwnG.nil _ _) hB
        · have hq1 : (q != 0) = false := by simpa using hq0
          have H1 : Hid (parseN s.data.toList o = (all, 0)) := Lib.hid (by rw [H0.out, if_pos (by simpa using hq1)])
          clear H0 hq0
          go_wp2_with (go_at_call 13; refine (hCk _ _ hown').mono ?_; rintro e w3 ⟨rfl, rfl⟩)
          go_ret2
          exact parseN_fin all 0 H1.out rfl (by have := HFL.out; subst this; exact hown') hB
      | false =>
        have hal : all = fs ++ o := by rw [← hall0]; rfl
        subst hal
        clear hall0
        by_cases hq0 : (q != 0) = true
        · have H1 : Hid (parseN s.data.toList o = ([], q)) := Lib.hid (by rw [H0.out, if_neg (by simpa using hq0)])
          clear H0
          go_wp2_with (first | (at_builtin; refine wpl_append_s wr rfl (.tmp 66) (.tmp 67) elemS rfl w.heap.size (.slice au fl cu) fs rfl hown' (.slice a o.length c) o rfl (hA.1.below hB) hO hB.size (by have := HFN.out; unfold maxLen; omega) (by have := HFN.out; omega) ?_; intro v2 w2 hown2 hg2; have hB2 : Below w.heap.size w w2 := hB.grown hg2 hB.size hown'.base_le) | (go_at_call 13; refine (hCk _ _ hown2).mono ?_; rintro e w3 ⟨rfl, rfl⟩))
          go_ret2
          exact parseN_fin [] q H1.out rfl (OwnG.nil _ _) hB2
        · have hq1 : (q != 0) = false := by simpa using hq0
          have H1 : Hid (parseN s.data.toList o = (fs ++ o, 0)) := Lib.hid (by rw [H0.out, if_pos (by simpa using hq1)])
          clear H0 hq0
          go_wp2_with (first | (at_builtin; refine wpl_append_s wr rfl (.tmp 66) (.tmp 67) elemS rfl w.heap.size (.slice au fl cu) fs rfl hown' (.slice a o.length c) o rfl (hA.1.below hB) hO hB.size (by have := HFN.out; unfold maxLen; omega) (by have := HFN.out; omega) ?_; intro v2 w2 hown2 hg2; have hB2 : Below w.heap.size w w2 := hB.grown hg2 hB.size hown'.base_le) | (go_at_call 13; refine (hCk _ _ hown2).mono ?_; rintro e w3 ⟨rfl, rfl⟩))
          go_ret2
          exact parseN_fin (fs ++ o) 0 H1.out rfl hown2 hB2
end Go.Proofs.Ytoohhoillblaoaa
