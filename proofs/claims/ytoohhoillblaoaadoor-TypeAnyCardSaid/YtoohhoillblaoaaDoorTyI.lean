/-
  Package rtype: Text, Known, Parse.
-/
import Derived.Test.YtoohhoillblaoaaDoorTyH
import Derived.Test.YtoohhoillblaoaaDoorTyF
import Derived.Test.YtoohhoillblaoaaDoorShelf
import Derived.Lib.AppendIntMem
namespace Go.Proofs.YtoohhoillblaoaaDoor
open Go.RowKit Go.Shelf

/-- The library's table of powers of ten lies as its text lays it. -/
def Tab (W : World) : Prop := Lib.TabIs Tryd.prog W "internal/strconv.uint64pow10" .u64 Lib.pow10Tab
theorem Tab.below {W W' : World} (h : Tab W) (hb : Below W.heap.size W W') : Tab W' := (Lib.tabBelow_of_tabIs h) W' hb
theorem itoa_len (n : Int) (h0 : -9223372036854775808 ≤ n) (h1 : n ≤ 9223372036854775807) : (Lib.itoa n).length ≤ 20 := by
  unfold Lib.itoa
  split
  · have := dec_len n.natAbs (by omega); simp only [List.length_cons]; omega
  · have := dec_len n.toNat (by omega); omega
theorem strconv_Itoa (n : Int) (h0 : -9223372036854775808 ≤ n) (h1 : n ≤ 9223372036854775807) (w : World) (hT : Tab w) :
    Calls Tryd.prog 22 #[.int .i64 n] w fun e w' => e = .returned (.string ⟨(Lib.itoa n).toArray⟩) ∧ Below w.heap.size w w' := by
  refine (Tryd.strconv_Itoa n h0 h1 w hT).mono ?_
  rintro e w' ⟨he, k, os, rfl⟩
  exact ⟨he, Lib.below_grow _ w (Nat.le_refl _) k os⟩
theorem typeName_len (t : Int) : (typeNameM t).length ≤ 5 := by
  unfold typeNameM
  cases h : rowOfT t with
  | none => simp
  | some j => exact (typeS_ne j (find_range h).1).2.2

set_option maxHeartbeats 2000000 in
theorem rtype_Text (t : Int) (h0 : -9223372036854775808 ≤ t) (h1 : t ≤ 9223372036854775807) (w : World) (hT : Tab w) :
    Calls Tryd.prog 10 #[.int .i64 t] w fun e w' => e = .returned (.string ⟨(typeTextM t).toArray⟩) ∧ Below w.heap.size w w' := by
  have hV := fun g W h => table_value g t W h
  obtain ⟨s, hs⟩ : ∃ s, (⟨(typeNameM t).toArray⟩ : ByteArray) = s := ⟨_, rfl⟩
  rw [hs] at hV
  have HS := Lib.hid hs
  clear hs
  cases hk : knownM t with
  | true =>
    rw [hk] at hV
    have H0 : Hid (typeTextM t = typeNameM t) := Lib.hid (by
      unfold knownM at hk; unfold typeTextM typeNameM
      cases h : rowOfT t with
      | none => rw [h] at hk; cases hk
      | some j => rfl)
    clear hk
    go_enter Tryd.func10, Tryd.ntmps10
    go_wp2_with (first | (go_at_call 16; refine (rtype_names _).mono ?_; rintro e w1 ⟨g, rfl, hN, hb1⟩) | (go_at_call 21; refine (hV _ _ hN).mono ?_; rintro e w2 ⟨rfl, hb2⟩))
    go_ret
    exact ⟨by rw [H0.out, HS.out]; rfl, hb1.trans (hb2.mono hb1.size)⟩
  | false =>
    rw [hk] at hV
    have H0 : Hid (typeTextM t = [84, 89, 80, 69] ++ Lib.itoa t) := Lib.hid (by
      unfold knownM at hk; unfold typeTextM
      cases h : rowOfT t with
      | none => rfl
      | some j => rw [h] at hk; cases hk)
    have hl := itoa_len t h0 h1
    have hI := fun W h => strconv_Itoa t h0 h1 W h
    have a1 := fun W => run_string_add_sum (P := Tryd.prog) W ⟨#[84, 89, 80, 69]⟩ ⟨(Lib.itoa t).toArray⟩ (by rw [mk_size (Lib.itoa t)]; show 4 + (Lib.itoa t).length ≤ _; omega)
    have e1 : (⟨#[84, 89, 80, 69]⟩ : ByteArray) ++ ⟨(Lib.itoa t).toArray⟩ = ⟨([84, 89, 80, 69] ++ Lib.itoa t).toArray⟩ := mk_append [84, 89, 80, 69] _
    rw [e1] at a1
    clear e1 hk hl
    generalize (⟨(Lib.itoa t).toArray⟩ : ByteArray) = dt at *
    go_enter Tryd.func10, Tryd.ntmps10
    go_wp2_with (first | (go_at_call 16; refine (rtype_names _).mono ?_; rintro e w1 ⟨g, rfl, hN, hb1⟩) | (go_at_call 21; refine (hV _ _ hN).mono ?_; rintro e w2 ⟨rfl, hb2⟩; have hb12 := hb1.trans (hb2.mono hb1.size)) | (go_at_call 22; refine (hI _ (hT.below hb12)).mono ?_; rintro e w3 ⟨rfl, hb3⟩))
    go_ret
    exact ⟨by rw [H0.out]; rfl, hb12.trans (hb3.mono hb12.size)⟩

set_option maxHeartbeats 2000000 in
theorem rtype_Known (t : Int) (w : World) :
    Calls Tryd.prog 8 #[.int .i64 t] w fun e w' => e = .returned (.bool (knownM t)) ∧ Below w.heap.size w w' := by
  have hV := fun g W h => table_value g t W h
  generalize (⟨(typeNameM t).toArray⟩ : ByteArray) = s at *
  generalize knownM t = b at *
  go_enter Tryd.func8, Tryd.ntmps8
  go_wp2_with (first | (go_at_call 16; refine (rtype_names _).mono ?_; rintro e w1 ⟨g, rfl, hN, hb1⟩) | (go_at_call 21; refine (hV _ _ hN).mono ?_; rintro e w2 ⟨rfl, hb2⟩))
  go_ret
  exact ⟨rfl, hb1.trans (hb2.mono hb1.size)⟩

set_option maxHeartbeats 4000000 in
theorem rtype_Parse (s : ByteArray) (w : World) (hs : s.size ≤ 35184372088000) :
    Calls Tryd.prog 6 #[.string s] w (ParseTPost s.data.toList w) := by
  have hG := fun W => rtype_great s W hs
  obtain ⟨G, hG0, hGz, _⟩ := str_of (greatL s.data.toList)
  have hGG : (⟨(greatL s.data.toList).toArray⟩ : ByteArray) = G := ba_ext (by rw [hG0])
  rw [hGG] at hG
  have hGs : G.size = s.size := by rw [hGz]; simp [greatL]
  have hK := fun g W h => table_keyOf g G W h
  rw [hG0] at hK
  have hGb : (G.size : Int) ≤ 35184372088000 := by omega
  clear hGG hGz
  cases hr : rowOfS (greatL s.data.toList) with
  | some j =>
    have H0 : Hid (parseTypeM s.data.toList = (typeT j, 0)) := Lib.hid (parseType_some hr)
    have hk : keyOfM (greatL s.data.toList) = (typeT j, true) := by unfold keyOfM; rw [hr]
    rw [hk] at hK
    simp only at hK
    clear hr hk hG0 hGs
    go_enter Tryd.func6, Tryd.ntmps6
    go_wp2_with (first | (go_at_call 14; refine (hG _).mono ?_; rintro e w0 ⟨rfl, hb0⟩) | (go_at_call 16; refine (rtype_names _).mono ?_; rintro e w1 ⟨g, rfl, hN, hb1⟩) | (go_at_call 15; refine (hK _ _ hN).mono ?_; rintro e w2 ⟨rfl, hb2⟩))
    go_ret2
    exact ptype_fin _ 0 H0.out rfl (hb0.trans ((hb1.trans (hb2.mono hb1.size)).mono hb0.size))
  | none =>
    have HP := Lib.hid (parseType_none hr)
    have hk : keyOfM (greatL s.data.toList) = (0, false) := by unfold keyOfM; rw [hr]
    rw [hk] at hK
    simp only at hK
    have HGG := Lib.hid (And.intro hG0 hGs)
    clear hr hk hG0 hGs
    by_cases h4 : (G.size : Int) < 4
    · have H0 : Hid (parseTypeM s.data.toList = (0, 6)) := Lib.hid (by
        rw [HP.out, if_neg]
        intro h
        have h2 := congrArg List.length h
        rw [← HGG.out.1, List.length_take, size_data] at h2
        simp at h2; omega)
      clear HP HGG
      go_enter Tryd.func6, Tryd.ntmps6
      go_wp2_with (first | (go_at_call 14; refine (hG _).mono ?_; rintro e w0 ⟨rfl, hb0⟩) | (go_at_call 16; refine (rtype_names _).mono ?_; rintro e w1 ⟨g, rfl, hN, hb1⟩) | (go_at_call 15; refine (hK _ _ hN).mono ?_; rintro e w2 ⟨rfl, hb2⟩))
      go_ret2
      exact ptype_fin 0 6 H0.out rfl (hb0.trans ((hb1.trans (hb2.mono hb1.size)).mono hb0.size))
    · have h4' : (4 : Int) ≤ (G.size : Int) := by omega
      clear h4
      have hx : (G.extract 0 4).toList = (greatL s.data.toList).take 4 := by rw [toList_data, Lib.Pa.extract_upto_list, HGG.out.1]
      have hy : (G.extract 4 G.size).data.toList = (greatL s.data.toList).drop 4 := by rw [Lib.extract_to_end, HGG.out.1]
      have hy2 : (G.extract 4 G.size).size ≤ maxLen := by rw [← size_data, hy, ← HGG.out.1, List.length_drop, size_data]; unfold maxLen; omega
      have hnm : numM ((greatL s.data.toList).drop 4) 65535 = numM (s.data.toList.drop 4) 65535 := by
        rw [show (greatL s.data.toList).drop 4 = (s.data.toList.drop 4).map greatU by unfold greatL; rw [List.map_drop]]
        exact numM_map greatU digit_great _ _
      have hNm := fun W => number_Parse (G.extract 4 G.size) 65535 W hy2 (by omega)
      unfold NumPost at hNm
      rw [hy, hnm] at hNm
      clear hy hy2 hnm
      by_cases ht : (greatL s.data.toList).take 4 = [84, 89, 80, 69]
      · have e4 : ((G.extract 0 4).toList == [84, 89, 80, 69]) = true := by rw [hx, ht]; rfl
        have HE : Hid (parseTypeM s.data.toList = endType (s.data.toList.drop 4)) := Lib.hid (by rw [HP.out, if_pos ht])
        have her := numM_er (s.data.toList.drop 4) 65535
        have hee : endType (s.data.toList.drop 4) = (if (numM (s.data.toList.drop 4) 65535).2 = 2 then ((0 : Int), (6 : Int)) else if (numM (s.data.toList.drop 4) 65535).2 ≠ 0 ∨ (numM (s.data.toList.drop 4) 65535).1 = 0 then (0, 7) else (((numM (s.data.toList.drop 4) 65535).1 : Int), 0)) := rfl
        obtain ⟨⟨v, er⟩, hq⟩ : ∃ q, numM (s.data.toList.drop 4) 65535 = q := ⟨_, rfl⟩
        rw [hq] at hNm her hee
        simp only at hNm her hee
        have HEE := Lib.hid hee
        clear hee hq hx ht HP HGG
        have hcase : ((er = 0 ∧ ((v : Int) == 0) = false) ∧ parseTypeM s.data.toList = ((v : Int), 0)) ∨ (er = 2 ∧ parseTypeM s.data.toList = (0, 6)) ∨ (((er = 0 ∧ v = 0) ∨ er = 7) ∧ parseTypeM s.data.toList = (0, 7)) := by
          rcases her with rfl | rfl | rfl
          · by_cases hv : v = 0
            · subst hv; right; right; exact ⟨.inl ⟨rfl, rfl⟩, by rw [HE.out, HEE.out]; rfl⟩
            · left; refine ⟨⟨rfl, by simp; omega⟩, by rw [HE.out, HEE.out, if_neg (by omega), if_neg (by omega)]⟩
          · right; left; exact ⟨rfl, by rw [HE.out, HEE.out]; rfl⟩
          · right; right; exact ⟨.inr rfl, by rw [HE.out, HEE.out, if_neg (by omega), if_pos (by omega)]⟩
        clear her HE HEE
        rcases hcase with ⟨⟨rfl, hv0⟩, hc⟩ | ⟨rfl, hc⟩ | ⟨⟨rfl, rfl⟩ | rfl, hc⟩
        all_goals
          have H0 := Lib.hid hc
          clear hc
          go_enter Tryd.func6, Tryd.ntmps6
          go_wp2_with (first | (go_at_call 14; refine (hG _).mono ?_; rintro e w0 ⟨rfl, hb0⟩) | (go_at_call 16; refine (rtype_names _).mono ?_; rintro e w1 ⟨g, rfl, hN, hb1⟩) | (go_at_call 15; refine (hK _ _ hN).mono ?_; rintro e w2 ⟨rfl, hb2⟩) | (go_at_call 17; refine (hNm _).mono ?_; rintro e w3 ⟨rfl, rfl⟩))
          go_ret2
          exact ptype_fin _ _ H0.out rfl (hb0.trans ((hb1.trans (hb2.mono hb1.size)).mono hb0.size))
      · have e4 : ((G.extract 0 4).toList == [84, 89, 80, 69]) = false := by rw [hx]; simpa using ht
        have H0 : Hid (parseTypeM s.data.toList = (0, 6)) := Lib.hid (by rw [HP.out, if_neg ht])
        clear hx ht HP hNm HGG
        go_enter Tryd.func6, Tryd.ntmps6
        go_wp2_with (first | (go_at_call 14; refine (hG _).mono ?_; rintro e w0 ⟨rfl, hb0⟩) | (go_at_call 16; refine (rtype_names _).mono ?_; rintro e w1 ⟨g, rfl, hN, hb1⟩) | (go_at_call 15; refine (hK _ _ hN).mono ?_; rintro e w2 ⟨rfl, hb2⟩))
        go_ret2
        exact ptype_fin 0 6 H0.out rfl (hb0.trans ((hb1.trans (hb2.mono hb1.size)).mono hb0.size))
end Go.Proofs.YtoohhoillblaoaaDoor
