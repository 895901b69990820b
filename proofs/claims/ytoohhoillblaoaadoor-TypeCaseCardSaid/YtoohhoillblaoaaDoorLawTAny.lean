/-
  TypeAny: any text as a type, or why it is none; any number in words, and back.
-/
import Derived.Test.YtoohhoillblaoaaDoorLawK3
import Derived.OpenShut
import Derived.Deep.QuietTactic
import Derived.BigQuiet
namespace Go.Proofs.YtoohhoillblaoaaDoor
open Go.RowKit Go.Shelf
open Go.ChangeShapes
theorem kt_types (w : World) : Calls Tryd.prog 12 #[] w (AllPost w) := (ref_Types w).mono fun _ _ ⟨g, h1, h2, h3⟩ => ⟨g, 9, h1, h2, h3⟩
theorem kt_rknown (t : Int) (b : Bool) (h : knownM t = b) (w : World) :
    Calls Tryd.prog 9 #[.int .i64 t] w fun e w' => e = .returned (.bool b) ∧ Below w.heap.size w w' := by
  subst h; exact ref_Known t w
theorem below_drewT {B : Nat} {a w : World} (h : Below B a w) (n : Nat) : Below B a (w.drewN n) := h.trans ⟨rfl, rfl, rfl, Nat.le_refl _, fun _ _ => rfl⟩
theorem tab_drew {W : World} (h : Tab W) (n : Nat) : Tab (W.drewN n) := h.below (below_drewT (Below.refl _ _) n)
theorem text_len (n : Nat) (h : n ≤ 65535) : (typeTextM n).length ≤ 35184372088000 := by
  unfold typeTextM
  cases hr : rowOfT (n : Int) with
  | some j => have := (typeS_ne j (find_range hr).1).2.2; simp only; omega
  | none => have := dec_len n (by omega); simp only [Lib.itoa_nonneg, List.length_append, List.length_cons, List.length_nil]; omega

set_option maxRecDepth 100000 in
set_option maxHeartbeats 8000000 in
theorem law3_Any (s : ByteArray) (hs : s.size ≤ maxLen) (t : Int) (ht : (Lit.int .i64 t).wf = true) (w : World) (hT : Tab w) :
    Calls Tryd.prog 3 #[.string s, .int .i64 t] w fun e w' => e = .returned (.bool true) ∧ Below w.heap.size w w' := by
  unfold maxLen at hs
  obtain ⟨ht0, ht1⟩ := bounds_i64 ht
  clear ht
  by_cases hz : 100 < (s.size : Int)
  · go_enter Tryd.func3, Tryd.ntmps3
    have b0 := Below.refl w.heap.size w
    go_wp2_with fail
    refine (law3_known _ hT).mono ?_
    rintro e w1 ⟨rfl, d1⟩
    have qw1 := (b0).trans (d1.mono (b0).size)
    have T_w1 := hT.below d1
    clear b0 hT d1
    go_wp2_with fail
    go_ret
    exact ⟨rfl, qw1⟩
  have hz1 : (s.size : Int) ≤ 100 := by omega
  clear hz
  obtain ⟨⟨v, er⟩, hq⟩ : ∃ q, parseTypeM s.data.toList = q := ⟨_, rfl⟩
  have hP := fun W => kt_parse s v er hq W (by omega)
  have hR := fun W => kt_rparse s v er hq W (by omega)
  have hK := fun W => kt_known t _ rfl W
  have hK2 := fun W => kt_rknown t _ rfl W
  generalize knownM t = kb at *
  clear hq
  by_cases h1 : t < 1
  · go_enter Tryd.func3, Tryd.ntmps3
    have b0 := Below.refl w.heap.size w
    go_wp2_with fail
    refine (law3_known _ hT).mono ?_
    rintro e w1 ⟨rfl, d1⟩
    have qw1 := (b0).trans (d1.mono (b0).size)
    have T_w1 := hT.below d1
    clear b0 hT d1
    go_wp2_with fail
    refine (hP _).mono ?_
    rintro e w2 ⟨rfl, d2⟩
    have qw2 := (qw1).trans (d2.mono (qw1).size)
    have T_w2 := T_w1.below d2
    clear qw1 T_w1 d2
    go_wp2_with fail
    refine (hR _).mono ?_
    rintro e w3 ⟨rfl, d3⟩
    have qw3 := (qw2).trans (d3.mono (qw2).size)
    have T_w3 := T_w2.below d3
    clear qw2 T_w2 d3
    go_wp2_with fail
    refine (hK _).mono ?_
    rintro e w4 ⟨rfl, d4⟩
    have qw4 := (qw3).trans (d4.mono (qw3).size)
    have T_w4 := T_w3.below d4
    clear qw3 T_w3 d4
    go_wp2_with fail
    refine (hK2 _).mono ?_
    rintro e w5 ⟨rfl, d5⟩
    have qw5 := (qw4).trans (d5.mono (qw4).size)
    have T_w5 := T_w4.below d5
    clear qw4 T_w4 d5
    go_wp2_with fail
    go_ret
    exact ⟨rfl, qw5⟩
  by_cases h2 : 65535 < t
  · go_enter Tryd.func3, Tryd.ntmps3
    have b0 := Below.refl w.heap.size w
    go_wp2_with fail
    refine (law3_known _ hT).mono ?_
    rintro e w1 ⟨rfl, d1⟩
    have qw1 := (b0).trans (d1.mono (b0).size)
    have T_w1 := hT.below d1
    clear b0 hT d1
    go_wp2_with fail
    refine (hP _).mono ?_
    rintro e w2 ⟨rfl, d2⟩
    have qw2 := (qw1).trans (d2.mono (qw1).size)
    have T_w2 := T_w1.below d2
    clear qw1 T_w1 d2
    go_wp2_with fail
    refine (hR _).mono ?_
    rintro e w3 ⟨rfl, d3⟩
    have qw3 := (qw2).trans (d3.mono (qw2).size)
    have T_w3 := T_w2.below d3
    clear qw2 T_w2 d3
    go_wp2_with fail
    refine (hK _).mono ?_
    rintro e w4 ⟨rfl, d4⟩
    have qw4 := (qw3).trans (d4.mono (qw3).size)
    have T_w4 := T_w3.below d4
    clear qw3 T_w3 d4
    go_wp2_with fail
    refine (hK2 _).mono ?_
    rintro e w5 ⟨rfl, d5⟩
    have qw5 := (qw4).trans (d5.mono (qw4).size)
    have T_w5 := T_w4.below d5
    clear qw4 T_w4 d5
    go_wp2_with fail
    go_ret
    exact ⟨rfl, qw5⟩
  have h3 : 1 ≤ t := by omega
  have h4 : t ≤ 65535 := by omega
  clear h1 h2
  obtain ⟨n, rfl⟩ : ∃ n : Nat, t = n := ⟨t.toNat, by omega⟩
  obtain ⟨TX, hTX0, hTXz, _⟩ := str_of (typeTextM n)
  have hTT : (⟨(typeTextM n).toArray⟩ : ByteArray) = TX := ba_ext (by rw [hTX0])
  have hTx := fun W h => kt_text n _ rfl ht0 ht1 W h
  have hRx := fun W => ref_TypeText n W (by omega)
  rw [hTT] at hTx hRx
  have hlt : TX.size ≤ 35184372088000 := by rw [hTXz]; exact text_len n (by omega)
  have hPx := fun W => kt_parse TX n 0 (parse_great n (by omega) (by omega) _ (by rw [hTX0]; exact great_text n)) W hlt
  clear hTX0 hTXz hTT hlt
  go_enter Tryd.func3, Tryd.ntmps3
  have b0 := Below.refl w.heap.size w
  go_wp2_with fail
  refine (law3_known _ hT).mono ?_
  rintro e w1 ⟨rfl, d1⟩
  have qw1 := (b0).trans (d1.mono (b0).size)
  have T_w1 := hT.below d1
  clear b0 hT d1
  go_wp2_with fail
  refine (hP _).mono ?_
  rintro e w2 ⟨rfl, d2⟩
  have qw2 := (qw1).trans (d2.mono (qw1).size)
  have T_w2 := T_w1.below d2
  clear qw1 T_w1 d2
  go_wp2_with fail
  refine (hR _).mono ?_
  rintro e w3 ⟨rfl, d3⟩
  have qw3 := (qw2).trans (d3.mono (qw2).size)
  have T_w3 := T_w2.below d3
  clear qw2 T_w2 d3
  go_wp2_with fail
  refine (hK _).mono ?_
  rintro e w4 ⟨rfl, d4⟩
  have qw4 := (qw3).trans (d4.mono (qw3).size)
  have T_w4 := T_w3.below d4
  clear qw3 T_w3 d4
  go_wp2_with fail
  refine (hK2 _).mono ?_
  rintro e w5 ⟨rfl, d5⟩
  have qw5 := (qw4).trans (d5.mono (qw4).size)
  have T_w5 := T_w4.below d5
  clear qw4 T_w4 d5
  go_wp2_with fail
  refine (hTx _ T_w5).mono ?_
  rintro e w6 ⟨rfl, d6⟩
  have qw6 := (qw5).trans (d6.mono (qw5).size)
  have T_w6 := T_w5.below d6
  clear qw5 T_w5 d6
  go_wp2_with fail
  refine (hPx _).mono ?_
  rintro e w7 ⟨rfl, d7⟩
  have qw7 := (qw6).trans (d7.mono (qw6).size)
  have T_w7 := T_w6.below d7
  clear qw6 T_w6 d7
  go_wp2_with fail
  refine (rtype_All _).mono ?_
  rintro e w8 ⟨a8, c8, rfl, h8, d8⟩
  have qw8 := (qw7).trans (d8.mono (qw7).size)
  have T_w8 := T_w7.below d8
  have l_w8 := h8
  clear qw7 T_w7 h8 d8
  go_wp2_with fail
  refine (kt_types _).mono ?_
  rintro e w9 ⟨a9, c9, rfl, h9, d9⟩
  have qw9 := (qw8).trans (d9.mono (qw8).size)
  have T_w9 := T_w8.below d9
  have l_w9 := l_w8.below d9
  have m_w9 := h9
  clear qw8 T_w8 l_w8 h9 d9
  go_wp2_with fail
  go_loopw [13] (fun i wr => ∃ k : Nat, i = .int .i64 k ∧ k ≤ 9 ∧ Tab wr ∧ TRow a8 wr ∧ TRow a9 wr ∧ Below w.heap.size w wr) (fun i _ => 9 - (intOf i).toNat)
  case atStart => exact ⟨0, rfl, by omega, T_w9, l_w9, m_w9, qw9⟩
  case round =>
    obtain ⟨k, rfl, hk, hT2, hl, hm, hB⟩ := hrel
    by_cases hlt : k < 9
    · have c1 := hl.2 k hlt
      have c2 := hm.2 k hlt
      generalize typeT k = x at *
      have hk0 : (0 : Int) ≤ (k : Int) := by omega
      have hk9 : (k : Int) < 9 := by omega
      have hTd := fun n => tab_drew hT2 n
      have hld := fun n => hl.below (below_drewT (Below.refl _ wr) n)
      have hmd := fun n => hm.below (below_drewT (Below.refl _ wr) n)
      have hBd := fun n => below_drewT hB n
      go_wp2
      go_quiet (fail)
      go_wp2
      go_roundw
      case rel => exact ⟨k + 1, by go_num, by omega, hTd _, hld _, hmd _, hBd _⟩
      case measure => simp [intOf]; omega
    · obtain rfl : k = 9 := by omega
      clear hl hm
      go_wp2_with fail
      refine (hTx _ hT2).mono ?_
      rintro e z1 ⟨rfl, d1⟩
      have qz1 := (hB).trans (d1.mono (hB).size)
      have T_z1 := hT2.below d1
      clear hB hT2 d1
      go_wp2_with fail
      refine (hRx _).mono ?_
      rintro e z2 ⟨rfl, d2⟩
      have qz2 := (qz1).trans (d2.mono (qz1).size)
      have T_z2 := T_z1.below d2
      clear qz1 T_z1 d2
      go_wp2_with fail
      go_ret
      exact ⟨rfl, qz2⟩
end Go.Proofs.YtoohhoillblaoaaDoor
