/-
  The document's reading of escapes (package toponymref6): Octets, ParseLabel: what label.Parse reads.
-/
import Derived.Test.YtoohhoillblaoaaLabF
import Derived.Test.YtoohhoillblaoaaRefA
namespace Go.Proofs.Ytoohhoillblaoaa
open Go.RowKit Go.Shelf

section
variable (s : ByteArray) (k : Nat)
theorem rd_dot (h : k < s.size) (h1 : ((s[k].toNat : Int) == 46) = true) : readM (s.data.toList.drop k) = (0, 0, 2) := by
  rw [drop_cons_get s k h]; have : s[k] = 46 := u8_is (n := 46) (by omega) h1
  simp [readM, this]
theorem rd_plain (h : k < s.size) (h1 : ((s[k].toNat : Int) == 46) = false) (h2 : ((s[k].toNat : Int) != 92) = true) : readM (s.data.toList.drop k) = (s[k], 1, 0) := by
  rw [drop_cons_get s k h]; have e1 : s[k] ≠ 46 := u8_isnt (n := 46) (by omega) h1
  have e2 : s[k] ≠ 92 := u8_isnt (n := 92) (by omega) (by simpa using h2)
  simp [readM, e1, e2]
theorem rd_one (h : k < s.size) (h2 : ((s[k].toNat : Int) != 92) = false) (h3 : s.size ≤ k + 1) : readM (s.data.toList.drop k) = (0, 0, 2) := by
  rw [drop_cons_get s k h, u8_92 h2, List.drop_eq_nil_of_le (by rw [size_data]; omega)]; simp [readM]
theorem rd_sign (h : k + 1 < s.size) (h2 : ((s[k].toNat : Int) != 92) = false) (h3 : digitU s[k + 1] = false) : readM (s.data.toList.drop k) = (s[k + 1], 2, 0) := by
  rw [drop_cons_get s k (by omega), drop_cons_get s (k + 1) h, u8_92 h2]; simp [readM, h3]
theorem rd_short (h : k + 1 < s.size) (h2 : ((s[k].toNat : Int) != 92) = false) (h3 : digitU s[k + 1] = true) (h4 : s.size ≤ k + 3) : readM (s.data.toList.drop k) = (0, 0, 2) := by
  rw [drop_cons_get s k (by omega), drop_cons_get s (k + 1) h, u8_92 h2]
  have hl : (s.data.toList.drop (k + 1 + 1)).length < 2 := by rw [List.length_drop, size_data]; omega
  match hd : s.data.toList.drop (k + 1 + 1), hl with
  | [], _ => simp [readM, h3]
  | [_], _ => simp [readM, h3]
theorem drop4 (h : k + 3 < s.size) : s.data.toList.drop k = s[k] :: s[k + 1] :: s[k + 2] :: s[k + 3] :: s.data.toList.drop (k + 4) := by
  rw [drop_cons_get s k (by omega), drop_cons_get s (k + 1) (by omega), drop_cons_get s (k + 2) (by omega), drop_cons_get s (k + 3) (by omega)]
theorem rd_bad (h : k + 3 < s.size) (h2 : ((s[k].toNat : Int) != 92) = false) (h3 : digitU s[k + 1] = true) (h4 : ¬ (digitU s[k + 2] = true ∧ digitU s[k + 3] = true)) : readM (s.data.toList.drop k) = (0, 0, 2) := by
  rw [drop4 s k h, u8_92 h2]; simp only [readM, h3]; simp [h4]
theorem rd_over (h : k + 3 < s.size) (h2 : ((s[k].toNat : Int) != 92) = false) (h3 : digitU s[k + 1] = true) (h4 : digitU s[k + 2] = true) (h5 : digitU s[k + 3] = true)
    (h6 : 255 < ((s[k + 1].toNat : Int) - 48) * 100 + ((s[k + 2].toNat : Int) - 48) * 10 + ((s[k + 3].toNat : Int) - 48)) : readM (s.data.toList.drop k) = (0, 0, 7) := by
  have b1 := digit_bounds h3; have b2 := digit_bounds h4; have b3 := digit_bounds h5
  rw [drop4 s k h, u8_92 h2]; simp only [readM, h3, h4, h5]
  rw [if_pos (by omega : 255 < (s[k + 1].toNat - 48) * 100 + (s[k + 2].toNat - 48) * 10 + (s[k + 3].toNat - 48))]; simp
theorem rd_ok (h : k + 3 < s.size) (h2 : ((s[k].toNat : Int) != 92) = false) (h3 : digitU s[k + 1] = true) (h4 : digitU s[k + 2] = true) (h5 : digitU s[k + 3] = true)
    (h6 : ((s[k + 1].toNat : Int) - 48) * 100 + ((s[k + 2].toNat : Int) - 48) * 10 + ((s[k + 3].toNat : Int) - 48) ≤ 255) :
    ∃ c : UInt8, readM (s.data.toList.drop k) = (c, 4, 0) ∧ (c.toNat : Int) = ((s[k + 1].toNat : Int) - 48) * 100 + ((s[k + 2].toNat : Int) - 48) * 10 + ((s[k + 3].toNat : Int) - 48) := by
  have b1 := digit_bounds h3; have b2 := digit_bounds h4; have b3 := digit_bounds h5
  refine ⟨UInt8.ofNat ((s[k + 1].toNat - 48) * 100 + (s[k + 2].toNat - 48) * 10 + (s[k + 3].toNat - 48)), ?_, ?_⟩
  · rw [drop4 s k h, u8_92 h2]; simp only [readM, h3, h4, h5]
    rw [if_neg (by omega : ¬ 255 < (s[k + 1].toNat - 48) * 100 + (s[k + 2].toNat - 48) * 10 + (s[k + 3].toNat - 48))]; simp
  · rw [UInt8.toNat_ofNat']; omega
end

def OctPost (s : ByteArray) (w : World) (e : Ending) (w' : World) : Prop :=
  e = .returned (.tuple #[.string ⟨(scan s.data.toList).1.toArray⟩, .int .i64 (scan s.data.toList).2]) ∧ Below w.heap.size w w'
theorem oct_fin {s : ByteArray} {w w' : World} {e : Ending} (l : List UInt8) (er : Int) (h : scan s.data.toList = (l, er)) (he : e = .returned (.tuple #[.string ⟨l.toArray⟩, .int .i64 er])) (hw : Below w.heap.size w w') : OctPost s w e w' := by
  unfold OctPost; rw [h]; exact ⟨he, hw⟩
theorem drop_ne (s : ByteArray) (k : Nat) (h : k < s.size) : s.data.toList.drop k ≠ [] := by
  intro e; have := congrArg List.length e; rw [List.length_drop, size_data] at this; simp at this; omega
theorem oct_err {s : ByteArray} {k : Nat} {xs : List UInt8} {er : Int} {c : UInt8} {z : Nat} (hJ : scan s.data.toList = join xs (scan (s.data.toList.drop k))) (hk : k < s.size) (hr : readM (s.data.toList.drop k) = (c, z, er)) (he : er ≠ 0) :
    scan s.data.toList = ([], er) := by
  rw [hJ, scan_err (drop_ne s k hk) (by rw [hr]; exact he), hr]; unfold join; rw [if_neg he]
theorem oct_next {s : ByteArray} {k : Nat} {xs : List UInt8} {c : UInt8} {z : Nat} (hJ : scan s.data.toList = join xs (scan (s.data.toList.drop k))) (hk : k < s.size) (hr : readM (s.data.toList.drop k) = (c, z, 0)) :
    scan s.data.toList = join (xs ++ [c]) (scan (s.data.toList.drop (k + z))) := by
  rw [hJ, scan_ok (drop_ne s k hk) (by rw [hr]), hr, join_join, List.drop_drop]

set_option maxRecDepth 100000 in
set_option maxHeartbeats 4000000 in
theorem ref_Octets (s : ByteArray) (w : World) (hs : s.size ≤ 35184372088000) :
    Calls Try.prog 66 #[.string s, .bool false] w (OctPost s w) := by
  go_enter Try.func66, Try.ntmps66
  go_wp2
  go_loopw [6, 7] (fun v i wr => ∃ (k : Nat) (xs : List UInt8), i = .int .i64 k ∧ k ≤ s.size ∧ xs.length ≤ k ∧ v = .string ⟨xs.toArray⟩ ∧ Below w.heap.size w wr ∧ Hid (scan s.data.toList = join xs (scan (s.data.toList.drop k)))) (fun _ i _ => s.size - (intOf i).toNat)
  case atStart => exact ⟨0, [], rfl, Nat.zero_le _, Nat.zero_le _, rfl, Below.refl _ _, by exact Lib.hid (by simpa using join_nil s.data.toList)⟩
  case round =>
    obtain ⟨k, xs, rfl, hk, hxs, rfl, hB, HJ⟩ := hrel
    have hxz : (⟨xs.toArray⟩ : ByteArray).size ≤ k := by show xs.toArray.size ≤ k; simpa using hxs
    by_cases hlt : k < s.size
    · by_cases d : ((s[k].toNat : Int) == 46) = true
      · have R := Lib.hid (oct_err HJ.out hlt (rd_dot s k hlt d) (by decide))
        go_wp2
        go_ret2
        exact oct_fin [] 2 R.out rfl hB
      have d1 : ((s[k].toNat : Int) == 46) = false := by simpa using d
      clear d
      by_cases p : ((s[k].toNat : Int) != 92) = true
      · have R := Lib.hid (oct_next HJ.out hlt (rd_plain s k hlt d1 p))
        have hx1 := extract_one s k hlt
        have a1 := run_string_add_sum (P := Try.prog) wr ⟨xs.toArray⟩ ⟨#[s[k]]⟩ (by show _ + 1 ≤ _; omega)
        have e1 : (⟨xs.toArray⟩ : ByteArray) ++ ⟨#[s[k]]⟩ = ⟨(xs ++ [s[k]]).toArray⟩ := mk_append xs [s[k]]
        rw [e1] at a1
        clear e1
        go_wp2
        go_roundw
        case rel => exact ⟨k + 1, xs ++ [s[k]], by go_num, by omega, by simp; omega, rfl, hB, R⟩
        case measure => simp [intOf]; omega
      have p1 : ((s[k].toNat : Int) != 92) = false := by simpa using p
      clear p
      by_cases h1 : k + 1 < s.size
      · by_cases g : digitU s[k + 1] = true
        · by_cases h3 : k + 3 < s.size
          · have h3i : (k : Int) + 3 < (s.size : Int) := by omega
            by_cases g2 : digitU s[k + 2] = true
            · by_cases g3 : digitU s[k + 3] = true
              · have b1 := digit_bounds g
                have b2 := digit_bounds g2
                have b3 := digit_bounds g3
                have l1 : 48 ≤ (s[k + 1].toNat : Int) := by omega
                have l2 : 48 ≤ (s[k + 2].toNat : Int) := by omega
                have l3 : 48 ≤ (s[k + 3].toNat : Int) := by omega
                have u1 : (s[k + 1].toNat : Int) ≤ 57 := by omega
                have u2 : (s[k + 2].toNat : Int) ≤ 57 := by omega
                have u3 : (s[k + 3].toNat : Int) ≤ 57 := by omega
                clear b1 b2 b3
                by_cases ho : 255 < ((s[k + 1].toNat : Int) - 48) * 100 + ((s[k + 2].toNat : Int) - 48) * 10 + ((s[k + 3].toNat : Int) - 48)
                · have R := Lib.hid (oct_err HJ.out hlt (rd_over s k h3 p1 g g2 g3 ho) (by decide))
                  go_wp2_with (go_at_call 73; refine (ref_Digit _ _).mono ?_; rintro e w' ⟨rfl, rfl⟩)
                  go_quiet (fail)
                  go_wp2
                  go_ret2
                  exact oct_fin [] 7 R.out rfl (below_drewN hB _)
                · have ho2 : ((s[k + 1].toNat : Int) - 48) * 100 + ((s[k + 2].toNat : Int) - 48) * 10 + ((s[k + 3].toNat : Int) - 48) ≤ 255 := by omega
                  obtain ⟨c, hc, hcv⟩ := rd_ok s k h3 p1 g g2 g3 ho2
                  have R := Lib.hid (oct_next HJ.out hlt hc)
                  have HCV := Lib.hid hcv
                  clear hc hcv ho HJ
                  go_wp2_with (go_at_call 73; refine (ref_Digit _ _).mono ?_; rintro e w' ⟨rfl, rfl⟩)
                  go_quiet (fail)
                  rw [← HCV.out]
                  obtain ⟨wq, hwq⟩ : ∃ wq, wr.drewN nq = wq := ⟨_, rfl⟩
                  rw [hwq]
                  have hBq : Below w.heap.size w wq := by rw [← hwq]; exact below_drewN hB _
                  clear hwq
                  have hc255 : (c.toNat : Int) ≤ 255 := by have := c.toNat_lt; omega
                  have hc0 : 0 ≤ (c.toNat : Int) := by omega
                  have hback : (convert 52 9 (.slice (some ⟨wq.heap.size, 0, none⟩) 1 1)).run Try.prog (wq.alloc (.cells #[.int .u8 (c.toNat : Int)] 5)) = .ok (.string ⟨#[c]⟩) (wq.alloc (.cells #[.int .u8 (c.toNat : Int)] 5)) := by
                    refine run_convert_bytes_back _ _ _ _ _ 1 [c] Try.underlying52 Try.underlying5 Try.underlying9 ?_
                    intro j hj
                    refine cells_new wq _ 5 j _ ?_
                    obtain rfl : j = 0 := by simpa using hj
                    rfl
                  have a1 := fun W => run_string_add_sum (P := Try.prog) W ⟨xs.toArray⟩ ⟨#[c]⟩ (by show _ + 1 ≤ _; omega)
                  have e1 : (⟨xs.toArray⟩ : ByteArray) ++ ⟨#[c]⟩ = ⟨(xs ++ [c]).toArray⟩ := mk_append xs [c]
                  rw [e1] at a1
                  clear e1 HCV
                  have hB2 : Below w.heap.size w (wq.alloc (.cells #[.int .u8 (c.toNat : Int)] 5)) := hBq.alloc hBq.size _
                  go_wp2
                  go_roundw
                  case rel => exact ⟨k + 4, xs ++ [c], by go_num, by omega, by simp; omega, rfl, hB2, R⟩
                  case measure => simp [intOf]; omega
              · have g4 : digitU s[k + 3] = false := by simpa using g3
                have R := Lib.hid (oct_err HJ.out hlt (rd_bad s k h3 p1 g (fun h => g3 h.2)) (by decide))
                clear g3
                go_wp2_with (go_at_call 73; refine (ref_Digit _ _).mono ?_; rintro e w' ⟨rfl, rfl⟩)
                go_ret2
                exact oct_fin [] 2 R.out rfl hB
            · have g4 : digitU s[k + 2] = false := by simpa using g2
              have R := Lib.hid (oct_err HJ.out hlt (rd_bad s k h3 p1 g (fun h => g2 h.1)) (by decide))
              clear g2
              go_wp2_with (go_at_call 73; refine (ref_Digit _ _).mono ?_; rintro e w' ⟨rfl, rfl⟩)
              go_ret2
              exact oct_fin [] 2 R.out rfl hB
          · have R := Lib.hid (oct_err HJ.out hlt (rd_short s k h1 p1 g (by omega)) (by decide))
            have h3i : (s.size : Int) ≤ (k : Int) + 3 := by omega
            go_wp2_with (go_at_call 73; refine (ref_Digit _ _).mono ?_; rintro e w' ⟨rfl, rfl⟩)
            go_ret2
            exact oct_fin [] 2 R.out rfl hB
        · have g1 : digitU s[k + 1] = false := by simpa using g
          have R := Lib.hid (oct_next HJ.out hlt (rd_sign s k h1 p1 g1))
          have hx1 : s.extract (k + 1) (k + 2) = ⟨#[s[k + 1]]⟩ := extract_one s (k + 1) h1
          have a1 := run_string_add_sum (P := Try.prog) wr ⟨xs.toArray⟩ ⟨#[s[k + 1]]⟩ (by show _ + 1 ≤ _; omega)
          have e1 : (⟨xs.toArray⟩ : ByteArray) ++ ⟨#[s[k + 1]]⟩ = ⟨(xs ++ [s[k + 1]]).toArray⟩ := mk_append xs [s[k + 1]]
          rw [e1] at a1
          clear e1 g
          go_wp2_with (go_at_call 73; refine (ref_Digit _ _).mono ?_; rintro e w' ⟨rfl, rfl⟩)
          go_roundw
          case rel => exact ⟨k + 2, xs ++ [s[k + 1]], by go_num, by omega, by simp; omega, rfl, hB, R⟩
          case measure => simp [intOf]; omega
      · have R := Lib.hid (oct_err HJ.out hlt (rd_one s k hlt p1 (by omega)) (by decide))
        have h1i : (s.size : Int) ≤ (k : Int) + 1 := by omega
        go_wp2
        go_ret2
        exact oct_fin [] 2 R.out rfl hB
    · obtain rfl : k = s.size := by omega
      have R : Hid (scan s.data.toList = (xs, 0)) := Lib.hid (by rw [HJ.out, List.drop_eq_nil_of_le (by simp), scan_nil]; unfold join; simp)
      clear HJ
      go_wp2
      go_ret2
      exact oct_fin xs 0 R.out rfl hB

theorem scanM_len : ∀ (n : Nat) (l : List UInt8), l.length ≤ n → (scan l).1.length ≤ l.length := by
  intro n
  induction n with
  | zero => intro l h; obtain rfl : l = [] := List.eq_nil_of_length_eq_zero (by omega); simp [scan_nil]
  | succ n ih =>
    intro l h
    by_cases h0 : l = []
    · subst h0; simp [scan_nil]
    by_cases h1 : (readM l).2.2 = 0
    · have hs := readM_size h0 h1
      rw [scan_ok h0 h1]
      unfold join
      have h2 := ih (l.drop (readM l).2.1) (by rw [List.length_drop]; omega)
      rw [List.length_drop] at h2
      split
      · simp; omega
      · simp
    · rw [scan_err h0 h1]; simp

set_option maxHeartbeats 1000000 in
theorem ref_ParseLabel (s : ByteArray) (w : World) (hs : s.size ≤ 35184372088000) :
    Calls Try.prog 52 #[.string s] w (ParsePost s w) := by
  obtain ⟨⟨l, er⟩, hq⟩ : ∃ q, scan s.data.toList = q := ⟨_, rfl⟩
  have hlen : l.length ≤ s.size := by have := scanM_len _ s.data.toList (Nat.le_refl _); rw [hq, size_data] at this; exact this
  have hO : ∀ W, Calls Try.prog 66 #[.string s, .bool false] W fun e w' => e = .returned (.tuple #[.string ⟨l.toArray⟩, .int .i64 er]) ∧ Below W.heap.size W w' := fun W => by
    refine (ref_Octets s W hs).mono ?_
    rintro e w' ⟨he, hb⟩
    rw [hq] at he; exact ⟨he, hb⟩
  have hC := fun W => ref_CheckLabel ⟨l.toArray⟩ W (by show l.toArray.size ≤ _; unfold maxLen; simp; omega)
  have hP : parseM s.data.toList = (if er = 0 then (if checkLabelM l = 0 then (l, 0) else ([], checkLabelM l)) else ([], er)) := by unfold parseM; rw [hq]
  clear hq hlen
  by_cases h0 : er = 0
  · subst h0
    rw [if_pos rfl] at hP
    by_cases h1 : checkLabelM l = 0
    · rw [if_pos h1] at hP
      have hC1 : ∀ W, Calls Try.prog 41 #[.string ⟨l.toArray⟩] W fun e w' => e = .returned (.int .i64 0) ∧ W = w' := fun W => by have := hC W; simp only [h1] at this; exact this
      have R := Lib.hid hP; clear hP h1 hC
      go_enter Try.func52, Try.ntmps52
      go_wp2_with (first | (go_at_call 66; refine (hO _).mono ?_; rintro e w1 ⟨rfl, hb⟩) | (go_at_call 41; refine (hC1 _).mono ?_; rintro e w2 ⟨rfl, rfl⟩))
      go_ret2
      exact parse_fin l 0 R.out rfl hb
    · rw [if_neg h1] at hP
      have hne : ((checkLabelM l : Int) != 0) = true := by simpa using h1
      have hC1 : ∀ W, Calls Try.prog 41 #[.string ⟨l.toArray⟩] W fun e w' => e = .returned (.int .i64 (checkLabelM l)) ∧ W = w' := fun W => by have := hC W; simpa using this
      have R := Lib.hid hP; clear hP h1 hC
      go_enter Try.func52, Try.ntmps52
      go_wp2_with (first | (go_at_call 66; refine (hO _).mono ?_; rintro e w1 ⟨rfl, hb⟩) | (go_at_call 41; refine (hC1 _).mono ?_; rintro e w2 ⟨rfl, rfl⟩))
      go_ret2
      exact parse_fin [] _ R.out rfl hb
  · rw [if_neg h0] at hP
    have hne : ((er : Int) != 0) = true := by simpa using h0
    have hne2 : ((er : Int) == 0) = false := by simpa using h0
    have R := Lib.hid hP; clear hP h0 hC
    go_enter Try.func52, Try.ntmps52
    go_wp2_with (go_at_call 66; refine (hO _).mono ?_; rintro e w1 ⟨rfl, hb⟩)
    go_ret2
    exact parse_fin [] er R.out rfl hb

end Go.Proofs.Ytoohhoillblaoaa
