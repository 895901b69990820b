/-
  TokQuotes: what stands in quotes is one word.
-/
import Derived.Test.YtlgbdbaacjahpaaTokKn
import Derived.Test.YtlgbdbaacjahpaaTokQ
namespace Go.Proofs.Ytlgbdbaacjahpaa
open Go.RowKit Go.Shelf
set_option maxRecDepth 20000

set_option maxRecDepth 100000 in
set_option maxHeartbeats 8000000 in
theorem law7_Quotes (s : ByteArray) (w : World) (hs : s.size ≤ maxLen) : Calls Try.prog 6 #[.string s] w fun e w' => e = .returned (.bool true) ∧ Below w.heap.size w w' := by
  unfold maxLen at hs
  by_cases hlen : 200 < (s.size : Int)
  · go_enter Try.func6, Try.ntmps6
    go_wp2_with (go_at_call 7; refine (law7_known _).mono ?_; rintro e w1 ⟨rfl, hb1⟩)
    go_ret
    exact ⟨rfl, hb1⟩
  have hlen' : (s.size : Int) ≤ 200 := by omega
  have hz : s.size ≤ 200 := by omega
  clear hlen hs
  go_enter Try.func6, Try.ntmps6
  go_wp2_with (go_at_call 7; refine (law7_known _).mono ?_; rintro e w1 ⟨rfl, hb1⟩)
  go_loop [3] (fun i => ∃ k : Nat, i = .int .i64 k ∧ k ≤ s.size ∧ Hid (∀ c ∈ s.data.toList.take k, c ≠ 34 ∧ c ≠ 92 ∧ c ≠ 10)) (fun i => s.size - (intOf i).toNat)
  case atStart => exact ⟨0, rfl, Nat.zero_le _, Lib.hid (by simp)⟩
  case round =>
    obtain ⟨k, rfl, hk, HA⟩ := hrel
    by_cases hlt : k < s.size
    · obtain ⟨c, hcv⟩ : ∃ c, s[k]'hlt = c := ⟨_, rfl⟩
      have hti : (k : Int) < (s.size : Int) := by omega
      have HC : Hid (s.data.toList.take (k + 1) = s.data.toList.take k ++ [c]) := Lib.hid (by rw [List.take_succ_eq_append_getElem (by simpa using hlt), ← hcv]; rfl)
      by_cases h1 : c = 34
      · subst h1
        go_wp2
        go_ret
        exact ⟨rfl, hb1⟩
      by_cases h2 : c = 92
      · subst h2
        go_wp2
        go_ret
        exact ⟨rfl, hb1⟩
      by_cases h3 : c = 10
      · subst h3
        go_wp2
        go_ret
        exact ⟨rfl, hb1⟩
      have z1 : ((c.toNat : Int) == 34) = false := c_ne h1 34 rfl
      have z2 : ((c.toNat : Int) == 92) = false := c_ne h2 92 rfl
      have z3 : ((c.toNat : Int) == 10) = false := c_ne h3 10 rfl
      have H1 := Lib.hid h1; have H2 := Lib.hid h2; have H3 := Lib.hid h3
      clear h1 h2 h3
      go_wp2
      go_round
      case rel => exact ⟨k + 1, by go_num, by omega, Lib.hid (by rw [HC.out]; intro d hd; rcases List.mem_append.1 hd with h | h; exact HA.out d h; obtain rfl := List.mem_singleton.1 h; exact ⟨H1.out, H2.out, H3.out⟩)⟩
      case measure => simp [intOf]; omega
    · obtain rfl : k = s.size := by omega
      have HQ : Hid (∀ c ∈ s.data.toList, c ≠ 34 ∧ c ≠ 92 ∧ c ≠ 10) := Lib.hid (fun c hc => HA.out c (by rw [List.take_of_length_le (by simp)]; exact hc))
      clear HA
      go_wp2_with fail
      refine (kn_Entries _ (97 :: 34 :: (s.data.toList ++ [34, 98, 10])) _ (by simp) ((ent_same _).trans (quotes_ent s.data.toList (fun c hc => ⟨(HQ.out c hc).1, (HQ.out c hc).2.1, (HQ.out c hc).2.2⟩))) _ (by rw [ByteArray.size_append, ByteArray.size_append]; show 2 + s.size + 3 ≤ 100000; omega)).mono ?_
      rintro e w2 ⟨a, c, rfl, E, hb2⟩
      have HB := Lib.hid (hb1.trans (hb2.mono hb1.size))
      clear hb1 hb2
      obtain ⟨a', c', e, h⟩ := E
      cases e
      rcases h with h | ⟨g, rfl, hg, hc⟩
      · cases h
      obtain ⟨aw, cw, p0, p1, p2, hw⟩ := hc 0 (by simp)
      rcases hw with h | ⟨gw, rfl, hgw, hcw⟩
      · cases h
      have r0 : w2.cell? ⟨gw, 0, none⟩ = some (.string ⟨#[97]⟩) := (hcw 0 (by simp)).1
      have r1 : w2.cell? ⟨gw, 2, none⟩ = some (.string s) := (hcw 1 (by simp)).1
      have r2 : w2.cell? ⟨gw, 3, none⟩ = some (.bool true) := (hcw 1 (by simp)).2
      have r3 : w2.cell? ⟨gw, 5, none⟩ = some (.bool false) := (hcw 2 (by simp)).2
      have p2' : w2.cell? ⟨g, 2, none⟩ = some (.slice (some ⟨gw, 0, none⟩) 3 cw) := p2
      clear p0 p1 p2 hcw hc
      go_wp2_with fail
      go_ret
      exact ⟨rfl, HB.out⟩
end Go.Proofs.Ytlgbdbaacjahpaa
