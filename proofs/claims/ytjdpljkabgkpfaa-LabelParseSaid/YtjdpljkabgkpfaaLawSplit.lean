/-
  LabelSplit: labels in words, dots between, parted again are these words, as many, each its label.
-/
import Derived.Test.YtjdpljkabgkpfaaSplitM
import Derived.Test.YtjdpljkabgkpfaaStrs
namespace Go.Proofs.Ytjdpljkabgkpfaa
open Go.RowKit Go.Shelf

theorem str_of (l : List UInt8) : ∃ s : ByteArray, s.data.toList = l ∧ s.size = l.length ∧ strV l = .string s := ⟨⟨l.toArray⟩, by simp, by show l.toArray.size = _; simp, rfl⟩
theorem mk_size (l : List UInt8) : (⟨l.toArray⟩ : ByteArray).size = l.length := by show l.toArray.size = _; simp
theorem check_ok {l : List UInt8} (h1 : l.length ≠ 0) (h2 : l.length ≤ 63) : checkLabelM l = 0 := by
  unfold checkLabelM; rw [if_neg (by intro e; simp [e] at h1), if_neg (by omega)]

set_option maxHeartbeats 4000000 in
theorem law1_Split (v : Value) (xs : List (List UInt8)) (w : World) (hA : StrsArg w v xs) : Calls Try.prog 6 #[v] w fun e w' => e = .returned (.bool true) ∧ Below w.heap.size w w' := by
  obtain ⟨hat, hn, hx⟩ := hA
  unfold maxLen at hn
  obtain ⟨a, c, rfl, hcells⟩ := hat
  by_cases h20 : 20 < (xs.length : Int)
  · clear hcells hx
    generalize xs.length = n at *
    go_enter Try.func6, Try.ntmps6
    go_wp2_with (go_at_call 8; refine (law1_known _).mono ?_; rintro e w1 ⟨rfl, hb1⟩)
    go_ret
    exact ⟨rfl, hb1⟩
  have h20' : (xs.length : Int) ≤ 20 := by omega
  clear h20
  rcases hcells with rfl | ⟨b, off, rfl, hb, hcells⟩
  · go_enter Try.func6, Try.ntmps6
    go_wp2_with (go_at_call 8; refine (law1_known _).mono ?_; rintro e w1 ⟨rfl, hb1⟩)
    go_ret
    exact ⟨rfl, hb1⟩
  by_cases hne : xs = []
  · subst hne
    go_enter Try.func6, Try.ntmps6
    go_wp2_with (go_at_call 8; refine (law1_known _).mono ?_; rintro e w1 ⟨rfl, hb1⟩)
    go_ret
    exact ⟨rfl, hb1⟩
  obtain ⟨n, hxn⟩ : ∃ n, xs.length = n := ⟨_, rfl⟩
  have hn0 : ((n : Int) == 0) = false := by
    have : xs.length ≠ 0 := fun h => hne (List.eq_nil_of_length_eq_zero h)
    simp; omega
  rw [hxn] at hn h20' ⊢
  have HXN := Lib.hid hxn; clear hxn
  go_enter Try.func6, Try.ntmps6
  go_wp2_with (go_at_call 8; refine (law1_known _).mono ?_; rintro e w1 ⟨rfl, hb1⟩)
  go_loopw [3, 4] (fun s i wr => ∃ k : Nat, i = .int .i64 k ∧ k ≤ n ∧ s = .string ⟨(joinL (xs.take k)).toArray⟩ ∧ Hid (∀ x ∈ xs.take k, x.length ≠ 0 ∧ x.length ≤ 63) ∧ Below w.heap.size w wr) (fun _ i _ => n - (intOf i).toNat)
  case atStart => exact ⟨0, rfl, Nat.zero_le _, rfl, Lib.hid (by simp), hb1⟩
  case round =>
    obtain ⟨k, rfl, hk, rfl, HL, hbw⟩ := hrel
    by_cases hlt : k < n
    · have hkx : k < xs.length := by rw [HXN.out]; exact hlt
      obtain ⟨sk, hsk0, hskz0, hskv0⟩ := str_of xs[k]
      have HSK := Lib.hid (And.intro hsk0 (And.intro hskz0 hskv0)); clear hsk0 hskz0 hskv0
      have hck : wr.cell? ⟨b, off + k, none⟩ = some (.string sk) := by rw [← HSK.out.2.2]; exact (hbw.cell (p := ⟨b, off + k, none⟩) hb).trans (hcells k hkx)
      have hskm : sk.size ≤ 9223372036854775807 := by have := hx xs[k] (List.getElem_mem hkx); have := HSK.out.2.1; unfold maxLen at *; omega
      by_cases hz : ((sk.size : Int) == 0) = true
      · clear hcells hx
        go_wp2
        go_ret
        exact ⟨rfl, hbw⟩
      have hz0 : ((sk.size : Int) == 0) = false := by simpa using hz
      clear hz
      by_cases h63 : 63 < (sk.size : Int)
      · clear hcells hx
        go_wp2
        go_ret
        exact ⟨rfl, hbw⟩
      have h63' : (sk.size : Int) ≤ 63 := by omega
      clear h63
      have hskn : sk.size ≠ 0 := by intro e; rw [e] at hz0; simp at hz0
      have htake : xs.take (k + 1) = xs.take k ++ [xs[k]] := List.take_succ_eq_append_getElem hkx
      have HL2 : Hid (∀ x ∈ xs.take (k + 1), x.length ≠ 0 ∧ x.length ≤ 63) := Lib.hid (by
        intro x hx; rw [htake] at hx; simp only [List.mem_append, List.mem_singleton] at hx
        rcases hx with hx | rfl
        · exact HL.out x hx
        · have := HSK.out.2.1; omega)
      have hjl := joinL_le (xs.take k) (fun x hx => (HL.out x hx).2)
      have hjl2 : (joinL (xs.take k)).length ≤ 5060 := by have := List.length_take_le k xs; omega
      have hTx : ∀ W, Calls Try.prog 10 #[.string sk] W fun e w' => e = .returned (.string ⟨(textL xs[k]).toArray⟩) ∧ Below W.heap.size W w' := fun W => by
        have := label_Text sk W (by omega); rwa [HSK.out.1] at this
      have htl := textL_le xs[k]
      have htl2 : (textL xs[k]).length ≤ 252 := by have := HSK.out.2.1; omega
      have hws := hbw.size
      by_cases hk0 : 0 < (k : Int)
      · have HJ : Hid (joinL (xs.take (k + 1)) = joinL (xs.take k) ++ [46] ++ textL xs[k]) := Lib.hid (by
          rw [htake]; exact joinL_snoc (by intro e; have := congrArg List.length e; rw [List.length_take] at this; simp only [List.length_nil] at this; omega) _)
        have a1 := run_string_add_sum (P := Try.prog) wr ⟨(joinL (xs.take k)).toArray⟩ ⟨#[46]⟩ (by rw [mk_size]; show _ + 1 ≤ _; omega)
        have e1 : (⟨(joinL (xs.take k)).toArray⟩ : ByteArray) ++ ⟨#[46]⟩ = ⟨(joinL (xs.take k) ++ [46]).toArray⟩ := mk_append _ [46]
        have a2 := fun W => run_string_add_sum (P := Try.prog) W ⟨(joinL (xs.take k) ++ [46]).toArray⟩ ⟨(textL xs[k]).toArray⟩ (by rw [mk_size, mk_size, List.length_append]; show _ + 1 + _ ≤ _; omega)
        have e2 : (⟨(joinL (xs.take k) ++ [46]).toArray⟩ : ByteArray) ++ ⟨(textL xs[k]).toArray⟩ = ⟨(joinL (xs.take k) ++ [46] ++ textL xs[k]).toArray⟩ := mk_append _ _
        rw [e1] at a1
        rw [e2] at a2
        clear e1 e2 htake hjl hjl2 htl htl2 HSK hcells hx HL
        generalize joinL (xs.take k) = J at *
        generalize textL xs[k] = T at *
        go_wp2_with (go_at_call 10; refine (hTx _).mono ?_; rintro e w2 ⟨rfl, hb2⟩)
        go_roundw
        case rel => exact ⟨k + 1, by go_num, by omega, by rw [HJ.out]; simp, HL2, hbw.trans (hb2.mono hws)⟩
        case measure => simp [intOf]; omega
      · have htk : xs.take k = [] := by rw [show k = 0 by omega]; rfl
        have hk0' : (k : Int) ≤ 0 := by omega
        have HJ : Hid (joinL (xs.take (k + 1)) = textL xs[k]) := Lib.hid (by rw [htake, htk]; simp [joinL])
        have hj0 : joinL (xs.take k) = [] := by rw [htk]; rfl
        have a2 := fun W => run_string_add_sum (P := Try.prog) W ⟨(joinL (xs.take k)).toArray⟩ ⟨(textL xs[k]).toArray⟩ (by rw [mk_size, mk_size]; omega)
        have e2 : (⟨(joinL (xs.take k)).toArray⟩ : ByteArray) ++ ⟨(textL xs[k]).toArray⟩ = ⟨(textL xs[k]).toArray⟩ := by rw [mk_append, hj0]; rfl
        rw [e2] at a2
        clear e2 htake hjl hjl2 htl htl2 HSK hcells hx HL htk hj0 hk0
        generalize joinL (xs.take k) = J at *
        generalize textL xs[k] = T at *
        go_wp2_with (go_at_call 10; refine (hTx _).mono ?_; rintro e w2 ⟨rfl, hb2⟩)
        go_roundw
        case rel => exact ⟨k + 1, by go_num, by omega, by rw [HJ.out], HL2, hbw.trans (hb2.mono hws)⟩
        case measure => simp [intOf]; omega
    · obtain rfl : k = n := by omega
      have hall : xs.take k = xs := List.take_of_length_le (by rw [HXN.out]; exact Nat.le_refl _)
      have hL := HL.out
      rw [hall] at hL ⊢
      have hjl := joinL_le xs (fun x hx => (hL x hx).2)
      have hsp := split_join hne
      have hSplit : ∀ W, Calls Try.prog 17 #[.string ⟨(joinL xs).toArray⟩] W fun e w' => ∃ v, e = .returned (.tuple #[v, .int .i64 0]) ∧ StrsAt w' v (xs.map textL) ∧ Below W.heap.size W w' := fun W => by
        refine (label_Split ⟨(joinL xs).toArray⟩ W (by rw [mk_size]; have := HXN.out; omega)).mono ?_
        rintro e w' ⟨v, he, ho, hb⟩
        simp only [hsp] at he ho
        exact ⟨v, he, StrsAt.of_own ho, hb⟩
      clear hall hjl hsp
      generalize joinL xs = J at *
      go_wp2_with fail
      refine (hSplit _).mono ?_
      rintro e w2 ⟨v, rfl, ⟨a2, c2, rfl, hs2⟩, hb2⟩
      rw [List.length_map, HXN.out]
      rcases hs2 with hs2 | ⟨g, o2, rfl, hg2, hc2⟩
      · exact absurd (List.map_eq_nil_iff.1 hs2) hne
      have hB2 : Below w.heap.size w w2 := hbw.trans (hb2.mono hbw.size)
      go_wp2_with fail
      go_loopw [7] (fun i wr => ∃ j : Nat, i = .int .i64 j ∧ j ≤ k ∧ Below w.heap.size w wr ∧ Below w2.heap.size w2 wr) (fun i _ => k - (intOf i).toNat)
      case atStart => exact ⟨0, rfl, Nat.zero_le _, hB2, Below.refl _ _⟩
      case round =>
        obtain ⟨j, rfl, hj, hbr, hbr2⟩ := hrel
        by_cases hjlt : j < k
        · have hjx : j < xs.length := by rw [HXN.out]; exact hjlt
          have hjm : j < (xs.map textL).length := by rw [List.length_map]; exact hjx
          obtain ⟨sj, hsj0, hsjz0, hsjv0⟩ := str_of xs[j]
          obtain ⟨tj, htj0, htjz0, htjv0⟩ := str_of (textL xs[j])
          have hcl : wr.cell? ⟨b, off + j, none⟩ = some (.string sj) := by rw [← hsjv0]; exact (hbr.cell (p := ⟨b, off + j, none⟩) hb).trans (hcells j hjx)
          have hcp : wr.cell? ⟨g, o2 + j, none⟩ = some (.string tj) := by
            rw [← htjv0]
            have := (hbr2.cell (p := ⟨g, o2 + j, none⟩) hg2).trans (hc2 j hjm)
            rw [this, List.getElem_map]
          have hlj := hL xs[j] (List.getElem_mem hjx)
          have htl := textL_le xs[j]
          have hP : ∀ W, Calls Try.prog 15 #[.string tj] W fun e w' => e = .returned (.tuple #[.string sj, .int .i64 0]) ∧ Below W.heap.size W w' := fun W => by
            have h1 : parseM tj.data.toList = (xs[j], 0) := by rw [htj0, parse_text, check_ok hlj.1 hlj.2]; rfl
            have := kn_parse tj xs[j] 0 h1 (by omega) W
            have e : (⟨xs[j].toArray⟩ : ByteArray) = sj := by apply ba_ext; rw [hsj0]
            rwa [e] at this
          have hbs := hbr.size
          have hbs2 := hbr2.size
          clear hsj0 hsjz0 hsjv0 htj0 htjz0 htjv0 hlj htl hcells hc2 hL hx HL
          go_wp2_with (go_at_call 15; refine (hP _).mono ?_; rintro e w3 ⟨rfl, hb3⟩; have hcl3 := (hb3.cell (p := ⟨b, off + j, none⟩) (Nat.lt_of_lt_of_le hb hbs)).trans hcl)
          go_roundw
          case rel => exact ⟨j + 1, by go_num, by omega, hbr.trans (hb3.mono hbs), hbr2.trans (hb3.mono hbs2)⟩
          case measure => simp [intOf]; omega
        · obtain rfl : j = k := by omega
          go_wp2
          go_ret
          exact ⟨rfl, hbr⟩


end Go.Proofs.Ytjdpljkabgkpfaa
