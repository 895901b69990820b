/-
  NameParse: any text as a name by any origin, or why it is none.
-/
import Derived.Test.YtoohhoillblaoaaLawK2
import Derived.Test.YtoohhoillblaoaaNamY
namespace Go.Proofs.Ytoohhoillblaoaa
open Go.RowKit Go.Shelf
theorem parseN_ok {s : List UInt8} {o : Nm} (hs : s.length ≤ 500000) (ho : NmOK o) (ho2 : o.length ≤ 500000) : NmOK (parseN s o).1 := by
  have hnil : NmOK [] := ⟨by simp, by simp⟩
  unfold parseN
  split
  · exact ho
  split
  · exact hnil
  split
  · exact hnil
  split
  · obtain ⟨hl1, hl2⟩ := splitM_len s
    have hp : (partsN (splitM s).1).length ≤ (splitM s).1.length ∧ ∀ x ∈ partsN (splitM s).1, x ∈ (splitM s).1 := by
      unfold partsN; split
      · rw [List.dropLast_eq_take]; exact ⟨by simp only [List.length_take]; omega, fun x hx => List.mem_of_mem_take hx⟩
      · exact ⟨Nat.le_refl _, fun x hx => hx⟩
    obtain ⟨hr1, hr2⟩ := readN_len (B := s.length) (partsN (splitM s).1) (fun x hx => hl2 x (hp.2 x hx))
    have h1 : NmOK (readN (partsN (splitM s).1)).1 := ⟨by omega, fun x hx => by have := hr2 x hx; omega⟩
    have h2 : NmOK ((readN (partsN (splitM s).1)).1 ++ o) := ⟨by rw [List.length_append]; omega, fun x hx => by rcases List.mem_append.1 hx with h | h; (exact h1.2 x h); exact ho.2 x h⟩
    unfold endN
    split
    · cases hw : wholeN (splitM s).1
      · simp only [Bool.false_eq_true, if_false]
        split
        · exact h2
        · exact hnil
      · simp only [if_true]
        split
        · exact h1
        · exact hnil
    · exact hnil
  · exact hnil

set_option maxRecDepth 100000 in
set_option maxHeartbeats 8000000 in
theorem law2_NameParse (s0 : ByteArray) (v1 : Value) (x1 : Nm)  (w : World) (h0 : s0.size ≤ maxLen) (h1 : NmArg w v1 x1) :
    Calls Try.prog 4 #[.string s0, v1] w fun e w' => e = .returned (.bool true) ∧ Below w.heap.size w w' := by
  obtain ⟨k1, r1, rfl, _⟩ := id h1.1.1
  have n1 := h1.1
  unfold maxLen at h0
  by_cases hz : 400 < (s0.size : Int)
  · go_enter Try.func4, Try.ntmps4
    have b0 := Below.refl w.heap.size w
    go_wp2_with fail
    refine (law2_known _).mono ?_
    rintro e w1 ⟨rfl, d1⟩
    have qw1 := (b0).trans (d1.mono (b0).size)
    have n1_w1 := n1.below d1
    clear b0 n1 d1
    go_wp2_with fail
    go_ret
    exact ⟨rfl, qw1⟩
  have hz1 : (s0.size : Int) ≤ 400 := by omega
  clear hz
  obtain ⟨f1, hf1⟩ : ∃ r, fewN x1 = r := ⟨_, rfl⟩
  cases f1 with
  | false =>
    go_enter Try.func4, Try.ntmps4
    have b0 := Below.refl w.heap.size w
    go_wp2_with fail
    refine (law2_known _).mono ?_
    rintro e w1 ⟨rfl, d1⟩
    have qw1 := (b0).trans (d1.mono (b0).size)
    have n1_w1 := n1.below d1
    clear b0 n1 d1
    go_wp2_with fail
    refine (kn_Few _ x1 false hf1 w _ h1 n1_w1).mono ?_
    rintro e w2 ⟨rfl, d2⟩
    have qw2 := (qw1).trans (d2.mono (qw1).size)
    have n1_w2 := n1_w1.below d2
    clear qw1 n1_w1 d2
    go_wp2_with fail
    go_ret
    exact ⟨rfl, qw2⟩
  | true =>
    have g1 := fewN_ok hf1
    have z1 : x1.length ≤ 140 := (of_decide_eq_true hf1).1
    obtain ⟨⟨l, er⟩, hq⟩ : ∃ q, parseN s0.data.toList x1 = q := ⟨_, rfl⟩
    have hl : NmOK l := by have := parseN_ok (s := s0.data.toList) (o := x1) (by rw [size_data]; omega) g1 (by omega); rw [hq] at this; exact this
    have hP := fun W h => kn_NParse s0 (.slice k1 x1.length r1) x1 l er _ hq rfl W h (by omega) g1 (by omega)
    have hR := fun W h => kn_RParse s0 (.slice k1 x1.length r1) x1 l er _ hq rfl W h (by omega) g1 (by omega)
    have HF1 := Lib.hid hf1
    clear hf1 hq
    go_enter Try.func4, Try.ntmps4
    have b0 := Below.refl w.heap.size w
    go_wp2_with fail
    refine (law2_known _).mono ?_
    rintro e w1 ⟨rfl, d1⟩
    have qw1 := (b0).trans (d1.mono (b0).size)
    have n1_w1 := n1.below d1
    clear b0 n1 d1
    go_wp2_with fail
    refine (kn_Few _ x1 true HF1.out w _ h1 n1_w1).mono ?_
    rintro e w2 ⟨rfl, d2⟩
    have qw2 := (qw1).trans (d2.mono (qw1).size)
    have n1_w2 := n1_w1.below d2
    clear qw1 n1_w1 d2
    go_wp2_with fail
    refine (hP _ n1_w2).mono ?_
    rintro e w3 ⟨a3, c3, rfl, h3, d3⟩
    have qw3 := (qw2).trans (d3.mono (qw2).size)
    have n1_w3 := n1_w2.below d3
    have p_w3 := h3
    clear qw2 n1_w2 h3 d3
    go_wp2_with fail
    refine (hR _ n1_w3).mono ?_
    rintro e w4 ⟨a4, c4, rfl, h4, d4⟩
    have qw4 := (qw3).trans (d4.mono (qw3).size)
    have n1_w4 := n1_w3.below d4
    have p_w4 := p_w3.below d4
    have q_w4 := h4
    clear qw3 n1_w3 p_w3 h4 d4
    go_wp2_with fail
    refine (kn_Is _ _ l l true (decide_eq_true rfl) _ p_w4 q_w4 hl).mono ?_
    rintro e w5 ⟨rfl, d5⟩
    have qw5 := (qw4).trans (d5.mono (qw4).size)
    have n1_w5 := n1_w4.below d5
    have p_w5 := p_w4.below d5
    have q_w5 := q_w4.below d5
    clear qw4 n1_w4 p_w4 q_w4 d5
    go_wp2_with fail
    go_ret
    exact ⟨rfl, qw5⟩
end Go.Proofs.Ytoohhoillblaoaa
