/-
  The document's names: NameText; the statements' own helpers of layer 2: Few, Is.
-/
import Derived.Test.YtbnkecmhmcligaaDoorMQ19
import Derived.Test.YtbnkecmhmcligaaDoorMQ03
import Derived.BigQuiet
namespace Go.Proofs.YtbnkecmhmcligaaDoor
set_option linter.unusedVariables false
set_option linter.unusedSimpArgs false
set_option maxRecDepth 20000
open Go.RowKit Go.Shelf

def fewN (xs : Nm) : Bool := decide (xs.length ≤ 140 ∧ ∀ x ∈ xs, x.length ≤ 100)
theorem fewN_ok {xs : Nm} (h : fewN xs = true) : NmOK xs := by
  have := of_decide_eq_true h
  exact ⟨by omega, fun x hx => by have := this.2 x hx; omega⟩

set_option maxHeartbeats 4000000 in
theorem law2_Few (v : Value) (xs : Nm) (w : World) (hA : StrsAt w v xs) (hm : xs.length ≤ maxLen) (hk : ∀ x ∈ xs, x.length ≤ maxLen) :
    Calls Tryd.prog 10 #[v] w fun e w' => e = .returned (.bool (fewN xs)) ∧ w' = w := by
  obtain ⟨a, c, rfl, _⟩ := id hA
  unfold maxLen at hm hk
  obtain ⟨n, hn⟩ : ∃ n, xs.length = n := ⟨_, rfl⟩
  have hcell := fun j hj => hA.cell (Below.refl _ w) j hj
  rw [hn] at hm ⊢
  have HN := Lib.hid hn
  clear hA hn
  by_cases hbig : 140 < (n : Int)
  · have H0 : Hid (fewN xs = false) := Lib.hid (decide_eq_false (fun h => by have := HN.out; omega))
    go_enter Tryd.func10, Tryd.ntmps10
    go_wp2
    go_ret
    exact ⟨by rw [H0.out]; rfl, rfl⟩
  go_enter Tryd.func10, Tryd.ntmps10
  go_wp2
  go_loopw [3] (fun i wr => ∃ k : Nat, i = .int .i64 k ∧ k ≤ n ∧ Hid (∀ x ∈ xs.take k, x.length ≤ 100) ∧ wr = w) (fun i _ => n - (intOf i).toNat)
  case atStart => exact ⟨0, rfl, Nat.zero_le _, Lib.hid (by simp), rfl⟩
  case round =>
    obtain ⟨k, rfl, hkn, HC, rfl⟩ := hrel
    by_cases hlt : k < n
    · have hkp : k < xs.length := by rw [HN.out]; exact hlt
      obtain ⟨g, off, rfl, hg, hc⟩ := hcell k hkp
      obtain ⟨s, hs0, hsz, hsv⟩ := str_of xs[k]
      rw [hsv] at hc
      have hxk := hk _ (List.getElem_mem hkp)
      rw [← hsz] at hxk
      by_cases hb : 100 < (s.size : Int)
      · have H0 : Hid (fewN xs = false) := Lib.hid (decide_eq_false (fun h => by have := h.2 _ (List.getElem_mem hkp); omega))
        clear hs0 hsz hsv hk
        go_wp2
        go_ret
        exact ⟨by rw [H0.out]; rfl, rfl⟩
      · have HC2 : Hid (∀ x ∈ xs.take (k + 1), x.length ≤ 100) := Lib.hid (by
          intro x hx; rw [List.take_succ_eq_append_getElem hkp] at hx
          rcases List.mem_append.1 hx with h | h
          · exact HC.out x h
          · obtain rfl := List.mem_singleton.1 h; omega)
        clear hs0 hsz hsv hk
        go_wp2
        go_roundw
        case rel => exact ⟨k + 1, by go_num, by omega, HC2, trivial⟩
        case measure => simp [intOf]; omega
    · obtain rfl : k = n := by omega
      have H0 : Hid (fewN xs = true) := Lib.hid (decide_eq_true ⟨by have := HN.out; omega, by have h := HC.out; rw [List.take_of_length_le (by rw [HN.out]; exact Nat.le_refl _)] at h; exact h⟩)
      clear hk
      go_wp2
      go_ret
      exact ⟨by rw [H0.out]; rfl, rfl⟩

set_option maxHeartbeats 4000000 in
theorem ref_NameText (v : Value) (xs : Nm) (w : World) (hA : StrsAt w v xs) (hk : NmOK xs) :
    Calls Tryd.prog 13 #[v] w fun e w' => e = .returned (.string ⟨(textN xs).toArray⟩) ∧ Below w.heap.size w w' := by
  obtain ⟨a, c, rfl, _⟩ := id hA
  have hl := hk.1
  by_cases h0 : xs = []
  · have ht : textN xs = [46] := by unfold textN; rw [if_pos h0]
    have h00 : xs.length = 0 := by rw [h0]; rfl
    rw [ht, h00]
    clear h0 ht
    go_enter Tryd.func13, Tryd.ntmps13
    go_wp2
    go_ret
    exact ⟨rfl, Below.refl _ _⟩
  have HT := Lib.hid (textN_eq h0)
  obtain ⟨n, hn⟩ : ∃ n, xs.length = n := ⟨_, rfl⟩
  have hne : ((n : Int) == 0) = false := by
    have : xs.length ≠ 0 := fun e => h0 (List.eq_nil_of_length_eq_zero e)
    simp; omega
  have hcell := fun W' (hb : Below w.heap.size w W') j hj => hA.cell hb j hj
  rw [hn] at hl ⊢
  have HN := Lib.hid hn
  clear hA hn h0
  go_enter Tryd.func13, Tryd.ntmps13
  go_wp2
  go_loopw [3, 4] (fun u i wr => ∃ (k : Nat) (T : List UInt8), i = .int .i64 k ∧ k ≤ n ∧ u = .string ⟨T.toArray⟩ ∧ T.length ≤ k * 4194305 ∧ Below w.heap.size w wr ∧ Hid (textF (xs.take k) = T)) (fun _ i _ => n - (intOf i).toNat)
  case atStart => exact ⟨0, [], rfl, Nat.zero_le _, rfl, Nat.zero_le _, Below.refl _ _, Lib.hid rfl⟩
  case round =>
    obtain ⟨k, T, rfl, hkn, rfl, hTl, hB, HF⟩ := hrel
    by_cases hlt : k < n
    · have hkp : k < xs.length := by rw [HN.out]; exact hlt
      obtain ⟨g, off, rfl, hg, hc⟩ := hcell wr hB k hkp
      obtain ⟨s, hs0, hsz, hsv⟩ := str_of xs[k]
      rw [hsv] at hc
      have hxk := hk.get k hkp
      have hFd := fun W => ref_LabelText s W (by omega)
      rw [hs0] at hFd
      have htl := textL_le xs[k]
      have hr : textF (xs.take (k + 1)) = T ++ textL xs[k] ++ [46] := by rw [List.take_succ_eq_append_getElem hkp, textF_snoc, HF.out]
      have HR := Lib.hid hr
      clear hs0 hsz hsv hr
      generalize textL xs[k] = y at *
      have hT2 : (T ++ y ++ [46]).length ≤ (k + 1) * 4194305 := by simp; omega
      have a1 := fun W => run_string_add_sum (P := Tryd.prog) W ⟨T.toArray⟩ ⟨y.toArray⟩ (by rw [mk_size, mk_size]; omega)
      rw [mk_append] at a1
      have a2 := fun W => run_string_add_sum (P := Tryd.prog) W ⟨(T ++ y).toArray⟩ ⟨#[46]⟩ (by rw [mk_size]; show _ + 1 ≤ _; simp; omega)
      have e2 : (⟨(T ++ y).toArray⟩ : ByteArray) ++ ⟨#[46]⟩ = ⟨(T ++ y ++ [46]).toArray⟩ := mk_append (T ++ y) [46]
      rw [e2] at a2
      have HT2 := Lib.hid hT2
      clear e2 htl hxk hT2
      have hBz := hB.size
      generalize hZ : T ++ y ++ [46] = Z at *
      generalize hY : T ++ y = Y at *
      clear hZ hY
      go_wp2_with (go_at_call 29; refine (hFd _).mono ?_; rintro e w2 ⟨rfl, hb2⟩; have hB2 := hB.trans (hb2.mono hBz))
      go_roundw
      case rel => exact ⟨k + 1, Z, by go_num, by omega, rfl, HT2.out, hB2, HR⟩
      case measure => simp [intOf]; omega
    · obtain rfl : k = n := by omega
      have hr : textN xs = T := by rw [HT.out, ← HF.out, List.take_of_length_le (by rw [HN.out]; exact Nat.le_refl _)]
      have HR := Lib.hid hr; clear hr
      go_wp2
      go_ret
      exact ⟨by rw [HR.out]; rfl, hB⟩
end Go.Proofs.YtbnkecmhmcligaaDoor

