/-
  Package rtype: Text, Known, Parse.
-/
import Derived.Test.YtbnkecmhmcligaaDoorMQ25
import Derived.Test.YtbnkecmhmcligaaDoorMQ26
import Derived.Test.YtbnkecmhmcligaaDoorMQ11
import Derived.Lib.AppendIntMem
namespace Go.Proofs.YtbnkecmhmcligaaDoor
set_option linter.unusedVariables false
set_option linter.unusedSimpArgs false
set_option maxRecDepth 20000
open Go.RowKit Go.Shelf

/-- The library's table of powers of ten lies as its text lays it. -/
def Tab (W : World) : Prop := Lib.TabIs Tryd.prog W "internal/strconv.uint64pow10" .u64 Lib.pow10Tab
theorem Tab.below {W W' : World} (h : Tab W) (hb : Below W.heap.size W W') : Tab W' := (Lib.tabBelow_of_tabIs h) W' hb
theorem itoa_len (n : Int) (h0 : -9223372036854775808 ≤ n) (h1 : n ≤ 9223372036854775807) : (Lib.itoa n).length ≤ 20 := by
  unfold Lib.itoa
  split
  · have := dec_len n.natAbs (by omega); simp only [List.length_cons]; omega
  · have := dec_len n.toNat (by omega); omega
theorem strconv_Itoa (n : Int) (h0 : -9223372036854775808 ≤ n) (h1 : n ≤ 9223372036854775807) (w : World) (hT : Tab w) :
    Calls Tryd.prog 37 #[.int .i64 n] w fun e w' => e = .returned (.string ⟨(Lib.itoa n).toArray⟩) ∧ Below w.heap.size w w' := by
  refine (Tryd.strconv_Itoa n h0 h1 w hT).mono ?_
  rintro e w' ⟨he, k, os, rfl⟩
  exact ⟨he, Lib.below_grow _ w (Nat.le_refl _) k os⟩
theorem typeName_len (t : Int) : (typeNameM t).length ≤ 5 := by
  unfold typeNameM
  cases h : rowOfT t with
  | none => simp
  | some j => exact (typeS_ne j (find_range h).1).2.2

set_option maxHeartbeats 2000000 in
theorem rtype_Text (t : Int) (h0 : -9223372036854775808 ≤ t) (h1 : t ≤ 9223372036854775807) (w : World) (hT : Tab w) :
    Calls Tryd.prog 35 #[.int .i64 t] w fun e w' => e = .returned (.string ⟨(typeTextM t).toArray⟩) ∧ Below w.heap.size w w' := by
  have hV := fun g W h => table_value g t W h
  obtain ⟨s, hs⟩ : ∃ s, (⟨(typeNameM t).toArray⟩ : ByteArray) = s := ⟨_, rfl⟩
  rw [hs] at hV
  have HS := Lib.hid hs
  clear hs
  cases hk : knownM t with
  | true =>
    rw [hk] at hV
    have H0 : Hid (typeTextM t = typeNameM t) := Lib.hid (by
      unfold knownM at hk; unfold typeTextM typeNameM
      cases h : rowOfT t with
      | none => rw [h] at hk; cases hk
      | some j => rfl)
    clear hk
    go_enter Tryd.func35, Tryd.ntmps35
    go_wp2_with (first | (go_at_call 45; refine (rtype_names _).mono ?_; rintro e w1 ⟨g, rfl, hN, hb1⟩) | (go_at_call 46; refine (hV _ _ hN).mono ?_; rintro e w2 ⟨rfl, hb2⟩))
    go_ret
    exact ⟨by rw [H0.out, HS.out]; rfl, hb1.trans (hb2.mono hb1.size)⟩
  | false =>
    rw [hk] at hV
    have H0 : Hid (typeTextM t = [84, 89, 80, 69] ++ Lib.itoa t) := Lib.hid (by
      unfold knownM at hk; unfold typeTextM
      cases h : rowOfT t with
      | none => rfl
      | some j => rw [h] at hk; cases hk)
    have hl := itoa_len t h0 h1
    have hI := fun W h => strconv_Itoa t h0 h1 W h
    have a1 := fun W => run_string_add_sum (P := Tryd.prog) W ⟨#[84, 89, 80, 69]⟩ ⟨(Lib.itoa t).toArray⟩ (by rw [mk_size (Lib.itoa t)]; show 4 + (Lib.itoa t).length ≤ _; omega)
    have e1 : (⟨#[84, 89, 80, 69]⟩ : ByteArray) ++ ⟨(Lib.itoa t).toArray⟩ = ⟨([84, 89, 80, 69] ++ Lib.itoa t).toArray⟩ := mk_append [84, 89, 80, 69] _
    rw [e1] at a1
    clear e1 hk hl
    generalize (⟨(Lib.itoa t).toArray⟩ : ByteArray) = dt at *
    go_enter Tryd.func35, Tryd.ntmps35
    go_wp2_with (first | (go_at_call 45; refine (rtype_names _).mono ?_; rintro e w1 ⟨g, rfl, hN, hb1⟩) | (go_at_call 46; refine (hV _ _ hN).mono ?_; rintro e w2 ⟨rfl, hb2⟩; have hb12 := hb1.trans (hb2.mono hb1.size)) | (go_at_call 37; refine (hI _ (hT.below hb12)).mono ?_; rintro e w3 ⟨rfl, hb3⟩))
    go_ret
    exact ⟨by rw [H0.out]; rfl, hb12.trans (hb3.mono hb12.size)⟩

end Go.Proofs.YtbnkecmhmcligaaDoor

