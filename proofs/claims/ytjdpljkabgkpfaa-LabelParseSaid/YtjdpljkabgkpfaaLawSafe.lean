/-
  LabelSafe: whatever the octets, the words of a label are plain, and the walk over them counts as many as there are octets.
-/
import Derived.Test.YtjdpljkabgkpfaaLabK
namespace Go.Proofs.Ytjdpljkabgkpfaa
open Go.RowKit Go.Shelf

theorem textL_append (a b : List UInt8) : textL (a ++ b) = textL a ++ textL b := by simp [textL]
theorem textL_cons (c : UInt8) (b : List UInt8) : textL (c :: b) = octetW c ++ textL b := by simp [textL]
theorem octetW_ne (c : UInt8) : octetW c ≠ [] := by
  unfold octetW; split
  · simp
  · split <;> simp
theorem textL_nil_iff {l : List UInt8} (h : textL l = []) : l = [] := by
  cases l with
  | nil => rfl
  | cons c l => rw [textL_cons] at h; exact absurd (List.append_eq_nil_iff.1 h).1 (octetW_ne c)

/-- A byte of a text that is known as a list. -/
theorem byte_at (t : ByteArray) (l : List UInt8) (ht : t.data.toList = l) (k : Nat) (hk : k < t.size) (x : UInt8) (h : l[k]? = some x) : t[k] = x := by
  subst ht
  have := Lib.data_getElem? t k hk
  rw [h] at this; exact (Option.some.inj this).symm

/-- What the round at k finds: the head octet's words. -/
theorem safe_split (t : ByteArray) (l pre rest : List UInt8) (ht : t.data.toList = textL l) (hl : l = pre ++ rest) (hk : (textL pre).length < t.size) :
    ∃ c r, rest = c :: r ∧ l = (pre ++ [c]) ++ r ∧ (textL (pre ++ [c])).length = (textL pre).length + (octetW c).length ∧ (textL pre).length + (octetW c).length ≤ t.size ∧
      ∀ j x, (octetW c)[j]? = some x → ∀ h : (textL pre).length + j < t.size, t[(textL pre).length + j] = x := by
  have hsz : t.size = (textL l).length := by rw [← size_data, ht]
  cases rest with
  | nil => simp at hl; subst hl; omega
  | cons c r =>
    have e : textL l = textL pre ++ (octetW c ++ textL r) := by rw [hl, textL_append, textL_cons]
    refine ⟨c, r, rfl, by simp [hl], by rw [textL_snoc]; simp, ?_, ?_⟩
    · rw [hsz, e]; simp
    · intro j x hj h
      refine byte_at t _ ht _ h x ?_
      rw [e, List.getElem?_append_right (by omega), Nat.add_sub_cancel_left]
      have hlt : j < (octetW c).length := (List.getElem?_eq_some_iff.1 hj).1
      rw [List.getElem?_append_left hlt, hj]

theorem esc_first (c : UInt8) : (((48 + c / 100 : UInt8)).toNat : Int) = 48 + (c.toNat : Int) / 100 := by
  have := c.toNat_lt
  rw [UInt8.toNat_add, UInt8.toNat_div]
  simp only [UInt8.reduceToNat]
  omega
theorem u8_eqT {x : UInt8} {n : Nat} (h : x.toNat = n) : ((x.toNat : Int) == (n : Int)) = true := by rw [h]; simp
theorem u8_eqF {x : UInt8} {n : Nat} (h : x.toNat ≠ n) : ((x.toNat : Int) == (n : Int)) = false := by
  simp; omega

set_option maxHeartbeats 4000000 in
theorem law1_Safe (s : ByteArray) (w : World) (hs : s.size ≤ maxLen) : Calls Try.prog 7 #[.string s] w fun e w' => e = .returned (.bool true) ∧ Below w.heap.size w w' := by
  unfold maxLen at hs
  by_cases hlen : 100 < (s.size : Int)
  · go_enter Try.func7, Try.ntmps7
    go_wp2_with (go_at_call 8; refine (law1_known _).mono ?_; rintro e w1 ⟨rfl, hb1⟩)
    go_ret
    exact ⟨rfl, hb1⟩
  have hlen2 : (s.size : Int) ≤ 100 := by omega
  clear hlen
  have hT : ∀ W, Calls Try.prog 10 #[.string s] W fun e w' => ∃ t : ByteArray, e = .returned (.string t) ∧ Hid (t.data.toList = textL s.data.toList) ∧ t.size ≤ 400 ∧ Below W.heap.size W w' := fun W => by
    refine (label_Text s W (by omega)).mono ?_
    rintro e w' ⟨rfl, hb⟩
    refine ⟨_, rfl, Lib.hid (by simp), ?_, hb⟩
    have := textL_le s.data.toList
    rw [size_data] at this
    show (textL s.data.toList).toArray.size ≤ 400
    simp; omega
  go_enter Try.func7, Try.ntmps7
  go_wp2_with (first | (go_at_call 8; refine (law1_known _).mono ?_; rintro e w1 ⟨rfl, hb1⟩) | (go_at_call 10; refine (hT _).mono ?_; rintro e w2 ⟨t, rfl, HT, htl, hb2⟩))
  have hb : Below w.heap.size w w2 := hb1.trans (hb2.mono hb1.size)
  clear hT hb1 hb2
  go_loop [4, 5] (fun n i => ∃ (k m : Nat), i = .int .i64 k ∧ n = .int .i64 m ∧ k ≤ t.size ∧ m ≤ k ∧ ∃ pre rest : List UInt8, Hid (s.data.toList = pre ++ rest ∧ k = (textL pre).length ∧ m = pre.length)) (fun _ i => t.size - (intOf i).toNat)
  case atStart => exact ⟨0, 0, rfl, rfl, Nat.zero_le _, Nat.le_refl _, [], s.data.toList, by exact Lib.hid ⟨rfl, rfl, rfl⟩⟩
  case round =>
    obtain ⟨k, m, rfl, rfl, hk, hm, pre, rest, HI⟩ := hrel
    by_cases hlt : k < t.size
    · obtain ⟨c, r, hr, hl, hlen3, hle, hbytes⟩ := safe_split t s.data.toList pre rest HT.out HI.out.1 (by have := HI.out.2.1; omega)
      have HK : Hid (k = (textL pre).length) := Lib.hid HI.out.2.1
      have HI2 : Hid (s.data.toList = pre ++ [c] ++ r ∧ (textL (pre ++ [c])).length = k + (octetW c).length) := Lib.hid ⟨hl, by rw [hlen3, ← HK.out]⟩
      rw [← HK.out] at hle hbytes
      clear hlen3 hl hr
      have hc255 := c.toNat_lt
      by_cases hsp : specialU c = true
      · have hw := octetW_special hsp
        have HW := Lib.hid hw
        rw [hw] at hle hbytes
        clear hw
        simp only [List.length_cons, List.length_nil] at hle
        have hk1 : k + 1 < t.size := by omega
        have e0 : t[k] = 92 := hbytes 0 92 rfl hlt
        have e1 : t[k + 1] = c := hbytes 1 c rfl hk1
        have s1 : c.toNat = 46 ∨ c.toNat = 92 ∨ c.toNat = 34 ∨ c.toNat = 40 ∨ c.toNat = 41 ∨ c.toNat = 59 ∨ c.toNat = 64 ∨ c.toNat = 36 := of_decide_eq_true hsp
        have t0 : ((t[k].toNat : Int) == 92) = true := by rw [e0]; rfl
        have t0a : 33 ≤ (t[k].toNat : Int) := by rw [e0]; decide
        have t0b : (t[k].toNat : Int) ≤ 126 := by rw [e0]; decide
        have hnd : (t[k + 1].toNat : Int) < 48 ∨ 57 < (t[k + 1].toNat : Int) := by rw [e1]; omega
        clear e0 e1 s1 hsp hbytes hc255
        rcases hnd with hnd | hnd
        · go_wp2
          go_round
          case rel => exact ⟨k + 2, m + 1, by go_num, by go_num, by omega, by omega, pre ++ [c], r, by exact Lib.hid ⟨HI2.out.1, by rw [HI2.out.2, HW.out]; simp, by simp [HI.out.2.2]⟩⟩
          case measure => simp [intOf]; omega
        · have hnd2 : 48 ≤ (t[k + 1].toNat : Int) := by omega
          go_wp2
          go_round
          case rel => exact ⟨k + 2, m + 1, by go_num, by go_num, by omega, by omega, pre ++ [c], r, by exact Lib.hid ⟨HI2.out.1, by rw [HI2.out.2, HW.out]; simp, by simp [HI.out.2.2]⟩⟩
          case measure => simp [intOf]; omega
      have hsp0 : specialU c = false := by simpa using hsp
      clear hsp
      by_cases hpl : 33 ≤ (c.toNat : Int) ∧ (c.toNat : Int) ≤ 126
      · have hw := octetW_plain hsp0 hpl.1 hpl.2
        have HW := Lib.hid hw
        rw [hw] at hle hbytes
        clear hw
        simp only [List.length_cons, List.length_nil] at hle
        have e0 : t[k] = c := hbytes 0 c rfl hlt
        have s1 : ¬ (c.toNat = 46 ∨ c.toNat = 92 ∨ c.toNat = 34 ∨ c.toNat = 40 ∨ c.toNat = 41 ∨ c.toNat = 59 ∨ c.toNat = 64 ∨ c.toNat = 36) := of_decide_eq_false hsp0
        have t0 : ((t[k].toNat : Int) == 92) = false := by rw [e0]; exact u8_eqF (n := 92) (by omega)
        have t1 : ((t[k].toNat : Int) == 46) = false := by rw [e0]; exact u8_eqF (n := 46) (by omega)
        have t2 : ((t[k].toNat : Int) == 34) = false := by rw [e0]; exact u8_eqF (n := 34) (by omega)
        have t3 : ((t[k].toNat : Int) == 40) = false := by rw [e0]; exact u8_eqF (n := 40) (by omega)
        have t4 : ((t[k].toNat : Int) == 41) = false := by rw [e0]; exact u8_eqF (n := 41) (by omega)
        have t5 : ((t[k].toNat : Int) == 59) = false := by rw [e0]; exact u8_eqF (n := 59) (by omega)
        have t6 : ((t[k].toNat : Int) == 64) = false := by rw [e0]; exact u8_eqF (n := 64) (by omega)
        have t7 : ((t[k].toNat : Int) == 36) = false := by rw [e0]; exact u8_eqF (n := 36) (by omega)
        have t0a : 33 ≤ (t[k].toNat : Int) := by rw [e0]; exact hpl.1
        have t0b : (t[k].toNat : Int) ≤ 126 := by rw [e0]; exact hpl.2
        clear e0 s1 hsp0 hbytes hc255 hpl
        go_wp2
        go_round
        case rel => exact ⟨k + 1, m + 1, by go_num, by go_num, by omega, by omega, pre ++ [c], r, by exact Lib.hid ⟨HI2.out.1, by rw [HI2.out.2, HW.out]; simp, by simp [HI.out.2.2]⟩⟩
        case measure => simp [intOf]; omega
      · have hw := octetW_esc hsp0 (by omega)
        have HW := Lib.hid hw
        rw [hw] at hle hbytes
        clear hw
        unfold octetEsc at hle hbytes
        simp only [List.length_cons, List.length_nil] at hle
        have hk1 : k + 1 < t.size := by omega
        have e0 : t[k] = 92 := hbytes 0 92 rfl hlt
        have e1 : t[k + 1] = 48 + c / 100 := hbytes 1 _ rfl hk1
        have t0 : ((t[k].toNat : Int) == 92) = true := by rw [e0]; rfl
        have t0a : 33 ≤ (t[k].toNat : Int) := by rw [e0]; decide
        have t0b : (t[k].toNat : Int) ≤ 126 := by rw [e0]; decide
        have e2 : (t[k + 1].toNat : Int) = 48 + (c.toNat : Int) / 100 := by rw [e1]; exact esc_first c
        have hnd : 48 ≤ (t[k + 1].toNat : Int) := by omega
        have hnd2 : (t[k + 1].toNat : Int) ≤ 57 := by omega
        clear e0 e1 e2 hsp0 hbytes hc255 hpl
        go_wp2
        go_round
        case rel => exact ⟨k + 4, m + 1, by go_num, by go_num, by omega, by omega, pre ++ [c], r, by exact Lib.hid ⟨HI2.out.1, by rw [HI2.out.2, HW.out]; simp [octetEsc], by simp [HI.out.2.2]⟩⟩
        case measure => simp [intOf]; omega
    · obtain rfl : k = t.size := by omega
      have hfin : ((m : Int) == (s.size : Int)) = true := by
        obtain ⟨h1, h2, h3⟩ := HI.out
        have h4 : rest = [] := by
          apply textL_nil_iff
          have := congrArg List.length HT.out
          rw [size_data, h1, textL_append, List.length_append] at this
          exact List.eq_nil_of_length_eq_zero (by omega)
        subst h4
        rw [List.append_nil] at h1
        rw [h3, ← h1, size_data]; simp
      go_wp2
      go_ret
      exact ⟨rfl, hb⟩

end Go.Proofs.Ytjdpljkabgkpfaa
