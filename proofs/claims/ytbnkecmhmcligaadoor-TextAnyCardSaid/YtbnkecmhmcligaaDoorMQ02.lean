/-
  The document's labels, said a second time (package toponymref6): CheckLabel, Digit, order, FoldLabel, CompareLabel, special, escaped, LabelText: the same functions on octets.
-/
import Derived.Test.YtbnkecmhmcligaaDoorMQ22
import Derived.Lib.ConvBytes
import Derived.Lib.IndexBytes
import Derived.Laws.Concat
namespace Go.Proofs.YtbnkecmhmcligaaDoor
set_option linter.unusedVariables false
set_option linter.unusedSimpArgs false
set_option maxRecDepth 20000
open Go.RowKit Go.Shelf

def orderM (a b : List UInt8) : Int := if Op.bytesLess a b then -1 else if a = b then 0 else 1

def memB (c : UInt8) (l : List UInt8) : Bool := decide (c ∈ l)

set_option maxHeartbeats 400000 in
theorem ref_special (c : UInt8) (s : ByteArray) (w : World) (hs : s.size ≤ maxLen) :
    Calls Tryd.prog 40 #[.int .u8 (c.toNat : Int), .string s] w fun e w' => e = .returned (.bool (memB c s.data.toList)) ∧ w = w' := by
  unfold maxLen at hs
  go_enter Tryd.func40, Tryd.ntmps40
  go_wp2
  go_loop [5] (fun i => ∃ k : Nat, i = .int .i64 k ∧ k ≤ s.size ∧ Hid (¬ c ∈ s.data.toList.take k)) (fun i => s.size - (intOf i).toNat)
  case atStart => exact ⟨0, rfl, Nat.zero_le _, Lib.hid (by simp)⟩
  case round =>
    obtain ⟨k, rfl, hk, HN⟩ := hrel
    by_cases hlt : k < s.size
    · have hsn := take_snoc_get s k hlt
      have HS := Lib.hid hsn; clear hsn
      by_cases he : ((s[k].toNat : Int) == (c.toNat : Int)) = true
      · have hc : c = s[k] := by
          have : (s[k].toNat : Int) = c.toNat := by simpa using he
          exact UInt8.toNat_inj.1 (by omega)
        have r : memB c s.data.toList = true := by
          apply decide_eq_true; apply List.mem_of_mem_take (i := k + 1); rw [HS.out, ← hc]; simp
        have R := Lib.hid r; clear r hc
        go_wp2
        go_ret
        exact ⟨ret_bool R.out.symm, rfl⟩
      · have hef : ((s[k].toNat : Int) == (c.toNat : Int)) = false := by simpa using he
        have hc : c ≠ s[k] := by intro e; rw [e] at he; simp at he
        have hn2 : ¬ c ∈ s.data.toList.take (k + 1) := by rw [HS.out]; simp only [List.mem_append, List.mem_singleton]; rintro (h | h); exact HN.out h; exact hc h
        have HN2 := Lib.hid hn2; clear hn2 hc he
        go_wp2
        go_round
        case rel => exact ⟨k + 1, by go_num, by omega, HN2⟩
        case measure => simp [intOf]; omega
    · obtain rfl : k = s.size := by omega
      have r : memB c s.data.toList = false := by apply decide_eq_false; have := HN.out; rwa [List.take_of_length_le (by simp)] at this
      have R := Lib.hid r; clear r
      go_wp2
      go_ret
      exact ⟨ret_bool R.out.symm, rfl⟩

theorem special_is (c : UInt8) : memB c (⟨#[46, 92, 34, 40, 41, 59, 64, 36]⟩ : ByteArray).data.toList = specialU c := by
  unfold specialU memB
  congr 1
  apply propext
  simp only [List.mem_cons, List.not_mem_nil, or_false]
  have h : ∀ n : UInt8, c = n ↔ c.toNat = n.toNat := fun n => UInt8.toNat_inj.symm
  simp only [h]
  rfl

theorem esc_str (c : UInt8) : (⟨(octetEsc c).toArray⟩ : ByteArray) = ⟨#[92]⟩ ++ ⟨#[48 + c / 100, 48 + c / 10 % 10, 48 + c % 10]⟩ := by
  rw [ByteArray.mk_append_mk]; rfl

set_option maxHeartbeats 1000000 in
theorem ref_escaped (c : UInt8) (w : World) :
    Calls Tryd.prog 41 #[.int .u8 (c.toNat : Int)] w fun e w' => e = .returned (.string ⟨(octetEsc c).toArray⟩) ∧ Below w.heap.size w w' := by
  have h1 : (c.toNat : Int) ≤ 255 := by have := c.toNat_lt; omega
  have h0 : 0 ≤ (c.toNat : Int) := by omega
  have hcs := esc_cells c
  have hc3 : [Value.int .u8 (48 + (c.toNat : Int) / 100), .int .u8 (48 + (c.toNat : Int) / 10 % 10), .int .u8 (48 + (c.toNat : Int) % 10)] = [48 + c / 100, 48 + c / 10 % 10, 48 + c % 10].map bv := by
    have := List.tail_eq_of_cons_eq (by simpa only [octetEsc, List.map_cons] using hcs)
    exact this
  have hback : (convert 58 9 (.slice (some ⟨w.heap.size, 0, none⟩) 3 3)).run Tryd.prog (w.alloc (.cells #[.int .u8 (48 + (c.toNat : Int) / 100), .int .u8 (48 + (c.toNat : Int) / 10 % 10), .int .u8 (48 + (c.toNat : Int) % 10)] 5)) =
      .ok (.string ⟨#[48 + c / 100, 48 + c / 10 % 10, 48 + c % 10]⟩) (w.alloc (.cells #[.int .u8 (48 + (c.toNat : Int) / 100), .int .u8 (48 + (c.toNat : Int) / 10 % 10), .int .u8 (48 + (c.toNat : Int) % 10)] 5)) := by
    refine run_convert_bytes_back _ _ _ _ _ 3 [48 + c / 100, 48 + c / 10 % 10, 48 + c % 10] Tryd.underlying58 Tryd.underlying5 Tryd.underlying9 ?_
    intro j hj
    refine cells_new w _ 5 j _ ?_
    rw [hc3, List.getElem?_map, List.getElem?_eq_getElem hj]; rfl
  clear hcs hc3
  go_enter Tryd.func41, Tryd.ntmps41
  go_wp2
  go_ret
  exact ⟨by rw [esc_str]; rfl, (Below.refl _ _).alloc (Nat.le_refl _) _⟩

theorem foldAt (s : ByteArray) (k j : Nat) (hj : j < s.size) (x : UInt8) (hx : ((s.data.toList.take k).map smallU ++ s.data.toList.drop k)[j]? = some x) :
    (j < k → x = smallU s[j]) ∧ (k ≤ j → x = s[j]) := by
  have hl : s.data.toList.length = s.size := rfl
  have hg : s.data.toList[j]? = some s[j] := Lib.data_getElem? s j hj
  constructor
  · intro h
    rw [List.getElem?_append_left (by simp; omega), List.getElem?_map, List.getElem?_take, if_pos h, hg] at hx
    exact (Option.some.inj hx).symm
  · intro h
    by_cases hk : k ≤ s.size
    · rw [List.getElem?_append_right (by simp; omega), List.getElem?_drop] at hx
      have e : k + (j - ((s.data.toList.take k).map smallU).length) = j := by simp; omega
      rw [e, hg] at hx
      exact (Option.some.inj hx).symm
    · omega

/-- The row of bytes that FoldLabel turns, when k of them are folded. -/
def FoldRow (s : ByteArray) (g : Nat) (k : Nat) (W : World) : Prop :=
  ∀ j (hj : j < s.size), W.cell? ⟨g, j, none⟩ = some (bv (if j < k then smallU s[j] else s[j])) ∧ W.frozen? ⟨g, j, none⟩ = false

/-! ### order and the comparing of folded labels -/

theorem bytesLess_cons (x y : UInt8) (a b : List UInt8) : Op.bytesLess (x :: a) (y :: b) = (decide (x < y) || (x == y && Op.bytesLess a b)) := rfl

theorem order_compare : ∀ (a b : List UInt8), orderM (foldL a) (foldL b) = compareM a b
  | [], [] => rfl
  | [], _ :: _ => rfl
  | _ :: _, [] => rfl
  | x :: a, y :: b => by
    have ih := order_compare a b
    unfold orderM at ih ⊢
    simp only [foldL, List.map_cons, bytesLess_cons] at ih ⊢
    by_cases h : smallU x = smallU y
    · have h1 : ¬ smallU x < smallU y := by rw [h]; exact UInt8.lt_irrefl _
      simp only [compareM, h, if_true]
      rw [← ih]
      simp only [UInt8.lt_irrefl, decide_false, Bool.false_or, beq_self_eq_true, Bool.true_and, List.cons.injEq, true_and]
      congr
    · simp only [compareM, h, if_false, List.cons.injEq, false_and]
      unfold cmpI
      have hn : (smallU x).toNat ≠ (smallU y).toNat := fun e => h (UInt8.toNat_inj.1 e)
      by_cases hlt : smallU x < smallU y
      · have : ((smallU x).toNat : Int) < (smallU y).toNat := by rw [UInt8.lt_iff_toNat_lt] at hlt; omega
        simp [hlt, this]
      · have h2 : ¬ ((smallU x).toNat : Int) < (smallU y).toNat := by rw [UInt8.lt_iff_toNat_lt] at hlt; omega
        have h3 : ((smallU y).toNat : Int) < (smallU x).toNat := by omega
        have h4 : (smallU x == smallU y) = false := by simpa using h
        simp [hlt, h2, h3, h4]

/-! ### LabelText -/
theorem ba_ext {a b : ByteArray} (h : a.data.toList = b.data.toList) : a = b := by
  obtain ⟨⟨a⟩⟩ := a; obtain ⟨⟨b⟩⟩ := b; simp at h; rw [h]
theorem mk_append (a b : List UInt8) : (⟨a.toArray⟩ : ByteArray) ++ ⟨b.toArray⟩ = ⟨(a ++ b).toArray⟩ := by
  rw [ByteArray.mk_append_mk]
theorem extract_one (s : ByteArray) (k : Nat) (h : k < s.size) : s.extract k (k + 1) = ⟨#[s[k]]⟩ := by
  apply ba_ext
  have h1 : (s.extract k (k + 1)).data.toList = (s.data.toList.take (k + 1)).drop k := by simp [ByteArray.data_extract, List.drop_take]
  rw [h1, take_snoc_get s k h, List.drop_left' (by simp; omega)]

set_option maxHeartbeats 2000000 in
theorem ref_LabelText (s : ByteArray) (w : World) (hs : s.size ≤ 35184372088000) :
    Calls Tryd.prog 29 #[.string s] w fun e w' => e = .returned (.string ⟨(textL s.data.toList).toArray⟩) ∧ Below w.heap.size w w' := by
  go_enter Tryd.func29, Tryd.ntmps29
  go_wp2
  go_loopw [3, 4] (fun v i wr => ∃ k : Nat, i = .int .i64 k ∧ k ≤ s.size ∧ v = .string ⟨(textL (s.data.toList.take k)).toArray⟩ ∧ Below w.heap.size w wr) (fun _ i _ => s.size - (intOf i).toNat)
  case atStart => exact ⟨0, rfl, Nat.zero_le _, rfl, Below.refl _ _⟩
  case round =>
    obtain ⟨k, rfl, hk, rfl, hb⟩ := hrel
    by_cases hlt : k < s.size
    · have hsn := take_snoc_get s k hlt
      have hx1 := extract_one s k hlt
      have hle := textL_le (s.data.toList.take k)
      have hlen : (s.data.toList.take k).length ≤ k := List.length_take_le _ _
      have HS : Hid (textL (s.data.toList.take (k + 1)) = textL (s.data.toList.take k) ++ octetW s[k]) := Lib.hid (by rw [hsn, textL_snoc])
      clear hsn
      have hz : (ByteArray.mk (textL (s.data.toList.take k)).toArray).size ≤ 4 * k := by show (textL (s.data.toList.take k)).toArray.size ≤ _; simp; omega
      have hSp := ref_special s[k] ⟨#[46, 92, 34, 40, 41, 59, 64, 36]⟩
      rw [special_is] at hSp
      have hEs := ref_escaped s[k]
      have hbs := hb.size
      clear hle hlen
      generalize hT : textL (s.data.toList.take k) = T at *
      clear hT
      have hc255 : (s[k].toNat : Int) ≤ 255 := by have := s[k].toNat_lt; omega
      by_cases hsp : specialU s[k] = true
      · have hw := octetW_special hsp
        have HW := Lib.hid hw; clear hw
        have a1 := run_string_add_sum (P := Tryd.prog) wr ⟨T.toArray⟩ ⟨#[92]⟩ (by show _ + 1 ≤ _; omega)
        have e1 : (⟨T.toArray⟩ : ByteArray) ++ ⟨#[92]⟩ = ⟨(T ++ [92]).toArray⟩ := mk_append T [92]
        have a2 := run_string_add_sum (P := Tryd.prog) wr ⟨(T ++ [92]).toArray⟩ ⟨#[s[k]]⟩ (by rw [← e1, ByteArray.size_append]; show _ + 1 + 1 ≤ _; omega)
        have e2 : (⟨(T ++ [92]).toArray⟩ : ByteArray) ++ ⟨#[s[k]]⟩ = ⟨(T ++ [92] ++ [s[k]]).toArray⟩ := mk_append (T ++ [92]) [s[k]]
        rw [e1] at a1
        rw [e2] at a2
        clear e1 e2 hz
        go_wp2_with (first | (go_at_call 40; refine (hSp _ (by decide)).mono ?_; rintro e w' ⟨rfl, rfl⟩) | (go_at_call 41; refine (hEs _).mono ?_; rintro e w2 ⟨rfl, hb2⟩))
        go_roundw
        case rel => exact ⟨k + 1, by go_num, by omega, by rw [HS.out, HW.out], hb⟩
        case measure => simp [intOf]; omega
      have hsp0 : specialU s[k] = false := by simpa using hsp
      clear hsp
      by_cases hpl : 33 ≤ (s[k].toNat : Int) ∧ (s[k].toNat : Int) ≤ 126
      · have hw := octetW_plain hsp0 hpl.1 hpl.2
        have HW := Lib.hid hw; clear hw
        obtain ⟨hp1, hp2⟩ := hpl
        have a1 := run_string_add_sum (P := Tryd.prog) wr ⟨T.toArray⟩ ⟨#[s[k]]⟩ (by show _ + 1 ≤ _; omega)
        have e1 : (⟨T.toArray⟩ : ByteArray) ++ ⟨#[s[k]]⟩ = ⟨(T ++ [s[k]]).toArray⟩ := mk_append T [s[k]]
        rw [e1] at a1
        clear e1 hz
        go_wp2_with (first | (go_at_call 40; refine (hSp _ (by decide)).mono ?_; rintro e w' ⟨rfl, rfl⟩) | (go_at_call 41; refine (hEs _).mono ?_; rintro e w2 ⟨rfl, hb2⟩))
        go_roundw
        case rel => exact ⟨k + 1, by go_num, by omega, by rw [HS.out, HW.out], hb⟩
        case measure => simp [intOf]; omega
      · have hw := octetW_esc hsp0 (by omega)
        have HW := Lib.hid hw; clear hw
        have a1 := fun W => run_string_add_sum (P := Tryd.prog) W ⟨T.toArray⟩ ⟨(octetEsc s[k]).toArray⟩ (by show _ + (octetEsc s[k]).toArray.size ≤ _; simp [octetEsc]; omega)
        have e1 : (⟨T.toArray⟩ : ByteArray) ++ ⟨(octetEsc s[k]).toArray⟩ = ⟨(T ++ octetEsc s[k]).toArray⟩ := mk_append T (octetEsc s[k])
        rw [e1] at a1
        clear e1 hz
        by_cases hp1 : 33 ≤ (s[k].toNat : Int)
        all_goals
          go_wp2_with (first | (go_at_call 40; refine (hSp _ (by decide)).mono ?_; rintro e w' ⟨rfl, rfl⟩) | (go_at_call 41; refine (hEs _).mono ?_; rintro e w2 ⟨rfl, hb2⟩))
          try (exfalso; omega)
          try (go_roundw
               case rel => exact ⟨k + 1, by go_num, by omega, by rw [HS.out, HW.out], hb.trans (hb2.mono hbs)⟩
               case measure => simp [intOf]; omega)
    · obtain rfl : k = s.size := by omega
      have ht : s.data.toList.take s.size = s.data.toList := List.take_of_length_le (by simp)
      rw [ht]
      go_wp2
      go_ret
      exact ⟨rfl, hb⟩

end Go.Proofs.YtbnkecmhmcligaaDoor

