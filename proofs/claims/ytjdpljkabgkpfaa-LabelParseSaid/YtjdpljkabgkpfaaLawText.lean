/-
  LabelText: any octets as a label: whether they may be; in words, and back.
-/
import Derived.Test.YtjdpljkabgkpfaaLawOrder
import Derived.Test.YtjdpljkabgkpfaaLawSafe
namespace Go.Proofs.Ytjdpljkabgkpfaa
open Go.RowKit Go.Shelf

theorem readM_octetW (c : UInt8) (r : List UInt8) : readM (octetW c ++ r) = (c, (octetW c).length, 0) := by
  have hc := c.toNat_lt
  by_cases hsp : specialU c = true
  · have s1 : c.toNat = 46 ∨ c.toNat = 92 ∨ c.toNat = 34 ∨ c.toNat = 40 ∨ c.toNat = 41 ∨ c.toNat = 59 ∨ c.toNat = 64 ∨ c.toNat = 36 := of_decide_eq_true hsp
    have hd : digitU c = false := decide_eq_false (by omega)
    rw [octetW_special hsp]
    simp [readM, hd]
  · have hsp0 : specialU c = false := by simpa using hsp
    have s1 : ¬ (c.toNat = 46 ∨ c.toNat = 92 ∨ c.toNat = 34 ∨ c.toNat = 40 ∨ c.toNat = 41 ∨ c.toNat = 59 ∨ c.toNat = 64 ∨ c.toNat = 36) := of_decide_eq_false hsp0
    by_cases hpl : 33 ≤ (c.toNat : Int) ∧ (c.toNat : Int) ≤ 126
    · rw [octetW_plain hsp0 hpl.1 hpl.2]
      have e1 : c ≠ 46 := by intro e; subst e; simp at s1
      have e2 : c ≠ 92 := by intro e; subst e; simp at s1
      simp [readM, e1, e2]
    · rw [octetW_esc hsp0 (by omega)]
      have e1 : (48 + c / 100 : UInt8).toNat = 48 + c.toNat / 100 := by rw [UInt8.toNat_add, UInt8.toNat_div]; simp only [UInt8.reduceToNat]; omega
      have e2 : (48 + c / 10 % 10 : UInt8).toNat = 48 + c.toNat / 10 % 10 := by rw [UInt8.toNat_add, UInt8.toNat_mod, UInt8.toNat_div]; simp only [UInt8.reduceToNat]; omega
      have e3 : (48 + c % 10 : UInt8).toNat = 48 + c.toNat % 10 := by rw [UInt8.toNat_add, UInt8.toNat_mod]; simp only [UInt8.reduceToNat]; omega
      have d1 : digitU (48 + c / 100) = true := decide_eq_true (by omega)
      have d2 : digitU (48 + c / 10 % 10) = true := decide_eq_true (by omega)
      have d3 : digitU (48 + c % 10) = true := decide_eq_true (by omega)
      have hn : (48 + c.toNat / 100 - 48) * 100 + (48 + c.toNat / 10 % 10 - 48) * 10 + (48 + c.toNat % 10 - 48) = c.toNat := by omega
      simp only [octetEsc, List.cons_append, List.nil_append, readM, d1, d2, d3, e1, e2, e3, hn]
      rw [if_neg (by decide), if_neg (by decide), if_neg (by decide), if_pos ⟨trivial, trivial⟩, if_neg (by omega)]
      simp

theorem scan_text : ∀ l : List UInt8, scan (textL l) = (l, 0)
  | [] => rfl
  | c :: l => by
    have ih := scan_text l
    have hr := readM_octetW c (textL l)
    rw [textL_cons, scan_ok (by simp [octetW_ne]) (by rw [hr]), hr]
    simp only [List.drop_left', ih, join, if_true]
    rfl
theorem parse_text (l : List UInt8) : parseM (textL l) = (if checkLabelM l = 0 then (l, 0) else ([], checkLabelM l)) := by
  unfold parseM; rw [scan_text]; simp

set_option maxHeartbeats 4000000 in
theorem law1_Text (s : ByteArray) (w : World) (hs : s.size ≤ maxLen) : Calls Try.prog 3 #[.string s] w fun e w' => e = .returned (.bool true) ∧ Below w.heap.size w w' := by
  unfold maxLen at hs
  by_cases hlen : 100 < (s.size : Int)
  · go_enter Try.func3, Try.ntmps3
    go_wp2_with (go_at_call 8; refine (law1_known _).mono ?_; rintro e w1 ⟨rfl, hb1⟩)
    go_ret
    exact ⟨rfl, hb1⟩
  have hlen2 : (s.size : Int) ≤ 100 := by omega
  clear hlen
  have htl := textL_le s.data.toList
  rw [size_data] at htl
  have htz : (⟨(textL s.data.toList).toArray⟩ : ByteArray).size ≤ 400 := by show (textL s.data.toList).toArray.size ≤ _; simp; omega
  obtain ⟨er, her⟩ : ∃ er, checkLabelM s.data.toList = er := ⟨_, rfl⟩
  have hRC := fun W => ref_CheckLabel s W (by unfold maxLen; omega)
  have hC := fun W => label_Check s W (by unfold maxLen; omega)
  have hT := fun W => label_Text s W (by omega)
  have hRT := fun W => ref_LabelText s W (by omega)
  have hF := fun W => label_Fold s W (by omega)
  have hRF := fun W => ref_FoldLabel s W (by omega)
  have hP : ∀ W, Calls Try.prog 15 #[.string ⟨(textL s.data.toList).toArray⟩] W fun e w' => e = .returned (.tuple #[.string ⟨(if er = 0 then s.data.toList else []).toArray⟩, .int .i64 er]) ∧ Below W.heap.size W w' := fun W => by
    refine kn_parse _ (if er = 0 then s.data.toList else []) er ?_ (by omega) W
    have := parse_text s.data.toList
    rw [her] at this
    simp only [this]
    by_cases h : er = 0 <;> simp [h]
  rw [her] at hRC hC
  clear her htl
  generalize (⟨(textL s.data.toList).toArray⟩ : ByteArray) = t at *
  generalize (⟨(foldL s.data.toList).toArray⟩ : ByteArray) = f at *
  by_cases h0 : er = 0
  · subst h0
    simp only [if_true] at hP
    have hsd : (⟨s.data.toList.toArray⟩ : ByteArray) = s := by apply ba_ext; simp
    rw [hsd] at hP
    clear hsd
    go_enter Try.func3, Try.ntmps3
    go_wp2_with fail
    refine (law1_known _).mono ?_
    rintro e w1 ⟨rfl, b1⟩
    go_wp2_with fail
    refine (hRC _).mono ?_
    rintro e w2 ⟨rfl, rfl⟩
    go_wp2_with fail
    refine (hT _).mono ?_
    rintro e w3 ⟨rfl, b3⟩
    go_wp2_with fail
    refine (hC _).mono ?_
    rintro e w4 ⟨rfl, rfl⟩
    go_wp2_with fail
    refine (hRT _).mono ?_
    rintro e w5 ⟨rfl, b5⟩
    go_wp2_with fail
    refine (hF _).mono ?_
    rintro e w6 ⟨rfl, b6⟩
    go_wp2_with fail
    refine (hRF _).mono ?_
    rintro e w7 ⟨rfl, b7⟩
    go_wp2_with fail
    refine (hP _).mono ?_
    rintro e w8 ⟨rfl, b8⟩
    go_wp2_with fail
    go_ret
    refine ⟨rfl, ?_⟩
    exact b1.trans ((b3.mono b1.size).trans ((b5.mono (Nat.le_trans b1.size b3.size)).trans ((b6.mono (Nat.le_trans b1.size (Nat.le_trans b3.size b5.size))).trans ((b7.mono (Nat.le_trans b1.size (Nat.le_trans b3.size (Nat.le_trans b5.size b6.size)))).trans (b8.mono (Nat.le_trans b1.size (Nat.le_trans b3.size (Nat.le_trans b5.size (Nat.le_trans b6.size b7.size)))))))))
  · simp only [if_neg h0] at hP
    have hne : ((er : Int) != 0) = true := by simpa using h0
    have hne2 : ((er : Int) == 0) = false := by simpa using h0
    clear h0
    go_enter Try.func3, Try.ntmps3
    go_wp2_with fail
    refine (law1_known _).mono ?_
    rintro e w1 ⟨rfl, b1⟩
    go_wp2_with fail
    refine (hRC _).mono ?_
    rintro e w2 ⟨rfl, rfl⟩
    go_wp2_with fail
    refine (hT _).mono ?_
    rintro e w3 ⟨rfl, b3⟩
    go_wp2_with fail
    refine (hC _).mono ?_
    rintro e w4 ⟨rfl, rfl⟩
    go_wp2_with fail
    refine (hRT _).mono ?_
    rintro e w5 ⟨rfl, b5⟩
    go_wp2_with fail
    refine (hF _).mono ?_
    rintro e w6 ⟨rfl, b6⟩
    go_wp2_with fail
    refine (hRF _).mono ?_
    rintro e w7 ⟨rfl, b7⟩
    go_wp2_with fail
    refine (hP _).mono ?_
    rintro e w8 ⟨rfl, b8⟩
    go_wp2_with fail
    go_ret
    refine ⟨rfl, ?_⟩
    exact b1.trans ((b3.mono b1.size).trans ((b5.mono (Nat.le_trans b1.size b3.size)).trans ((b6.mono (Nat.le_trans b1.size (Nat.le_trans b3.size b5.size))).trans ((b7.mono (Nat.le_trans b1.size (Nat.le_trans b3.size (Nat.le_trans b5.size b6.size)))).trans (b8.mono (Nat.le_trans b1.size (Nat.le_trans b3.size (Nat.le_trans b5.size (Nat.le_trans b6.size b7.size)))))))))

end Go.Proofs.Ytjdpljkabgkpfaa
