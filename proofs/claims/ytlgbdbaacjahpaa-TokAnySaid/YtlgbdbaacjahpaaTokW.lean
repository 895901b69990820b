/-
  The program's scan: tok.scan's takePlain.
-/
import Derived.Test.YtlgbdbaacjahpaaTokV
namespace Go.Proofs.Ytlgbdbaacjahpaa
open Go.RowKit Go.Shelf
set_option maxRecDepth 20000

/-- The scan is no longer than any text's. -/
def SMax (x : KS) : Prop := x.ewords.length ≤ 1000000 ∧ x.word.length ≤ 1000000 ∧ x.done.length ≤ 1000000 ∧ x.opn.length ≤ 8
theorem endWord_opn (x : KS) : (kEndWord x).opn = x.opn := rfl
set_option maxRecDepth 100000 in
set_option maxHeartbeats 4000000 in
theorem takePlain_blank (B base : Nat) (x : KS) (n : Nat) (c : Int) (hc : c = 32 ∨ c = 9) (w : World) (hS : SBox w B base x) (hbase : base ≤ w.heap.size) (hBb : base ≤ B) (hM : SMax x) :
    Calls Try.prog 16 #[.pointer (some ⟨B, 0, none⟩), .int .i64 (n : Int), .int .u8 c] w (ScanPostE B base (kEndWord x, 0) w) := by
  have hBB := hS.rbox hBb
  obtain ⟨m1, m2, m3, m4⟩ := hM
  have hP := scan_endWord B base x w hS hbase hBb (by omega) (by omega)
  clear hS m1 m2 m3 m4
  rcases hc with rfl | rfl
  · go_enter Try.func16, Try.ntmps16
    go_wp2_with fail
    refine hP.mono ?_
    rintro e w2 ⟨rfl, hS2, hb2⟩
    clear hP
    go_wp2_with fail
    go_ret
    exact ⟨rfl, hS2, hb2⟩
  · go_enter Try.func16, Try.ntmps16
    go_wp2_with fail
    refine hP.mono ?_
    rintro e w2 ⟨rfl, hS2, hb2⟩
    clear hP
    go_wp2_with fail
    go_ret
    exact ⟨rfl, hS2, hb2⟩
set_option maxRecDepth 100000 in
set_option maxHeartbeats 4000000 in
theorem takePlain_remark (B base : Nat) (x : KS) (n : Nat) (w : World) (hS : SBox w B base x) (hbase : base ≤ w.heap.size) (hBb : base ≤ B) (hM : SMax x) :
    Calls Try.prog 16 #[.pointer (some ⟨B, 0, none⟩), .int .i64 (n : Int), .int .u8 59] w (ScanPostE B base ({ kEndWord x with remark := true }, 0) w) := by
  have hBB := hS.rbox hBb
  obtain ⟨m1, m2, m3, m4⟩ := hM
  have hP := scan_endWord B base x w hS hbase hBb (by omega) (by omega)
  generalize kEndWord x = y at hP ⊢
  clear hS m1 m2 m3 m4
  go_enter Try.func16, Try.ntmps16
  go_wp2_with fail
  refine hP.mono ?_
  rintro e w2 ⟨rfl, ⟨vd, ve, vo, vw, hbx, hrow⟩, hb2⟩
  clear hP
  have hc8 := kcell hbx 8 (.bool y.remark) rfl
  have hf8 := kfrozen hbx 8
  have HB := Lib.hid hbx; have HR := Lib.hid hrow
  clear hbx hrow
  go_wp2_with fail
  go_ret
  exact ⟨rfl, ⟨vd, ve, vo, vw, kset HB.out 8 _, SRow.set (x := { y with remark := true }) HR.out HB.out 8 _⟩, hb2.setCell (p := ⟨B, 8, none⟩) hBB _⟩
set_option maxRecDepth 100000 in
set_option maxHeartbeats 4000000 in
theorem takePlain_open (B base : Nat) (x : KS) (n : Nat) (w : World) (hS : SBox w B base x) (hbase : base ≤ w.heap.size) (hBb : base ≤ B) (hM : SMax x) :
    Calls Try.prog 16 #[.pointer (some ⟨B, 0, none⟩), .int .i64 (n : Int), .int .u8 40] w (ScanPostE B base (kOpen n (kEndWord x)) w) := by
  have hBB := hS.rbox hBb
  obtain ⟨m1, m2, m3, m4⟩ := hM
  have hP := scan_endWord B base x w hS hbase hBb (by omega) (by omega)
  have ho := endWord_opn x
  rw [← ho] at m4
  generalize kEndWord x = y at hP ho m4 ⊢
  clear hS m1 m2 m3 ho
  have HO := Lib.hid m4
  clear m4
  go_enter Try.func16, Try.ntmps16
  go_wp2_with fail
  refine hP.mono ?_
  rintro e w2 ⟨rfl, hS2, hb2⟩
  clear hP
  have hQ := scan_openAt B base y n w2 hS2 (Nat.le_trans hbase hb2.size) hBb HO.out
  obtain ⟨⟨z, er⟩, hz⟩ : ∃ p, kOpen n y = p := ⟨_, rfl⟩
  rw [hz] at hQ
  have HZ := Lib.hid hz
  clear hS2 hz
  go_wp2_with fail
  refine hQ.mono ?_
  rintro e w3 ⟨rfl, hS3, hb3⟩
  clear hQ
  go_wp2_with fail
  go_ret
  rw [HZ.out]
  exact ⟨rfl, hS3, hb2.trans hb3⟩
set_option maxRecDepth 100000 in
set_option maxHeartbeats 4000000 in
theorem takePlain_shut (B base : Nat) (x : KS) (n : Nat) (w : World) (hS : SBox w B base x) (hbase : base ≤ w.heap.size) (hBb : base ≤ B) (hM : SMax x) :
    Calls Try.prog 16 #[.pointer (some ⟨B, 0, none⟩), .int .i64 (n : Int), .int .u8 41] w (ScanPostE B base (kShut (kEndWord x)) w) := by
  have hBB := hS.rbox hBb
  obtain ⟨m1, m2, m3, m4⟩ := hM
  have hP := scan_endWord B base x w hS hbase hBb (by omega) (by omega)
  have ho := endWord_opn x
  rw [← ho] at m4
  generalize kEndWord x = y at hP ho m4 ⊢
  clear hS m1 m2 m3 ho
  have HO := Lib.hid m4
  clear m4
  go_enter Try.func16, Try.ntmps16
  go_wp2_with fail
  refine hP.mono ?_
  rintro e w2 ⟨rfl, hS2, hb2⟩
  clear hP
  have hQ := scan_shut B base y w2 hS2 (Nat.le_trans hbase hb2.size) hBb HO.out
  obtain ⟨⟨z, er⟩, hz⟩ : ∃ p, kShut y = p := ⟨_, rfl⟩
  rw [hz] at hQ
  have HZ := Lib.hid hz
  clear hS2 hz
  go_wp2_with fail
  refine hQ.mono ?_
  rintro e w3 ⟨rfl, hS3, hb3⟩
  clear hQ
  go_wp2_with fail
  go_ret
  rw [HZ.out]
  exact ⟨rfl, hS3, hb2.trans hb3⟩
set_option maxRecDepth 100000 in
set_option maxHeartbeats 4000000 in
theorem takePlain_quote (B base : Nat) (x : KS) (n : Nat) (w : World) (hS : SBox w B base x) (hbase : base ≤ w.heap.size) (hBb : base ≤ B) (hM : SMax x) :
    Calls Try.prog 16 #[.pointer (some ⟨B, 0, none⟩), .int .i64 (n : Int), .int .u8 34] w (ScanPostE B base (if x.quoted then (kEndWord x, 0) else ({ kBegin n (kEndWord x) with quoted := true }, 0)) w) := by
  have hBB := hS.rbox hBb
  obtain ⟨m1, m2, m3, m4⟩ := hM
  have hP := scan_endWord B base x w hS hbase hBb (by omega) (by omega)
  obtain ⟨vd0, ve0, vo0, vw0, hbx0, hrow0⟩ := id hS
  have hc11 := kcell hbx0 11 (.bool x.quoted) rfl
  clear hS m1 m2 m3 m4 hbx0 hrow0
  generalize kEndWord x = y at hP ⊢
  cases hq : x.quoted
  · rw [hq] at hc11
    simp only [Bool.false_eq_true, if_false]
    clear hq
    go_enter Try.func16, Try.ntmps16
    go_wp2_with fail
    refine hP.mono ?_
    rintro e w2 ⟨rfl, hS2, hb2⟩
    clear hP hc11
    have hQ := scan_begin B base y n w2 hS2 (Nat.le_trans hbase hb2.size) hBb
    obtain ⟨z, hz⟩ : ∃ z, kBegin n y = z := ⟨_, rfl⟩
    rw [hz] at hQ
    have HZ := Lib.hid hz
    clear hS2 hz
    go_wp2_with fail
    refine hQ.mono ?_
    rintro e w3 ⟨rfl, ⟨vd, ve, vo, vw, hbx, hrow⟩, hb3⟩
    clear hQ
    have hc11 := kcell hbx 11 (.bool z.quoted) rfl
    have hf11 := kfrozen hbx 11
    have HB := Lib.hid hbx; have HR := Lib.hid hrow
    clear hbx hrow
    go_wp2_with fail
    go_ret
    rw [HZ.out]
    exact ⟨rfl, ⟨vd, ve, vo, vw, kset HB.out 11 _, SRow.set (x := { z with quoted := true }) HR.out HB.out 11 _⟩, (hb2.trans hb3).setCell (p := ⟨B, 11, none⟩) hBB _⟩
  · rw [hq] at hc11
    simp only [if_true]
    clear hq
    go_enter Try.func16, Try.ntmps16
    go_wp2_with fail
    refine hP.mono ?_
    rintro e w2 ⟨rfl, hS2, hb2⟩
    clear hP hc11
    go_wp2_with fail
    go_ret
    exact ⟨rfl, hS2, hb2⟩
theorem c_ne {c d : UInt8} (h : c ≠ d) (n : Int) (hn : (d.toNat : Int) = n) : ((c.toNat : Int) == n) = false := by
  rw [← hn]
  simp only [beq_eq_false_iff_ne, ne_eq]
  intro e
  exact h (UInt8.toNat_inj.1 (by omega))
theorem begin_word (n : Nat) (x : KS) : (kBegin n x).word = x.word := by
  unfold kBegin kStart
  split
  · rfl
  · split <;> split <;> rfl
set_option maxRecDepth 100000 in
set_option maxHeartbeats 4000000 in
theorem scan_takePlain (B base : Nat) (x : KS) (n : Nat) (c : UInt8) (w : World) (hS : SBox w B base x) (hbase : base ≤ w.heap.size) (hBb : base ≤ B) (hM : SMax x) :
    Calls Try.prog 16 #[.pointer (some ⟨B, 0, none⟩), .int .i64 (n : Int), bv c] w (ScanPostE B base (kPlain n c x) w) := by
  have hBB := hS.rbox hBb
  unfold kPlain
  by_cases h1 : c = 32 ∨ c = 9
  · rw [if_pos h1]
    rcases h1 with rfl | rfl
    · exact takePlain_blank B base x n 32 (.inl rfl) w hS hbase hBb hM
    · exact takePlain_blank B base x n 9 (.inr rfl) w hS hbase hBb hM
  rw [if_neg h1]
  by_cases h2 : c = 59
  · subst h2; rw [if_pos rfl]; exact takePlain_remark B base x n w hS hbase hBb hM
  rw [if_neg h2]
  by_cases h3 : c = 40
  · subst h3; rw [if_pos rfl]; exact takePlain_open B base x n w hS hbase hBb hM
  rw [if_neg h3]
  by_cases h4 : c = 41
  · subst h4; rw [if_pos rfl]; exact takePlain_shut B base x n w hS hbase hBb hM
  rw [if_neg h4]
  by_cases h5 : c = 34
  · subst h5; rw [if_pos rfl]; exact takePlain_quote B base x n w hS hbase hBb hM
  rw [if_neg h5]
  have hP := scan_add B base x n c w hS hbase hBb (by rw [begin_word]; have := hM.2.1; omega)
  have z1 := c_ne (fun h => h1 (.inl h)) 32 (d := 32) rfl
  have z2 := c_ne (fun h => h1 (.inr h)) 9 (d := 9) rfl
  have z3 := c_ne h2 59 rfl
  have z4 := c_ne h3 40 rfl
  have z5 := c_ne h4 41 rfl
  have z6 := c_ne h5 34 rfl
  unfold bv at hP ⊢
  clear hS h1 h2 h3 h4 h5 hM
  generalize kAdd n c x = y at hP ⊢
  go_enter Try.func16, Try.ntmps16
  go_wp2_with fail
  refine hP.mono ?_
  rintro e w2 ⟨rfl, hS2, hb2⟩
  clear hP
  go_wp2_with fail
  go_ret
  exact ⟨rfl, hS2, hb2⟩
end Go.Proofs.Ytlgbdbaacjahpaa
