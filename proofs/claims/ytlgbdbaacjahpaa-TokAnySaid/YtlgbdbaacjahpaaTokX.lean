/-
  The program's scan: tok.scan's take.
-/
import Derived.Test.YtlgbdbaacjahpaaTokW
import Derived.Deep.CutBlock
import Derived.Deep.DeepCutAuto
namespace Go.Proofs.Ytlgbdbaacjahpaa
open Go.RowKit Go.Shelf
set_option maxRecDepth 20000

theorem fresh_max {x : KS} (c : UInt8) (h : SMax x) : SMax (kFresh c x) := by
  unfold kFresh
  split
  · exact h
  · exact h
set_option maxRecDepth 100000 in
set_option maxHeartbeats 8000000 in
theorem scan_take (B base : Nat) (x : KS) (n : Nat) (c : UInt8) (w : World) (hS : SBox w B base x) (hbase : base ≤ w.heap.size) (hBb : base ≤ B) (hM : SMax x) :
    Calls Try.prog 11 #[.pointer (some ⟨B, 0, none⟩), .int .i64 (n : Int), bv c] w (ScanPostE B base (kTake n c x) w) := by
  have hBB := hS.rbox hBb
  unfold kTake
  obtain ⟨y, hy⟩ : ∃ y, kFresh c x = y := ⟨_, rfl⟩
  have hMy : SMax y := by rw [← hy]; exact fresh_max c hM
  rw [hy]
  have HY := Lib.hid hy
  obtain ⟨vd, ve, vo, vw, hbx, hrow⟩ := hS
  have hc6 := kcell hbx 6 (.bool x.fresh) rfl
  have hc7 := kcell hbx 7 (.bool x.blank) rfl
  have hf6 := kfrozen hbx 6
  have hf7 := kfrozen hbx 7
  have HB := Lib.hid hbx; have HR := Lib.hid hrow
  clear hbx hrow hy hM
  have HMy := Lib.hid hMy
  clear hMy
  unfold bv
  go_enter Try.func11, Try.ntmps11
  go_upto_if 10 with (fail)
  go_cut [] (fun wx => SBox wx B base y ∧ Fr base w wx)
  case first =>
    cases hfr : x.fresh
    · rw [hfr] at hc6
      have HF := Lib.hid hfr
      clear hfr
      go_wp2_with fail
      go_meet
      have e : y = x := by rw [← HY.out]; unfold kFresh; rw [HF.out]; rfl
      rw [e]
      exact ⟨⟨vd, ve, vo, vw, HB.out, HR.out⟩, Fr.refl base w⟩
    · rw [hfr] at hc6
      have HF := Lib.hid hfr
      clear hfr
      have fin : ∀ b : Bool, decide (c = 32 ∨ c = 9) = b → SBox ((w.setCell ⟨B, 6, none⟩ (.bool false)).setCell ⟨B, 7, none⟩ (.bool b)) B base y ∧ Fr base w ((w.setCell ⟨B, 6, none⟩ (.bool false)).setCell ⟨B, 7, none⟩ (.bool b)) := by
        intro b hb
        have e : y = { x with fresh := false, blank := b } := by rw [← HY.out]; unfold kFresh; rw [HF.out, hb]; rfl
        rw [e]
        have g1 := kset HB.out 6 (.bool false)
        exact ⟨⟨vd, ve, vo, vw, kset g1 7 _, SRow.set (SRow.set (x := { x with fresh := false, blank := b }) HR.out HB.out 6 _) g1 7 _⟩, ((Fr.refl base w).setCell (p := ⟨B, 6, none⟩) hBB _).setCell (p := ⟨B, 7, none⟩) hBB _⟩
      have FIN := Lib.hid fin
      clear fin
      by_cases h1 : c = 32
      · subst h1
        go_wp2_with fail
        go_meet
        exact FIN.out true (by decide)
      · by_cases h2 : c = 9
        · subst h2
          go_wp2_with fail
          go_meet
          exact FIN.out true (by decide)
        · have z1 := c_ne h1 32 rfl
          have z2 := c_ne h2 9 rfl
          have HN := Lib.hid (show decide (c = 32 ∨ c = 9) = false by simp [h1, h2])
          clear h1 h2
          go_wp2_with fail
          go_meet
          exact FIN.out false HN.out
  case rest =>
    rename World => W
    obtain ⟨hSy, hbw⟩ := hcut
    have hSy' : SBox W B base y := hSy
    clear hSy'
    have HSW := Lib.hid hSy; have HBW := Lib.hid hbw
    clear hc6 hc7 hf6 hf7 HB HR HY hSy hbw
    have hz := Nat.le_trans hbase HBW.out.size
    obtain ⟨m1, m2, m3, m4⟩ := HMy.out
    by_cases h10 : c = 10
    · subst h10
      have hP := scan_endLine B base y W HSW.out hz hBb (by omega) (by omega) (by omega) m4
      obtain ⟨⟨z, er⟩, hq⟩ : ∃ p, kEnd y = p := ⟨_, rfl⟩
      have HZ := Lib.hid (show kTake0 n 10 y = (z, er) by unfold kTake0; rw [if_pos rfl]; exact hq)
      rw [hq] at hP
      clear hq m1 m2 m3 m4
      go_wp2_with fail
      refine hP.mono ?_
      rintro e w3 ⟨rfl, hS3, hb3⟩
      clear hP
      go_wp2_with fail
      go_ret
      rw [HZ.out]
      exact ⟨rfl, hS3, HBW.out.trans hb3⟩
    have z10 := c_ne h10 10 rfl
    obtain ⟨vd, ve, vo, vw, hbx, hrow⟩ := id HSW.out
    obtain ⟨m, hm⟩ : ∃ m, y.word.length = m := ⟨_, rfl⟩
    obtain ⟨a, cp, rfl⟩ := hrow.2.2.2.shape
    have hc8 := kcell hbx 8 (.bool y.remark) rfl
    have hc12 := kcell hbx 12 (.bool y.taken) rfl
    have hf12 := kfrozen hbx 12
    have hc11 := kcell hbx 11 (.bool y.quoted) rfl
    have hc9 := kcell hbx 9 (.slice a m cp) (by rw [← hm]; rfl)
    have hf9 := kfrozen hbx 9
    have HB := Lib.hid hbx; have HR := Lib.hid hrow; have HM := Lib.hid hm
    have H10 := Lib.hid h10
    clear hbx hrow hm h10
    by_cases hrm : y.remark = true
    · rw [hrm] at hc8
      have HZ := Lib.hid (show kTake0 n c y = (y, 0) by unfold kTake0; rw [if_neg H10.out, if_pos hrm])
      clear hrm
      go_wp2_with fail
      go_ret
      rw [HZ.out]
      exact ⟨rfl, HSW.out, HBW.out⟩
    have hrm' : y.remark = false := by simpa using hrm
    rw [hrm'] at hc8
    have HRM := Lib.hid hrm'
    clear hrm hrm'
    have hmb : m ≤ 1000000 := by have := HM.out; omega
    have HC := Lib.hid (show [Value.int .u8 (c.toNat : Int)] = [c].flatMap encB from rfl)
    have hW : OwnK 1 5 encB W base (.slice a m cp) y.word := by rw [← HM.out]; exact HR.out.2.2.2
    by_cases htk : y.taken = true
    · rw [htk] at hc12
      have HZ := Lib.hid (show kTake0 n c y = ({ y with taken := false, word := y.word ++ [c] }, 0) by unfold kTake0; rw [if_neg H10.out, if_neg (by rw [HRM.out]; simp), if_pos htk])
      have HB1 := Lib.hid (kset HB.out 12 (.bool false))
      have hW1 : OwnK 1 5 encB (W.setCell ⟨B, 12, none⟩ (.bool false)) base (.slice a m cp) y.word := hW.keptB HB.out (by decide) 12 _
      have HR1 := Lib.hid (SRow.set (x := { y with taken := false }) HR.out HB.out 12 (.bool false))
      have HBW1 := Lib.hid (HBW.out.setCell (p := ⟨B, 12, none⟩) hBB (.bool false))
      have hz1 := Nat.le_trans hbase HBW1.out.size
      clear htk hW
      go_wp2_with (at_builtin; refine wpl_append_k (W.setCell ⟨B, 12, none⟩ (.bool false)) rfl (.tmp 49) (.tmp 51) elemB (by decide) rfl encB_one base (.slice a m cp) y.word (by rfl) hW1 [Value.int .u8 c.toNat] [c] HC.out rfl 1 1 (by simp [Act.eval]) rfl hz1 (by have := HM.out; unfold maxLen; simp; omega) (by have := HM.out; simp; omega) ?_; intro v3 w3 hown3 hg3 _; have hbx3 := Lib.hid ((hg3.block B (kblock_lt HB1.out) (hW1.ne_block HB1.out (by decide))).trans HB1.out); have hc3 := kcell hbx3.out 9 (.slice a m cp) (by rw [← HM.out]; rfl); have hf3 := kfrozen hbx3.out 9; obtain ⟨a3, c3, rfl⟩ := hown3.shape; generalize (y.word ++ [c]).length = n3 at hown3 ⊢)
      go_ret
      rw [HZ.out]
      have hr := HR1.out
      have hrow3 : SRow w3 base vd ve vo (.slice a3 n3 c3) { y with taken := false, word := y.word ++ [c] } := ⟨hr.1.grown hW1 (by decide) (by decide) hg3, OwnK.kept2 hr.2.1 hW1 (by decide) hg3, OwnK.kept2 hr.2.2.1 hW1 (by decide) hg3, hown3⟩
      exact ⟨rfl, ⟨vd, ve, vo, .slice a3 n3 c3, kset hbx3.out 9 _, hrow3.set hbx3.out 9 _⟩, (HBW1.out.grown hg3 hz1 (hW1.far (by decide))).setCell (p := ⟨B, 9, none⟩) hBB _⟩
    have htk' : y.taken = false := by simpa using htk
    rw [htk'] at hc12
    have HTK := Lib.hid htk'
    clear htk htk'
    by_cases h92 : c = 92
    · subst h92
      have hP := scan_add B base y n 92 W HSW.out hz hBb (by rw [begin_word]; have := HM.out; omega)
      obtain ⟨z, hq⟩ : ∃ z, kAdd n 92 y = z := ⟨_, rfl⟩
      have HZ := Lib.hid (show kTake0 n 92 y = ({ z with taken := true }, 0) by unfold kTake0; rw [if_neg H10.out, if_neg (by rw [HRM.out]; simp), if_neg (by rw [HTK.out]; simp), if_pos rfl, hq])
      rw [hq] at hP
      clear hq m1 m2 m3 m4 hW
      go_wp2_with fail
      refine hP.mono ?_
      rintro e w3 ⟨rfl, ⟨vd3, ve3, vo3, vw3, hbx3, hrow3⟩, hb3⟩
      clear hP
      have hc12 := kcell hbx3 12 (.bool z.taken) rfl
      have hf12 := kfrozen hbx3 12
      have HB3 := Lib.hid hbx3; have HR3 := Lib.hid hrow3
      clear hbx3 hrow3
      go_wp2_with fail
      go_ret
      rw [HZ.out]
      exact ⟨rfl, ⟨vd3, ve3, vo3, vw3, kset HB3.out 12 _, SRow.set (x := { z with taken := true }) HR3.out HB3.out 12 _⟩, (HBW.out.trans hb3).setCell (p := ⟨B, 12, none⟩) hBB _⟩
    have z92 := c_ne h92 92 rfl
    have H92 := Lib.hid h92
    clear h92
    by_cases hqq : y.quoted = true ∧ c ≠ 34
    · have z34 := c_ne hqq.2 34 rfl
      rw [hqq.1] at hc11
      have HZ := Lib.hid (show kTake0 n c y = ({ y with word := y.word ++ [c] }, 0) by unfold kTake0; rw [if_neg H10.out, if_neg (by rw [HRM.out]; simp), if_neg (by rw [HTK.out]; simp), if_neg H92.out, if_pos hqq])
      clear hqq
      go_wp2_with (at_builtin; refine wpl_append_k W rfl (.tmp 78) (.tmp 80) elemB (by decide) rfl encB_one base (.slice a m cp) y.word (by rfl) hW [Value.int .u8 c.toNat] [c] HC.out rfl 1 1 (by rfl) rfl hz (by have := HM.out; unfold maxLen; simp; omega) (by have := HM.out; simp; omega) ?_; intro v3 w3 hown3 hg3 _; have hbx3 := Lib.hid ((hg3.block B (kblock_lt HB.out) (hW.ne_block HB.out (by decide))).trans HB.out); have hc3 := kcell hbx3.out 9 (.slice a m cp) (by rw [← HM.out]; rfl); have hf3 := kfrozen hbx3.out 9; obtain ⟨a3, c3, rfl⟩ := hown3.shape; generalize (y.word ++ [c]).length = n3 at hown3 ⊢)
      go_ret
      rw [HZ.out]
      have hr := HR.out
      have hrow3 : SRow w3 base vd ve vo (.slice a3 n3 c3) { y with word := y.word ++ [c] } := ⟨hr.1.grown hW (by decide) (by decide) hg3, OwnK.kept2 hr.2.1 hW (by decide) hg3, OwnK.kept2 hr.2.2.1 hW (by decide) hg3, hown3⟩
      exact ⟨rfl, ⟨vd, ve, vo, .slice a3 n3 c3, kset hbx3.out 9 _, hrow3.set hbx3.out 9 _⟩, (HBW.out.grown hg3 hz (hW.far (by decide))).setCell (p := ⟨B, 9, none⟩) hBB _⟩
    · have hP := scan_takePlain B base y n c W HSW.out hz hBb HMy.out
      obtain ⟨⟨z, er⟩, hq⟩ : ∃ p, kPlain n c y = p := ⟨_, rfl⟩
      have HZ := Lib.hid (show kTake0 n c y = (z, er) by unfold kTake0; rw [if_neg H10.out, if_neg (by rw [HRM.out]; simp), if_neg (by rw [HTK.out]; simp), if_neg H92.out, if_neg hqq]; exact hq)
      rw [hq] at hP
      unfold bv at hP
      have HQ := Lib.hid hqq
      clear hq m1 m2 m3 m4 hW hqq
      cases hqt : y.quoted
      · rw [hqt] at hc11
        clear hqt
        go_wp2_with fail
        refine hP.mono ?_
        rintro e w3 ⟨rfl, hS3, hb3⟩
        clear hP
        go_wp2_with fail
        go_ret
        rw [HZ.out]
        exact ⟨rfl, hS3, HBW.out.trans hb3⟩
      · rw [hqt] at hc11
        obtain rfl : c = 34 := by
          have h := HQ.out
          rw [hqt] at h
          simpa using h
        clear hqt
        go_wp2_with fail
        refine hP.mono ?_
        rintro e w3 ⟨rfl, hS3, hb3⟩
        clear hP
        go_wp2_with fail
        go_ret
        rw [HZ.out]
        exact ⟨rfl, hS3, HBW.out.trans hb3⟩
end Go.Proofs.Ytlgbdbaacjahpaa
