/-
  The document's Lexer in memory: flush, a word that may be empty.
-/
import Derived.Test.YtlgbdbaacjahpaaTokLF1
import Derived.Test.YtlgbdbaacjahpaaTokLF2
namespace Go.Proofs.Ytlgbdbaacjahpaa
open Go.RowKit Go.Shelf
set_option maxRecDepth 20000
set_option linter.unusedVariables false
set_option maxRecDepth 100000 in
set_option maxHeartbeats 8000000 in
theorem lex_flush (B base : Nat) (y : LS) (q : Bool) (n : Nat) (w : World) (hS : LBox w B base y) (hBb : base ≤ B) (hl : y.ewords.length ≤ 1048576) :
    Calls Try.prog 17 #[.pointer (some ⟨B, 0, none⟩), .bool q, .int .i64 (n : Int)] w (LexPost B base (lFl q n y) w) := by
  obtain ⟨vo, ve, hbx, hrow⟩ := hS
  obtain ⟨k, hk⟩ : ∃ k, y.ewords.length = k := ⟨_, rfl⟩
  obtain ⟨ae, ce, rfl⟩ := hrow.2.shape
  rw [hk] at hbx hrow
  have hc6 := kcell hbx 6 (.int .i64 (y.first : Int)) rfl
  have hc8 := kcell hbx 8 (.bool y.inn) rfl
  have hc7 := kcell hbx 7 (strV y.w) rfl
  have hc3 := kcell hbx 3 (.slice ae k ce) rfl
  have hc1 := kcell hbx 1 (.int .i64 (y.eline : Int)) rfl
  have hf1 := kfrozen hbx 1
  have hf3 := kfrozen hbx 3
  have hf7 := kfrozen hbx 7
  have hf8 := kfrozen hbx 8
  have HB := Lib.hid hbx; have HR := Lib.hid hrow; have HK := Lib.hid hk
  have HL := Lib.hid hl
  clear hbx hrow hk hl hc6
  by_cases hno : y.inn = false ∧ q = false
  · obtain ⟨h1, rfl⟩ := hno
    rw [h1] at hc8
    have HI := Lib.hid h1
    clear h1
    go_enter Try.func17, Try.ntmps17
    go_wp2_with fail
    refine bodyPost_ret (results_none rfl _ _ _) rfl ?_
    have e : lFl false n y = y := by unfold lFl; rw [HI.out, if_neg (by simp)]
    rw [e]
    exact ⟨rfl, ⟨vo, _, HB.out, HR.out⟩, Below.refl base w⟩
  by_cases hi : y.inn = true
  · exact lex_flush1 B base y q n w ⟨vo, _, HB.out, HR.out⟩ hBb HL.out hi
  · have hi' : y.inn = false := by simpa using hi
    have hq : q = true := by
      by_cases hq : q = true
      · exact hq
      · exact absurd ⟨hi', by simpa using hq⟩ hno
    exact lex_flush2 B base y q n w ⟨vo, _, HB.out, HR.out⟩ hBb HL.out hi' hq
end Go.Proofs.Ytlgbdbaacjahpaa
