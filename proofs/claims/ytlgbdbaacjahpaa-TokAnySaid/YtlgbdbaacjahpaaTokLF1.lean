/-
  The document's Lexer in memory: flush, a word that was begun.
-/
import Derived.Test.YtlgbdbaacjahpaaTokLF
namespace Go.Proofs.Ytlgbdbaacjahpaa
open Go.RowKit Go.Shelf
set_option maxRecDepth 20000
set_option linter.unusedVariables false
set_option maxRecDepth 100000 in
set_option maxHeartbeats 8000000 in
theorem lex_flush1 (B base : Nat) (y : LS) (q : Bool) (n : Nat) (w : World) (hS : LBox w B base y) (hBb : base ≤ B) (hl : y.ewords.length ≤ 1048576) (hi : y.inn = true) :
    Calls Try.prog 17 #[.pointer (some ⟨B, 0, none⟩), .bool q, .int .i64 (n : Int)] w (LexPost B base (lFl q n y) w) := by
  obtain ⟨vo, ve, hbx, hrow⟩ := hS
  obtain ⟨k, hk⟩ : ∃ k, y.ewords.length = k := ⟨_, rfl⟩
  obtain ⟨ae, ce, rfl⟩ := hrow.2.shape
  rw [hk] at hbx hrow
  have hc6 := kcell hbx 6 (.int .i64 (y.first : Int)) rfl
  have hc8 := kcell hbx 8 (.bool y.inn) rfl
  have hc7 := kcell hbx 7 (strV y.w) rfl
  have hc3 := kcell hbx 3 (.slice ae k ce) rfl
  have hc1 := kcell hbx 1 (.int .i64 (y.eline : Int)) rfl
  have hf1 := kfrozen hbx 1
  have hf3 := kfrozen hbx 3
  have hf7 := kfrozen hbx 7
  have hf8 := kfrozen hbx 8
  have HB := Lib.hid hbx; have HR := Lib.hid hrow; have HK := Lib.hid hk
  have HL := Lib.hid hl
  clear hbx hrow hk hl hc6
  have HY : Hid (lFl q n y = lPut q n y) := Lib.hid (by unfold lFl; rw [if_pos (.inl hi)])
  obtain ⟨sw, hsw⟩ : ∃ sw, strV y.w = .string sw := ⟨_, rfl⟩
  have HSW := Lib.hid hsw
  rw [hsw] at hc7
  clear hsw
  rw [hi] at hc8
  clear hi
  go_enter Try.func17, Try.ntmps17
  go_upto_if 21 with (fail)
  go_cut [] (fun wx => LBox wx B base { y with eline := if y.ewords = [] then n else y.eline } ∧ Below base w wx)
  case first =>
    by_cases hk0 : k = 0
    · subst hk0
      go_wp2_with fail
      go_meet
      have hnil : y.ewords = [] := List.eq_nil_of_length_eq_zero HK.out
      rw [if_pos hnil]
      exact ⟨⟨vo, _, kset HB.out 1 _, LRow.set (y := { y with eline := n }) HR.out HB.out 1 _⟩, (Below.refl base w).setCell (p := ⟨B, 1, none⟩) hBb _⟩
    · have hz : ((k : Int) == 0) = false := by simp; omega
      go_wp2_with fail
      go_meet
      have hnil : ¬ y.ewords = [] := by intro e; have := HK.out; rw [e] at this; simp at this; omega
      rw [if_neg hnil]
      exact ⟨⟨vo, _, HB.out, HR.out⟩, Below.refl base w⟩
  case rest =>
    rename World => W
    obtain ⟨⟨vo2, ve2, hbx, hrow⟩, hbw⟩ := hcut
    obtain ⟨z, hz⟩ : ∃ z : LS, ({ y with eline := if y.ewords = [] then n else y.eline } : LS) = z := ⟨_, rfl⟩
    have HZ : Hid (lPut q n y = { ({ z with ewords := z.ewords ++ [(z.w, q)] } : LS) with w := [], inn := false }) := Lib.hid (by rw [← hz]; rfl)
    have hzw : z.w = y.w := by rw [← hz]
    have hzk : z.ewords.length = k := by rw [← hz]; exact HK.out
    rw [hz] at hbx hrow
    have HSZ := Lib.hid (show strV z.w = .string sw by rw [hzw]; exact HSW.out)
    clear hz hzw hc1 hc3 hc7 hc8 hf1 hf3 hf7 hf8
    obtain ⟨a2, c2, rfl⟩ := hrow.2.shape
    rw [hzk] at hbx hrow
    have hc3 := kcell hbx 3 (.slice a2 k c2) rfl
    have hc7 := kcell hbx 7 (.string sw) (by rw [← HSZ.out]; rfl)
    have hf3 := kfrozen hbx 3
    have hf7 := kfrozen hbx 7
    have hf8 := kfrozen hbx 8
    have HBX := Lib.hid hbx; have HRW := Lib.hid hrow; have HBW := Lib.hid hbw; have HZK := Lib.hid hzk
    clear hbx hrow hbw hzk HB HR
    have hkb : k ≤ 1048576 := by have := HL.out; have := HK.out; omega
    have hBW := kblock_lt HBX.out
    go_wp2_with fail
    have hsz : base ≤ W.heap.size := by omega
    obtain ⟨k1, k2, k3, e1, e2, e3, l2, l3⟩ := flushW W (.cells #[] 38) (.cells #[.string sw, .bool q] 38)
    have K1 := Lib.hid k1; have K2 := Lib.hid k2; have K3 := Lib.hid k3
    have E1 := Lib.hid e1; have E2 := Lib.hid e2; have E3 := Lib.hid e3; have L2 := Lib.hid l2; have L3 := Lib.hid l3
    clear k1 k2 k3 e1 e2 e3 l2 l3
    have hw33 : z.ewords.length ≤ 1048576 := by have := HZK.out; omega
    have HW33 := Lib.hid hw33
    clear hw33
    go_region_law (first
      | (refine (step_app2 (w := (W.alloc (.cells #[] 38)).drew) rfl (.tmp 28) (.tmp 33) (by rfl) elemRW (by decide) encW_oneR (fun _ => rfl) W.heap.size (.slice (some ⟨W.heap.size, 0, none⟩) 0 0) [] (by rfl) (own_emp E1.out (Nat.le_refl _)) base (.slice a2 k c2) z.ewords (by rfl) (OwnK.below HRW.out.2 K1.out) K1.out.size (by have := HW33.out; unfold maxLen; simp; omega) (by have := HW33.out; simp; omega) ?_); intro a' m' c' w1 hown1 hgrow1; have KB := Lib.hid (grown_below K1.out (own_emp (enc := encW) (k := 2) E1.out (Nat.le_refl _)) K1.out.size hgrow1); have HO : Hid (OwnK 2 38 encW w1 W.heap.size (.slice a' m' c') z.ewords) := Lib.hid hown1; have hc71 := (KB.out.cell (p := ⟨B, 7, none⟩) hBW).trans hc7; clear hgrow1 hown1)
      | (refine (step_app2 (w := ((W.alloc (.cells #[] 38)).alloc (.cells #[.string sw, .bool q] 38)).drew) rfl (.tmp 28) (.tmp 33) (by rfl) elemRW (by decide) encW_oneR (fun _ => rfl) W.heap.size (.slice (some ⟨W.heap.size, 0, none⟩) 0 0) [] (by rfl) (own_emp E2.out (Nat.le_refl _)) base (.slice a2 k c2) z.ewords (by rfl) (OwnK.below HRW.out.2 K2.out) K2.out.size (by have := HW33.out; unfold maxLen; simp; omega) (by have := HW33.out; simp; omega) ?_); intro a' m' c' w1 hown1 hgrow1; have KB := Lib.hid (grown_below K2.out (own_emp (enc := encW) (k := 2) E2.out (Nat.le_refl _)) K2.out.size hgrow1); have HO : Hid (OwnK 2 38 encW w1 W.heap.size (.slice a' m' c') z.ewords) := Lib.hid hown1; have hc71 := (KB.out.cell (p := ⟨B, 7, none⟩) hBW).trans hc7; have LB := Lib.hid ((hgrow1.block (W.heap.size + 1) (kblock_lt L2.out) (by simp [Value.ownBlock])).trans L2.out); clear hgrow1 hown1)
      | (refine (step_app2 (w := ((W.alloc (.cells #[.string sw, .bool q] 38)).alloc (.cells #[] 38)).drew) rfl (.tmp 28) (.tmp 33) (by rfl) elemRW (by decide) encW_oneR (fun _ => rfl) W.heap.size (.slice (some ⟨W.heap.size + 1, 0, none⟩) 0 0) [] (by rfl) (own_emp E3.out (Nat.le_succ _)) base (.slice a2 k c2) z.ewords (by rfl) (OwnK.below HRW.out.2 K3.out) K3.out.size (by have := HW33.out; unfold maxLen; simp; omega) (by have := HW33.out; simp; omega) ?_); intro a' m' c' w1 hown1 hgrow1; have KB := Lib.hid (grown_below K3.out (own_emp (enc := encW) (k := 2) E3.out (Nat.le_succ _)) K3.out.size hgrow1); have HO : Hid (OwnK 2 38 encW w1 W.heap.size (.slice a' m' c') z.ewords) := Lib.hid hown1; have hc71 := (KB.out.cell (p := ⟨B, 7, none⟩) hBW).trans hc7; have LB := Lib.hid ((hgrow1.block (W.heap.size) (kblock_lt L3.out) (by simp [Value.ownBlock])).trans L3.out); clear hgrow1 hown1)
      | (refine (step_app2 (w := w1) rfl (.tmp 34) (.tmp 41) (by rfl) elemRW (by decide) encW_oneR (fun _ => rfl) W.heap.size (.slice a' m' c') z.ewords (by rfl) HO.out 0 (.slice (some ⟨W.heap.size + 1, 0, none⟩) 1 1) [(z.w, q)] (by rfl) (own_lit (z.w, q) LB.out (by unfold encW; rw [HSZ.out]) rfl) KB.out.size (by have := HW33.out; unfold maxLen; simp; omega) (by have := HW33.out; simp; omega) ?_); intro a3 m3 c3 w2 hown2 hgrow2; have KD := Lib.hid (grown_below KB.out HO.out KB.out.size hgrow2); have HO2 := Lib.hid hown2; have hs3 := (KD.out.cell (p := ⟨B, 3, none⟩) hBW).trans hc3; have ht3 := (KD.out.frozen (p := ⟨B, 3, none⟩) hBW).trans hf3; clear hgrow2 hown2)
      | (refine (step_app2 (w := w1) rfl (.tmp 34) (.tmp 41) (by rfl) elemRW (by decide) encW_oneR (fun _ => rfl) W.heap.size (.slice a' m' c') z.ewords (by rfl) HO.out 0 (.slice (some ⟨W.heap.size, 0, none⟩) 1 1) [(z.w, q)] (by rfl) (own_lit (z.w, q) LB.out (by unfold encW; rw [HSZ.out]) rfl) KB.out.size (by have := HW33.out; unfold maxLen; simp; omega) (by have := HW33.out; simp; omega) ?_); intro a3 m3 c3 w2 hown2 hgrow2; have KD := Lib.hid (grown_below KB.out HO.out KB.out.size hgrow2); have HO2 := Lib.hid hown2; have hs3 := (KD.out.cell (p := ⟨B, 3, none⟩) hBW).trans hc3; have ht3 := (KD.out.frozen (p := ⟨B, 3, none⟩) hBW).trans hf3; clear hgrow2 hown2)
      | (refine (step_app2 (w := w1.alloc (.cells #[.string sw, .bool q] 38)) rfl (.tmp 34) (.tmp 41) (by rfl) elemRW (by decide) encW_oneR (fun _ => rfl) W.heap.size (.slice a' m' c') z.ewords (by rfl) (OwnK.alloc HO.out _) 0 (.slice (some ⟨w1.heap.size, 0, none⟩) 1 1) [(z.w, q)] (by rfl) (own_lit (z.w, q) (knew w1 _) (by unfold encW; rw [HSZ.out]) rfl) (KB.out.alloc KB.out.size _).size (by have := HW33.out; unfold maxLen; simp; omega) (by have := HW33.out; simp; omega) ?_); intro a3 m3 c3 w2 hown2 hgrow2; have KD := Lib.hid (grown_below (KB.out.alloc KB.out.size _) (OwnK.alloc HO.out _) (KB.out.alloc KB.out.size _).size hgrow2); have HO2 := Lib.hid hown2; have hs3 := (KD.out.cell (p := ⟨B, 3, none⟩) hBW).trans hc3; have ht3 := (KD.out.frozen (p := ⟨B, 3, none⟩) hBW).trans hf3; clear hgrow2 hown2))
    all_goals
      clear hc3 hf3
      have hs7 := (KD.out.cell (p := ⟨B, 7, none⟩) hBW).trans hc7
      have ht7 := (KD.out.frozen (p := ⟨B, 7, none⟩) hBW).trans hf7
      have hc8' := kcell HBX.out 8 (.bool z.inn) rfl
      have hs8 := (KD.out.cell (p := ⟨B, 8, none⟩) hBW).trans hc8'
      have ht8 := (KD.out.frozen (p := ⟨B, 8, none⟩) hBW).trans hf8
      clear hc8' hc7 hf7 hf8
      go_wp2_with fail
      go_end0
      rw [HY.out]
      exact flush_fin HZ.out HBX.out HRW.out hBb HBW.out KD.out HO2.out
end Go.Proofs.Ytlgbdbaacjahpaa
