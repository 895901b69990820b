/-
  The document's Lexer in memory: quote.
-/
import Derived.Test.YtlgbdbaacjahpaaTokLH
import Derived.Test.YtlgbdbaacjahpaaTokW
import Derived.IntWalk
namespace Go.Proofs.Ytlgbdbaacjahpaa
open Go.RowKit Go.Shelf
set_option maxRecDepth 20000
set_option linter.unusedVariables false
set_option linter.unusedSimpArgs false

theorem mkQ_size (l : List UInt8) : (⟨l.toArray⟩ : ByteArray).size = l.length := by show l.toArray.size = _; simp
theorem lFl_true (n : Nat) (y : LS) : lFl true n y = lPut true n y := by unfold lFl; rw [if_pos (.inr rfl)]
theorem ext_bytes (s : ByteArray) (a b : Nat) : (s.extract a b).data.toList = (s.data.toList.drop a).take (b - a) := by
  simp [ByteArray.data_extract]
theorem add_ext {w : List UInt8} {s : ByteArray} {k : Nat} (h : k < s.size) : (⟨w.toArray⟩ : ByteArray) ++ s.extract k (k + 1) = ⟨(w ++ [s[k]]).toArray⟩ := by
  have hx : ∀ {a b : ByteArray}, a.data.toList = b.data.toList → a = b := by
    intro a b h; obtain ⟨⟨a⟩⟩ := a; obtain ⟨⟨b⟩⟩ := b; simp at h; rw [h]
  apply hx
  rw [ByteArray.data_append, Array.toList_append, ext_bytes]
  have hl : k < s.data.toList.length := by simpa using h
  rw [show k + 1 - k = 1 by omega, List.drop_eq_getElem_cons hl, List.take_succ_cons, List.take_zero]
  rfl
theorem add_ext2 {w : List UInt8} {s : ByteArray} {k : Nat} (h : k + 1 < s.size) : (⟨w.toArray⟩ : ByteArray) ++ s.extract k (k + 2) = ⟨(w ++ [s[k], s[k + 1]]).toArray⟩ := by
  have hx : ∀ {a b : ByteArray}, a.data.toList = b.data.toList → a = b := by
    intro a b h; obtain ⟨⟨a⟩⟩ := a; obtain ⟨⟨b⟩⟩ := b; simp at h; rw [h]
  apply hx
  rw [ByteArray.data_append, Array.toList_append, ext_bytes]
  have hl : k < s.data.toList.length := by simp; omega
  have hl2 : k + 1 < s.data.toList.length := by simpa using h
  rw [show k + 2 - k = 2 by omega, List.drop_eq_getElem_cons hl, List.drop_eq_getElem_cons hl2, List.take_succ_cons, List.take_succ_cons, List.take_zero]
  rfl
/-- The word grows in its box. -/
theorem LBox.word {W : World} {B base : Nat} {y : LS} {vo ve : Value} {w : List UInt8} (hB : W.heap[B]? = some (.cells (lCells vo ve y) 54)) (hr : LRow W base vo ve y) : LBox (W.setCell ⟨B, 7, none⟩ (.string ⟨w.toArray⟩)) B base { y with w := w } :=
  ⟨vo, ve, kset hB 7 _, LRow.set (y := { y with w := w }) hr hB 7 _⟩
def QuoPost (B base : Nat) (y : LS) (n : Nat) (len : Nat) (r : Option (List UInt8 × List UInt8)) (w : World) (e : Ending) (w' : World) : Prop :=
  Below base w w' ∧ match r with
  | none => e = .returned (.int .i64 (-1))
  | some p => e = .returned (.int .i64 ((len - p.2.length : Nat) : Int)) ∧ LBox w' B base (lPut true n { y with w := p.1 })
set_option maxRecDepth 100000 in
set_option maxHeartbeats 8000000 in
theorem lex_quote (B base : Nat) (y : LS) (s : ByteArray) (xs : List UInt8) (hxs : s.data.toList = xs) (at0 : Nat) (n : Nat) (w : World) (hS : LBox w B base y) (hBb : base ≤ B) (hl : y.ewords.length ≤ 1048576) (hat : at0 < s.size) (hsz : s.size ≤ 100000) (hw : y.w.length ≤ 100000) :
    Calls Try.prog 19 #[.pointer (some ⟨B, 0, none⟩), .string s, .int .i64 (at0 : Int), .int .i64 (n : Int)] w (QuoPost B base y n s.size (lQuote y.w (xs.drop (at0 + 1))) w) := by
  have HX := Lib.hid hxs
  have HL := Lib.hid hl
  have hlen : xs.length = s.size := by rw [← hxs]; simp
  have HLEN := Lib.hid hlen
  have HS := Lib.hid hS
  clear hxs hlen hl hS
  go_enter Try.func19, Try.ntmps19
  go_wp2_with fail
  go_loopw [9] (fun i wr => ∃ (k : Nat) (v : List UInt8), i = .int .i64 k ∧ k ≤ s.size ∧ v.length ≤ 100000 + k ∧ Hid (LBox wr B base { y with w := v }) ∧ Hid (lQuote y.w (xs.drop (at0 + 1)) = lQuote v (xs.drop k)) ∧ Below base w wr) (fun i _ => s.size - (intOf i).toNat)
  case atStart => exact ⟨at0 + 1, y.w, by go_num, by omega, by omega, HS, Lib.hid rfl, Below.refl _ _⟩
  case round =>
    obtain ⟨k, v, rfl, hk, hv, HBx, HQ, hbw⟩ := hrel
    by_cases hlt : k < s.size
    · obtain ⟨c, hcv⟩ : ∃ c, s[k]'hlt = c := ⟨_, rfl⟩
      have hti : (k : Int) < (s.size : Int) := by omega
      have hkx : k < xs.length := by rw [HLEN.out]; exact hlt
      have hxc : xs[k]'hkx = c := by rw [← hcv]; have h := HX.out; subst h; simp; rfl
      have hdrop : xs.drop k = c :: xs.drop (k + 1) := by rw [List.drop_eq_getElem_cons hkx, hxc]
      have HD := Lib.hid hdrop
      have HC := Lib.hid hxc
      clear hdrop hxc
      by_cases h34 : c = 34
      · subst h34
        have HR : Hid (lQuote y.w (xs.drop (at0 + 1)) = some (v, xs.drop (k + 1))) := Lib.hid (by rw [HQ.out, HD.out, lQ_cons, if_pos rfl])
        have hP := lex_flush B base { y with w := v } true n wr HBx.out hBb HL.out
        go_wp2_with fail
        refine hP.mono ?_
        rintro e w2 ⟨rfl, hS2, hb2⟩
        have HS2 := Lib.hid hS2; have HB2 := Lib.hid hb2
        clear hP hS2 hb2
        go_wp2_with fail
        go_ret
        unfold QuoPost
        rw [HR.out]
        refine ⟨hbw.trans HB2.out, ?_, by have h := HS2.out; rw [lFl_true] at h; exact h⟩
        show Ending.returned (Value.int .i64 ((k : Int) + 1)) = .returned (.int .i64 ((s.size - (xs.drop (k + 1)).length : Nat) : Int))
        rw [List.length_drop, HLEN.out, show s.size - (s.size - (k + 1)) = k + 1 by omega]
        rfl
      have z34 : ((c.toNat : Int) != 34) = true := by have := c_ne h34 34 rfl; simp only [bne, this, Bool.not_false]
      by_cases h92 : c = 92
      · subst h92
        by_cases hl1 : k + 1 < s.size
        · obtain ⟨d, hdv⟩ : ∃ d, s[k + 1]'hl1 = d := ⟨_, rfl⟩
          have hl1i : (k : Int) + 1 < (s.size : Int) := by omega
          have hkx1 : k + 1 < xs.length := by rw [HLEN.out]; exact hl1
          have hxc1 : xs[k + 1]'hkx1 = d := by rw [← hdv]; have h := HX.out; subst h; simp; rfl
          have HQ2 : Hid (lQuote y.w (xs.drop (at0 + 1)) = lQuote (v ++ [92, d]) (xs.drop (k + 2))) := Lib.hid (by rw [HQ.out, HD.out, List.drop_eq_getElem_cons hkx1, hxc1, lQ_cons, if_neg (by decide), if_pos rfl])
          obtain ⟨vo, ve, hbx, hrow⟩ := HBx.out
          have hc7 := kcell hbx 7 (.string ⟨v.toArray⟩) rfl
          have hf7 := kfrozen hbx 7
          have HB := Lib.hid hbx; have HRW := Lib.hid hrow; have HBW := Lib.hid hbw
          have a1 := run_string_add_sum (P := Try.prog) wr.drew ⟨v.toArray⟩ (s.extract k (k + 1)) (by rw [mkQ_size, ByteArray.size_extract]; omega)
          rw [add_ext hlt, hcv] at a1
          have wk : IntKind.i64.wrap ((k : Int) + 1) = (k : Int) + 1 := IntWalk.i64_in _ (by omega)
          have b1 : (0 : Int) ≤ (k : Int) := by omega
          have b2 : (k : Int) ≤ (k : Int) + 1 := by omega
          have b3 : (k : Int) + 1 ≤ (s.size : Int) := by omega
          have b4 : ((k : Int) + 1).toNat = k + 1 := by omega
          have B1 := Lib.hid b1; have B2 := Lib.hid b2; have B3 := Lib.hid b3
          have HD2 := Lib.hid hdv; have HK1 := Lib.hid hl1
          clear hbx hrow hbw hxc1 hdv
          go_wp2_with fail
          refine kregion_tail 13 (by kernel_rfl) (by kernel_rfl) ?_
          have hbw : Below base w wr.drew := kdrew HBW.out
          replace hc7 : wr.drew.cell? _ = _ := hc7
          replace hf7 : wr.drew.frozen? _ = _ := hf7
          replace HB : Hid (wr.drew.heap[B]? = _) := HB
          replace HRW : Hid (LRow wr.drew base vo ve { y with w := v }) := HRW
          simp only [List.take_succ_cons, List.take_zero, List.drop_succ_cons, List.drop_zero]
          clear HBx HBW
          generalize wr.drew = wd at *
          repeat still_step
          refine wpStill_nil ?_
          go_wp2_with fail
          have hS1 : LBox (wd.setCell ⟨B, 7, none⟩ (.string ⟨(v ++ [92]).toArray⟩)) B base { y with w := v ++ [92] } := LBox.word (y := { y with w := v }) HB.out HRW.out
          have hbw1 := hbw.setCell (p := ⟨B, 7, none⟩) hBb (.string ⟨(v ++ [92]).toArray⟩)
          clear hc7 hf7 HB HRW a1 hbw wk b2 b3 b4
          obtain ⟨wx, hwx⟩ : ∃ wx, wd.setCell ⟨B, 7, none⟩ (.string ⟨(v ++ [92]).toArray⟩) = wx := ⟨_, rfl⟩
          rw [hwx] at hS1 hbw1
          rw [hwx]
          clear hwx
          obtain ⟨vo2, ve2, hbx, hrow⟩ := hS1
          have hc7 := kcell hbx 7 (.string ⟨(v ++ [92]).toArray⟩) rfl
          have hf7 := kfrozen hbx 7
          have HB := Lib.hid hbx; have HRW := Lib.hid hrow; have HBW := Lib.hid hbw1
          have a1 := run_string_add_sum (P := Try.prog) wx.drew ⟨(v ++ [92]).toArray⟩ (s.extract (k + 1) (k + 1 + 1)) (by rw [mkQ_size, ByteArray.size_extract, List.length_append]; simp only [List.length_singleton]; omega)
          rw [add_ext HK1.out, HD2.out, List.append_assoc] at a1
          have wk : IntKind.i64.wrap ((k : Int) + 1 + 1) = (k : Int) + 1 + 1 := IntWalk.i64_in _ (by omega)
          have b0 : (0 : Int) ≤ (k : Int) + 1 := by omega
          have b2 : (k : Int) + 1 ≤ (k : Int) + 1 + 1 := by omega
          have b3 : (k : Int) + 1 + 1 ≤ (s.size : Int) := by omega
          have b4 : ((k : Int) + 1 + 1).toNat = k + 1 + 1 := by omega
          have b5 : ((k : Int) + 1).toNat = k + 1 := by omega
          clear hbx hrow hbw1
          refine kregion_tail 13 (by kernel_rfl) (by kernel_rfl) ?_
          have hbw : Below base w wx.drew := kdrew HBW.out
          replace hc7 : wx.drew.cell? _ = _ := hc7
          replace hf7 : wx.drew.frozen? _ = _ := hf7
          replace HB : Hid (wx.drew.heap[B]? = _) := HB
          replace HRW : Hid (LRow wx.drew base vo2 ve2 { y with w := v ++ [92] }) := HRW
          simp only [List.take_succ_cons, List.take_zero, List.drop_succ_cons, List.drop_zero]
          clear HBW
          generalize wx.drew = we at *
          repeat still_step
          refine wpStill_nil ?_
          go_wp2_with fail
          go_roundw
          case rel => exact ⟨k + 2, v ++ [92, d], by go_num, by omega, by rw [List.length_append]; simp; omega, Lib.hid (LBox.word (y := { y with w := v ++ [92] }) HB.out HRW.out), HQ2, hbw.setCell (p := ⟨B, 7, none⟩) hBb _⟩
          case measure => simp [intOf]; omega
        · have hl1i : ¬ ((k : Int) + 1 < (s.size : Int)) := by omega
          have HR : Hid (lQuote y.w (xs.drop (at0 + 1)) = none) := Lib.hid (by rw [HQ.out, HD.out, lQ_cons, if_neg (by decide), if_pos rfl, List.drop_of_length_le (by rw [HLEN.out]; omega)])
          clear hl1
          go_wp2_with fail
          go_ret
          unfold QuoPost
          rw [HR.out]
          exact ⟨hbw, rfl⟩
      have z92 := c_ne h92 92 rfl
      have HQ2 : Hid (lQuote y.w (xs.drop (at0 + 1)) = lQuote (v ++ [c]) (xs.drop (k + 1))) := Lib.hid (by rw [HQ.out, HD.out, lQ_cons, if_neg h34, if_neg h92])
      obtain ⟨vo, ve, hbx, hrow⟩ := HBx.out
      have hc7 := kcell hbx 7 (.string ⟨v.toArray⟩) rfl
      have hf7 := kfrozen hbx 7
      have HB := Lib.hid hbx; have HRW := Lib.hid hrow; have HBW := Lib.hid hbw
      have a1 := run_string_add_sum (P := Try.prog) wr.drew ⟨v.toArray⟩ (s.extract k (k + 1)) (by rw [mkQ_size, ByteArray.size_extract]; omega)
      rw [add_ext hlt, hcv] at a1
      have wk : IntKind.i64.wrap ((k : Int) + 1) = (k : Int) + 1 := IntWalk.i64_in _ (by omega)
      have b1 : (0 : Int) ≤ (k : Int) := by omega
      have b2 : (k : Int) ≤ (k : Int) + 1 := by omega
      have b3 : (k : Int) + 1 ≤ (s.size : Int) := by omega
      have b4 : ((k : Int) + 1).toNat = k + 1 := by omega
      clear hbx hrow hbw h34 h92
      go_wp2_with fail
      refine kregion_tail 13 (by kernel_rfl) (by kernel_rfl) ?_
      have hbw : Below base w wr.drew := kdrew HBW.out
      replace hc7 : wr.drew.cell? _ = _ := hc7
      replace hf7 : wr.drew.frozen? _ = _ := hf7
      replace HB : Hid (wr.drew.heap[B]? = _) := HB
      replace HRW : Hid (LRow wr.drew base vo ve { y with w := v }) := HRW
      simp only [List.take_succ_cons, List.take_zero, List.drop_succ_cons, List.drop_zero]
      clear HBx HBW
      generalize wr.drew = wd at *
      repeat still_step
      refine wpStill_nil ?_
      go_wp2_with fail
      go_roundw
      case rel => exact ⟨k + 1, v ++ [c], by go_num, by omega, by rw [List.length_append, List.length_singleton]; omega, Lib.hid (LBox.word (y := { y with w := v }) HB.out HRW.out), HQ2, hbw.setCell (p := ⟨B, 7, none⟩) hBb _⟩
      case measure => simp [intOf]; omega
    · obtain rfl : k = s.size := by omega
      have HR : Hid (lQuote y.w (xs.drop (at0 + 1)) = none) := Lib.hid (by rw [HQ.out, List.drop_of_length_le (by rw [HLEN.out]; exact Nat.le_refl _), lQ_nil])
      go_wp2_with fail
      go_ret
      unfold QuoPost
      rw [HR.out]
      exact ⟨hbw, rfl⟩
end Go.Proofs.Ytlgbdbaacjahpaa
