/-
  GenRange: any text as a range; the numbers of any range.
-/
import Derived.Test.YtgalihmmlcnahaaDoorGenQ
import Derived.BigQuiet
import Derived.Deep.QuietTactic
namespace Go.Proofs.YtgalihmmlcnahaaDoor
open Go.RowKit Go.Shelf Go.Sort
set_option maxRecDepth 20000
set_option linter.unusedVariables false
set_option linter.unusedSimpArgs false

set_option maxRecDepth 100000 in
set_option maxHeartbeats 8000000 in
theorem law8_Range (s : ByteArray) (f t st : Int) (hf : -9223372036854775808 ≤ f ∧ f ≤ 9223372036854775807) (ht : -9223372036854775808 ≤ t ∧ t ≤ 9223372036854775807) (hst : -9223372036854775808 ≤ st ∧ st ≤ 9223372036854775807) (w : World) (hw : TG w) :
    Calls Tryd.prog 3 #[.string s, .agg #[.int .i64 f, .int .i64 t, .int .i64 st]] w fun e w' => e = .returned (.bool true) ∧ Below w.heap.size w w' := by
  have KN := Lib.hid law8_known
  have KS := Lib.hid (fun (W W' : World) (h : TG W ∧ Below w.heap.size w W) (hb : Below W.heap.size W W') => (⟨h.1.below hb, h.2.trans (hb.mono h.2.size)⟩ : TG W' ∧ Below w.heap.size w W'))
  have hr0 := KS.out _ _ ⟨hw, Below.refl _ w⟩ ((Below.refl _ w).alloc (Nat.le_refl _) (.cells #[.int .i64 f, .int .i64 t, .int .i64 st] 23))
  have hr1 := knew w (.cells #[.int .i64 f, .int .i64 t, .int .i64 st] 23)
  have HW := Lib.hid hr0; have HR := Lib.hid hr1
  clear hr0 hr1
  by_cases h100 : 100 < (s.size : Int)
  · go_enter Tryd.func3, Tryd.ntmps3
    go_wp2_with fail
    refine (KN.out _ HW.out.1).mono ?_
    rintro e w1 ⟨rfl, hb1⟩
    have hS1 := Lib.hid (KS.out _ _ HW.out hb1)
    clear hb1
    go_wp2_with fail
    go_ret
    exact ⟨rfl, hS1.out.2⟩
  have h100' : (s.size : Int) ≤ 100 := by omega
  have KP := Lib.hid (fun W (h : TG W) => gen_Parse s W (by omega) h.1)
  have KQ := Lib.hid (fun W => ref_ParseRange s W (by omega))
  have KA := Lib.hid (fun W => gen_Numbers f t st W hf ht hst)
  have KB := Lib.hid (fun W => ref_Numbers f t st W hf ht hst)
  clear h100 hf ht hst
  generalize parseR s.data.toList = pr at *
  obtain ⟨⟨x, y, z⟩, er⟩ := pr
  unfold RngPost at KP KQ
  obtain ⟨nr, hnr⟩ : ∃ nr, numsM f t st = nr := ⟨_, rfl⟩
  rw [hnr] at KA KB
  clear hnr
  obtain ⟨nl, ne⟩ := nr
  go_enter Tryd.func3, Tryd.ntmps3
  go_wp2_with fail
  refine (KN.out _ HW.out.1).mono ?_
  rintro e w1 ⟨rfl, hb1⟩
  have hS1 := Lib.hid (KS.out _ _ HW.out hb1)
  have HR1 : Hid (w1.heap[w.heap.size]? = some (.cells #[.int .i64 f, .int .i64 t, .int .i64 st] 23)) := Lib.hid ((hb1.block w.heap.size (by simp)).trans HR.out)
  clear hb1 HR HW
  go_wp2_with fail
  refine (KP.out _ hS1.out.1).mono ?_
  rintro e w2 ⟨rfl, hb2⟩
  have hS2 := Lib.hid (KS.out _ _ hS1.out hb2)
  have HR2 : Hid (w2.heap[w.heap.size]? = some (.cells #[.int .i64 f, .int .i64 t, .int .i64 st] 23)) := Lib.hid ((hb2.block w.heap.size (kblock_lt HR1.out)).trans HR1.out)
  clear hb2 HR1 hS1 KP
  have z0 := knew w2 (.cells #[.int .i64 0, .int .i64 0, .int .i64 0] 23)
  have q0 := kcell z0 0 (.int .i64 0) rfl
  have q1 := kcell z0 1 (.int .i64 0) rfl
  have q2 := kcell z0 2 (.int .i64 0) rfl
  have p0 := kfrozen z0 0
  have p1 := kfrozen z0 1
  have p2 := kfrozen z0 2
  clear z0
  go_wp2_with fail
  clear q0 q1 q2 p0 p1 p2
  have hS3 := Lib.hid (KS.out _ _ hS2.out ((Below.refl _ w2).alloc (Nat.le_refl _) (.cells #[.int .i64 (x : Int), .int .i64 (y : Int), .int .i64 (z : Int)] 23)))
  have HA3 := Lib.hid (knew w2 (.cells #[.int .i64 (x : Int), .int .i64 (y : Int), .int .i64 (z : Int)] 23))
  have HR3 := Lib.hid ((Below.heap_alloc w2 (.cells #[.int .i64 (x : Int), .int .i64 (y : Int), .int .i64 (z : Int)] 23) _ (kblock_lt HR2.out)).trans HR2.out)
  refine (KQ.out _).mono ?_
  rintro e w4 ⟨rfl, hb4⟩
  have hS4 := Lib.hid (KS.out _ _ hS3.out hb4)
  have HA4 : Hid (w4.heap[w2.heap.size]? = some (.cells #[.int .i64 (x : Int), .int .i64 (y : Int), .int .i64 (z : Int)] 23)) := Lib.hid ((hb4.block _ (kblock_lt HA3.out)).trans HA3.out)
  have HR4 : Hid (w4.heap[w.heap.size]? = some (.cells #[.int .i64 f, .int .i64 t, .int .i64 st] 23)) := Lib.hid ((hb4.block _ (kblock_lt HR3.out)).trans HR3.out)
  clear hb4 HA3 HR3 HR2 hS2 hS3 KQ
  have z0 := knew w4 (.cells #[.int .i64 0, .int .i64 0, .int .i64 0] 28)
  have q0 := kcell z0 0 (.int .i64 0) rfl
  have q1 := kcell z0 1 (.int .i64 0) rfl
  have q2 := kcell z0 2 (.int .i64 0) rfl
  have p0 := kfrozen z0 0
  have p1 := kfrozen z0 1
  have p2 := kfrozen z0 2
  clear z0
  go_upto_region 7 with (fail)
  clear q0 q1 q2 p0 p1 p2
  have hS5 := Lib.hid (KS.out _ _ hS4.out ((Below.refl _ w4).alloc (Nat.le_refl _) (.cells #[.int .i64 (x : Int), .int .i64 (y : Int), .int .i64 (z : Int)] 28)))
  have hb5 := knew w4 (.cells #[.int .i64 (x : Int), .int .i64 (y : Int), .int .i64 (z : Int)] 28)
  have ha5 := (Below.heap_alloc w4 (.cells #[.int .i64 (x : Int), .int .i64 (y : Int), .int .i64 (z : Int)] 28) _ (kblock_lt HA4.out)).trans HA4.out
  have HR5 := Lib.hid ((Below.heap_alloc w4 (.cells #[.int .i64 (x : Int), .int .i64 (y : Int), .int .i64 (z : Int)] 28) _ (kblock_lt HR4.out)).trans HR4.out)
  obtain ⟨W5, hW5⟩ : ∃ W, w4.alloc (.cells #[.int .i64 (x : Int), .int .i64 (y : Int), .int .i64 (z : Int)] 28) = W := ⟨_, rfl⟩
  obtain ⟨nb, hnb⟩ : ∃ nb, w4.heap.size = nb := ⟨_, rfl⟩
  obtain ⟨na, hna⟩ : ∃ na, w2.heap.size = na := ⟨_, rfl⟩
  rw [hW5] at hS5 hb5 ha5 HR5 ⊢
  rw [hnb] at hb5 ⊢
  rw [hna] at ha5 ⊢
  clear hW5 hnb hna HA4 HR4 hS4
  have a0 := kcell ha5 0 _ rfl
  have a1 := kcell ha5 1 _ rfl
  have a2 := kcell ha5 2 _ rfl
  have b0 := kcell hb5 0 _ rfl
  have b1 := kcell hb5 1 _ rfl
  have b2 := kcell hb5 2 _ rfl
  have r0 := kcell HR5.out 0 _ rfl
  have r1 := kcell HR5.out 1 _ rfl
  have r2 := kcell HR5.out 2 _ rfl
  clear ha5 hb5
  go_wp2_with fail
  refine (KA.out _).mono ?_
  rintro e w6 ⟨v1, rfl, hn1, hb6⟩
  have hS6 := Lib.hid (KS.out _ _ hS5.out hb6)
  have hr6 := (hb6.block _ (kblock_lt HR5.out)).trans HR5.out
  have HN1 := Lib.hid hn1
  obtain ⟨ga, gc, rfl, hnl, _⟩ := hn1
  obtain ⟨m, hm⟩ : ∃ m, nl.length = m := ⟨_, rfl⟩
  have HM := Lib.hid hm
  rw [hm] at HN1 hnl ⊢
  clear hm hb6 hS5 KA a0 a1 a2 b0 b1 b2 r0 r1 r2 HR5
  have r0 := kcell hr6 0 _ rfl
  have r1 := kcell hr6 1 _ rfl
  have r2 := kcell hr6 2 _ rfl
  clear hr6
  have hmi : (m : Int) ≤ 4096 := by omega
  clear hnl
  go_wp2_with fail
  refine (KB.out _).mono ?_
  rintro e w7 ⟨v2, rfl, hn2, hb7⟩
  have hS7 := Lib.hid (KS.out _ _ hS6.out hb7)
  have HN2 := Lib.hid hn2
  obtain ⟨gb, gd, rfl, _, _⟩ := hn2
  rw [HM.out] at HN2 ⊢
  have HN1' := Lib.hid (HN1.out.below hb7)
  clear hb7 hS6 KB r0 r1 r2 HN1 KN KS
  go_wp2_with fail
  go_loopw [13] (fun i wr => ∃ k : Nat, i = .int .i64 k ∧ k ≤ m ∧ Hid (Below w7.heap.size w7 wr)) (fun i _ => m - (intOf i).toNat)
  case atStart => exact ⟨0, rfl, Nat.zero_le _, Lib.hid (Below.refl _ w7)⟩
  case round =>
    obtain ⟨k, rfl, hk, HBw⟩ := hrel
    by_cases hlt : k < m
    · have hki : (k : Int) < (m : Int) := by omega
      obtain ⟨a1, c1, e1, _, h1⟩ := HN1'.out.below HBw.out
      obtain ⟨a2, c2, e2, _, h2⟩ := HN2.out.below HBw.out
      have hlk : k < nl.length := by rw [HM.out]; exact hlt
      rcases h1 with h1 | ⟨g1, rfl, hg1, h1⟩
      · rw [h1] at hlk; cases hlk
      rcases h2 with h2 | ⟨g2, rfl, hg2, h2⟩
      · rw [h2] at hlk; cases hlk
      injection e1 with e1 _ _
      injection e2 with e2 _ _
      have x1 := h1 k hlk
      have x2 := h2 k hlk
      unfold nV at x1 x2
      generalize nl[k] = u at x1 x2
      subst e1 e2
      clear h1 h2 hg1 hg2 hlk
      go_wp2_with fail
      go_quiet (fail)
      go_wp2_with fail
      go_roundw
      case rel => exact ⟨k + 1, by go_num, by omega, Lib.hid (below_drewG HBw.out _)⟩
      case measure => simp [intOf]; omega
    · obtain rfl : k = m := by omega
      go_wp2
      go_ret
      exact ⟨rfl, hS7.out.2.trans (HBw.out.mono hS7.out.2.size)⟩

theorem law8_RangeA (s : ByteArray) {Q : Prop} (_ : Q) (f t st : Int) (hf : -9223372036854775808 ≤ f ∧ f ≤ 9223372036854775807) (ht : -9223372036854775808 ≤ t ∧ t ≤ 9223372036854775807) (hst : -9223372036854775808 ≤ st ∧ st ≤ 9223372036854775807) (w : World) (hw : TG w) :
    Calls Tryd.prog 3 #[.string s, .agg #[.int .i64 f, .int .i64 t, .int .i64 st]] w fun e w' => e = .returned (.bool true) ∧ Below w.heap.size w w' := law8_Range s f t st hf ht hst w hw
end Go.Proofs.YtgalihmmlcnahaaDoor
