/-
  The numbers of a range: plain facts; gen.numbers as an iterator.
-/
import Derived.Test.YtgalihmmlcnahaaDoorGnR
import Derived.Test.YtgalihmmlcnahaaDoorGnD
import Derived.RangeFuncKeeps
import Derived.RangeFuncNested
namespace Go.Proofs.YtgalihmmlcnahaaDoor
open Go.RowKit Go.Shelf
set_option maxRecDepth 20000
set_option linter.unusedVariables false
set_option linter.unusedSimpArgs false

theorem gn_step {f t st i : Nat} (hst : 0 < st) (hn : f + i * st ≤ t) (h : st ≤ t - (f + i * st)) : i + 1 ≤ (t - f) / st ∧ f + (i + 1) * st ≤ t := by
  have e : (i + 1) * st = i * st + st := Nat.succ_mul i st
  refine ⟨?_, by omega⟩
  rw [Nat.le_div_iff_mul_le hst]
  omega
theorem gn_last {f t st i : Nat} (hst : 0 < st) (hn : f + i * st ≤ t) (h : ¬ st ≤ t - (f + i * st)) : i = (t - f) / st := by
  have e : (i + 1) * st = i * st + st := Nat.succ_mul i st
  have h1 : i ≤ (t - f) / st := by rw [Nat.le_div_iff_mul_le hst]; omega
  have h2 : (t - f) / st < i + 1 := by rw [Nat.div_lt_iff_lt_mul hst]; omega
  omega
def rngC (f t st : Nat) : Array Value := #[.int .i64 (f : Int), .int .i64 (t : Int), .int .i64 (st : Int)]
def numE (f st : Nat) (i : Nat) : Array Value := #[.int .i64 ((f + i * st : Nat) : Int)]
section
attribute [local go_sem] Oper.semAt_some
set_option maxRecDepth 100000 in
set_option maxHeartbeats 4000000 in
theorem numbers1_in (n : Nat) (hn : 1 ≤ n) (l b : Nat) (f t st : Nat) (hst : 0 < st) (hft : f ≤ t) (ht : t ≤ 2147483647) (hs63 : st ≤ 9223372036854775807) (J Jx : List Nat → World → Prop)
    (hY : ∀ pre x W, J pre W → pre.length < (t - f) / st + 1 → YieldAt Fence.wide (n - 1) Tryd.prog l (numE f st x) W fun e W' =>
      (e = .returned (.bool true) ∧ J (pre ++ [x]) W' ∧ KeepB b W W') ∨ (e = .returned (.bool false) ∧ Jx (pre ++ [x]) W'))
    (W : World) (hc0 : W.cell? ⟨b, 0, none⟩ = some (.int .i64 (f : Int))) (hc1 : W.cell? ⟨b, 1, none⟩ = some (.int .i64 (t : Int))) (hc2 : W.cell? ⟨b, 2, none⟩ = some (.int .i64 (st : Int))) (h0 : J [] W) :
    CallsIn Fence.wide n Tryd.prog 24 #[.func (.yield l) #[] #[], .pointer (some ⟨b, 0, none⟩)] W fun e W' => (∃ v, e = .returned v) ∧
      ((∃ ys, ys = List.range ((t - f) / st + 1) ∧ J ys W') ∨ (∃ pre, pre <+: List.range ((t - f) / st + 1) ∧ Jx pre W')) := by
  refine callsIn_of_wp Tryd.func24 rfl trivial ?_ rfl
  simp only [Tryd.ntmps24, List.size_toArray, List.length_cons, List.length_nil, Nat.reduceAdd, Nat.reduceSub, Array.replicate_succ, Array.replicate_zero, List.push_toArray, List.append_toArray, List.nil_append, List.cons_append]
  gi_wp2
  gi_loopw [3] (fun a wr => ∃ (i : Nat) (v : Nat), a = .int .i64 v ∧ Hid (v = f + i * st) ∧ v ≤ t ∧ J (List.range i) wr ∧ KeepB b W wr)
    (fun a _ => t - (intOf a).toNat)
  case atStart => exact ⟨0, f, rfl, Lib.hid (by omega), hft, h0, KeepB.refl _ _⟩
  case round =>
    obtain ⟨i, v, rfl, HV, hv, hJ, hkb⟩ := hrel
    have hiq : i ≤ (t - f) / st := by
      have := HV.out
      rw [Nat.le_div_iff_mul_le hst]; omega
    have hsn : List.range (i + 1) = List.range i ++ [i] := List.range_succ
    obtain ⟨fn, tmps, assign, body, hy, hR⟩ := hY (List.range i) i wr hJ (by rw [List.length_range]; omega)
    unfold numE at hy
    rw [← HV.out] at hy
    rw [← hsn] at hR
    have HR := Lib.hid hR
    have HIQ := Lib.hid hiq
    clear hsn hR hiq
    gi_wp2
    refine HR.out.mono ?_
    rintro e W3 (⟨rfl, hJ3, hk3⟩ | ⟨rfl, hJx3⟩)
    · have d1 : W3.cell? ⟨b, 1, none⟩ = some (.int .i64 (t : Int)) := (hkb.trans hk3).cell.trans hc1
      have d2 : W3.cell? ⟨b, 2, none⟩ = some (.int .i64 (st : Int)) := (hkb.trans hk3).cell.trans hc2
      have HK := Lib.hid (hkb.trans hk3)
      clear HR hkb hk3
      by_cases hge : st ≤ t - v
      · obtain ⟨g1, g2⟩ := gn_step (f := f) (t := t) (st := st) (i := i) hst (by have := HV.out; omega) (by have := HV.out; rw [← this]; exact hge)
        have hgi : (st : Int) ≤ (t : Int) - (v : Int) := by omega
        have G2 := Lib.hid g2
        clear g1 g2
        gi_wp2
        go_roundw
        case rel => exact ⟨i + 1, v + st, by go_num, Lib.hid (by rw [HV.out, Nat.succ_mul]; omega), by omega, hJ3, HK.out⟩
        case measure => simp [intOf]; omega
      · have hgi : ¬ (st : Int) ≤ (t : Int) - (v : Int) := by omega
        have HL := Lib.hid (gn_last (f := f) (t := t) (st := st) (i := i) hst (by have := HV.out; omega) (by have := HV.out; rw [← this]; exact hge) : i = (t - f) / st)
        gi_wp2
        go_end0
        exact ⟨⟨_, rfl⟩, .inl ⟨_, by rw [← HL.out], hJ3⟩⟩
    · gi_wp2
      go_end0
      refine ⟨⟨_, rfl⟩, .inr ⟨_, ?_, hJx3⟩⟩
      have hq := HIQ.out
      have : List.range (i + 1) = (List.range ((t - f) / st + 1)).take (i + 1) := by
        rw [List.take_range]; congr 1; omega
      rw [this]
      exact List.take_prefix _ _
theorem numbers_stops (n : Nat) (hn : 1 ≤ n) (b : Nat) (f t st : Nat) (hst : 0 < st) (hft : f ≤ t) (ht : t ≤ 2147483647) (hs63 : st ≤ 9223372036854775807) (w : World) (hb : b < w.heap.size)
    (hc : w.heap[b]? = some (.cells (rngC f t st) 23)) :
    SeqStopsK Fence.wide n Tryd.prog 24 #[.pointer (some ⟨b, 0, none⟩)] (numE f st) (KeepB b) (fun ys => ys = List.range ((t - f) / st + 1)) (fun pre => pre <+: List.range ((t - f) / st + 1)) ((t - f) / st + 1) w := fun l J Jx W hW _ _ hY h0 => by
  have h := (hW.block b hb).trans hc
  exact numbers1_in n hn l b f t st hst hft ht hs63 J Jx hY W (kcell h 0 _ rfl) (kcell h 1 _ rfl) (kcell h 2 _ rfl) h0
set_option maxHeartbeats 400000 in
theorem gen_numbers (f t st : Int) (w : World) :
    Calls Tryd.prog 17 #[.agg #[.int .i64 f, .int .i64 t, .int .i64 st]] w fun e w' => e = .returned (.func (.func 24) #[] #[.pointer (some ⟨w.heap.size, 0, none⟩)]) ∧ w' = w.alloc (.cells #[.int .i64 f, .int .i64 t, .int .i64 st] 23) := by
  go_enter Tryd.func17, Tryd.ntmps17
  go_wp2
  go_ret
  exact ⟨rfl, rfl⟩
end
end Go.Proofs.YtgalihmmlcnahaaDoor
