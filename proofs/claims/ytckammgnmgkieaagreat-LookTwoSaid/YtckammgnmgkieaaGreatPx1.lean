/-
  What some more statements stand on.
-/
import Derived.Test.YtckammgnmgkieaaGreatMZ
import Derived.RangeFuncNested
import Derived.RangeFuncBound
import Derived.RangeFuncCalls
import Derived.RangeFuncLeaves
import Derived.RangeFuncBox
import Derived.Shelf.Abstract
import Derived.Shelf.RegionOpen
import Derived.WalkKit
import Derived.WalkSpells
import Derived.WalkLawsBesides
import Derived.OwnWalkIn
import Derived.TacticsInMore
import Derived.LoopNIn
import Derived.LoopIn
import Derived.Maps.AppendAt
import Derived.BigQuiet
import Derived.Lib.Hide
import Derived.Lib.BufferRead
import Derived.SliceStrings
import Derived.OpenShut
import Derived.Deep.QuietTactic
import Derived.Lib.IndexBytes
import Derived.Lib.ConvBytes
import Derived.Laws.Concat
import Derived.Laws.Rows
import Derived.Laws.AppendOwnNone
import Derived.Lib.Walk
import Derived.Lib.SliceRun
import Derived.RegionTactic
import Derived.ChangeAlike
import Derived.Lib.AppendStr
import Derived.Deep.RegionHeld3
import Derived.IntWalk
import Derived.StillTail
import Derived.Sort.QuietTacIn
import Derived.Sort.LotA
import Derived.Maps.OwnIn
import Derived.StillTailTactics
import Derived.Deep.RegionHeldLaw
import Derived.Deep.AppendLies
import Derived.Deep.DrawnRows
import Derived.Shelf.SlSortFuncK.RowK2
import Derived.Shelf.SlicesQ.Reverse
import Derived.RegionCalls
import Derived.Deep.LoopGhost
import Derived.Shelf.RegionOpenPlain
import Derived.Shelf.SlSortCmp.Insertion
import Derived.Deep.CutBlock
import Derived.Deep.DeepCutAuto
import Derived.Deep.RegionLaw
import Derived.Sort.BigQuietIn
import Derived.RangeFuncKeeps
import Derived.Lib.ItoaNum
import Derived.Lib.ItoaMem
import Derived.Shelf.Small.Bits
import Derived.Shelf.Small.Wraps
import Derived.Shelf.Strconv.Itoa0
import Derived.Shelf.Sort.Plain
import Derived.Ground.Names2Prog
import Derived.Shelf.Slices.Clone
import Derived.Shelf.Slices.CompactI
import Derived.Shelf.Slices.Cells
import Derived.Shelf.Slices.In.SortNone
import Derived.Lib.Split
import Derived.Lib.Repeat
import Derived.Lib.PathFns
import Derived.Lib.AppendIntMem
import Derived.Outline
import Derived.RangeFuncWrites
import Derived.Deep.Slices
import Derived.Lib.OwnBridge
import Derived.ControlIn
import Derived.Maps.OwnOps
import Derived.Maps.Views
import Derived.Deep.CutRange
import Derived.ProofKit
import Derived.ShutString
import Derived.ChangeArms
import Derived.ChangeSlices
import Derived.Shelf.Vars
import Derived.Handed
import Derived.HandedShaped
import Derived.ChangeOld
import Derived.Below
namespace Go.Proofs.YtckammgnmgkieaaGreat
set_option maxRecDepth 20000
open Go.RowKit Go.Shelf

set_option maxHeartbeats 400000 in
theorem ref_order (a b : ByteArray) (w : World) :
    Calls Tryz.prog 188 #[.string a, .string b] w fun e w' => e = .returned (.int .i64 (orderM a.data.toList b.data.toList)) ∧ w = w' := by
  have hA := toList_data a
  have hB := toList_data b
  have HA := Lib.hid hA; have HB := Lib.hid hB; clear hA hB
  by_cases h1 : Op.bytesLess a.toList b.toList = true
  · have r : orderM a.data.toList b.data.toList = -1 := by unfold orderM; rw [← HA.out, ← HB.out, if_pos h1]
    have R := Lib.hid r; clear r
    go_enter Tryz.func188, Tryz.ntmps188
    go_wp2
    go_ret
    exact ⟨ret_int R.out.symm, rfl⟩
  · have h1f : Op.bytesLess a.toList b.toList = false := by simpa using h1
    by_cases h2 : (a.toList == b.toList) = true
    · have r : orderM a.data.toList b.data.toList = 0 := by unfold orderM; rw [← HA.out, ← HB.out, if_neg h1, if_pos (by simpa using h2)]
      have R := Lib.hid r; clear r h1
      go_enter Tryz.func188, Tryz.ntmps188
      go_wp2
      go_ret
      exact ⟨ret_int R.out.symm, rfl⟩
    · have h2f : (a.toList == b.toList) = false := by simpa using h2
      have r : orderM a.data.toList b.data.toList = 1 := by unfold orderM; rw [← HA.out, ← HB.out, if_neg h1, if_neg (by simpa using h2)]
      have R := Lib.hid r; clear r h1 h2
      go_enter Tryz.func188, Tryz.ntmps188
      go_wp2
      go_ret
      exact ⟨ret_int R.out.symm, rfl⟩

theorem bytesLess_cons (x y : UInt8) (a b : List UInt8) : Op.bytesLess (x :: a) (y :: b) = (decide (x < y) || (x == y && Op.bytesLess a b)) := rfl

theorem order_compare : ∀ (a b : List UInt8), orderM (foldL a) (foldL b) = compareM a b
  | [], [] => rfl
  | [], _ :: _ => rfl
  | _ :: _, [] => rfl
  | x :: a, y :: b => by
    have ih := order_compare a b
    unfold orderM at ih ⊢
    simp only [foldL, List.map_cons, bytesLess_cons] at ih ⊢
    by_cases h : smallU x = smallU y
    · have h1 : ¬ smallU x < smallU y := by rw [h]; exact UInt8.lt_irrefl _
      simp only [compareM, h, if_true]
      rw [← ih]
      simp only [UInt8.lt_irrefl, decide_false, Bool.false_or, beq_self_eq_true, Bool.true_and, List.cons.injEq, true_and]
      congr
    · simp only [compareM, h, if_false, List.cons.injEq, false_and]
      unfold cmpI
      have hn : (smallU x).toNat ≠ (smallU y).toNat := fun e => h (UInt8.toNat_inj.1 e)
      by_cases hlt : smallU x < smallU y
      · have : ((smallU x).toNat : Int) < (smallU y).toNat := by rw [UInt8.lt_iff_toNat_lt] at hlt; omega
        simp [hlt, this]
      · have h2 : ¬ ((smallU x).toNat : Int) < (smallU y).toNat := by rw [UInt8.lt_iff_toNat_lt] at hlt; omega
        have h3 : ((smallU y).toNat : Int) < (smallU x).toNat := by omega
        have h4 : (smallU x == smallU y) = false := by simpa using h
        simp [hlt, h2, h3, h4]

set_option maxHeartbeats 1000000 in
theorem ref_CompareLabel (a b : ByteArray) (w : World) (ha : a.size ≤ 35184372088000) (hb : b.size ≤ 35184372088000) :
    Calls Tryz.prog 185 #[.string a, .string b] w fun e w' => e = .returned (.int .i64 (compareM a.data.toList b.data.toList)) ∧ Below w.heap.size w w' := by
  have r : orderM (foldL a.data.toList) (foldL b.data.toList) = compareM a.data.toList b.data.toList := order_compare _ _
  have R := Lib.hid r; clear r
  have hA := fun W => ref_FoldLabel a W ha
  have hB := fun W => ref_FoldLabel b W hb
  go_enter Tryz.func185, Tryz.ntmps185
  go_wp2_with fail
  refine (hA _).mono ?_
  rintro e w1 ⟨rfl, b1⟩
  go_wp2_with fail
  refine (hB _).mono ?_
  rintro e w2 ⟨rfl, b2⟩
  go_wp2_with fail
  refine (ref_order _ _ _).mono ?_
  rintro e w3 ⟨rfl, rfl⟩
  go_wp2_with fail
  go_ret
  exact ⟨ret_int R.out, b1.trans (b2.mono b1.size)⟩

end Go.Proofs.YtckammgnmgkieaaGreat

namespace Go.Proofs.YtckammgnmgkieaaGreat
set_option maxRecDepth 20000
open Go.RowKit Go.Shelf

set_option maxHeartbeats 2000000 in
theorem ref_sign (n : Int) (w : World) : Calls Tryz.prog 186 #[.int .i64 n] w fun e w' => e = .returned (.int .i64 (cmpI n 0)) ∧ w' = w := by
  unfold cmpI
  by_cases h1 : n < 0
  · rw [if_pos h1]
    go_enter Tryz.func186, Tryz.ntmps186
    go_wp2
    go_ret
    exact ⟨rfl, rfl⟩
  · rw [if_neg h1]
    by_cases h2 : 0 < n
    · rw [if_pos h2]
      go_enter Tryz.func186, Tryz.ntmps186
      go_wp2
      go_ret
      exact ⟨rfl, rfl⟩
    · rw [if_neg h2]
      go_enter Tryz.func186, Tryz.ntmps186
      go_wp2
      go_ret
      exact ⟨rfl, rfl⟩

end Go.Proofs.YtckammgnmgkieaaGreat

namespace Go.Proofs.YtckammgnmgkieaaGreat
set_option maxRecDepth 20000
open Go.RowKit Go.Shelf

theorem rev_cons {xs : Nm} {k p : Nat} (h : xs.length = p + k + 1) (hp : p < xs.length) : xs.reverse.drop k = xs[p] :: xs.reverse.drop (k + 1) := by
  rw [List.drop_eq_getElem_cons (by simp; omega)]
  congr 1
  simp only [List.getElem_reverse]
  congr 1; omega
theorem cmpR_end (p q : Nm) (h : p = [] ∨ q = []) : cmpR p q = cmpI ((p.length : Int) - q.length) 0 := by
  cases p with
  | nil =>
    cases q with
    | nil => rfl
    | cons y t => simp only [cmpR]; unfold cmpI; rw [if_pos (by simp only [List.length_nil, List.length_cons]; omega)]
  | cons x r =>
    cases q with
    | nil => simp only [cmpR]; unfold cmpI; rw [if_neg (by simp only [List.length_nil, List.length_cons]; omega), if_pos (by simp only [List.length_nil, List.length_cons]; omega)]
    | cons y t => rcases h with h | h <;> cases h

set_option maxHeartbeats 8000000 in
theorem ref_Compare (v u : Value) (xs ys : Nm) (w : World) (hA : StrsAt w v xs) (hU : StrsAt w u ys) (hk : NmOK xs) (hk2 : NmOK ys) :
    Calls Tryz.prog 155 #[v, u] w fun e w' => e = .returned (.int .i64 (compareN xs ys)) ∧ Below w.heap.size w w' := by
  obtain ⟨a, c, rfl, _⟩ := id hA
  obtain ⟨a2, c2, rfl, _⟩ := id hU
  have hm := hk.1
  have hm2 := hk2.1
  have hcell := fun W' (hb : Below w.heap.size w W') j hj => hA.cell hb j hj
  have hcell2 := fun W' (hb : Below w.heap.size w W') j hj => hU.cell hb j hj
  have hSg := fun (d : Int) W => ref_sign d W
  have hE := Lib.hid (show compareN xs ys = cmpR (xs.reverse.drop 0) (ys.reverse.drop 0) from rfl)
  generalize compareN xs ys = r at *
  obtain ⟨n, hn⟩ : ∃ n, xs.length = n := ⟨_, rfl⟩
  obtain ⟨m, hn2⟩ : ∃ m, ys.length = m := ⟨_, rfl⟩
  rw [hn] at hm ⊢
  rw [hn2] at hm2 ⊢
  have HN := Lib.hid hn; have HN2 := Lib.hid hn2
  clear hA hU hn hn2
  go_enter Tryz.func155, Tryz.ntmps155
  go_wp2
  go_loopw [5] (fun i wr => ∃ k : Nat, i = .int .i64 ((k : Int) + 1) ∧ k ≤ n ∧ k ≤ m ∧ Hid (r = cmpR (xs.reverse.drop k) (ys.reverse.drop k)) ∧ Below w.heap.size w wr) (fun i _ => n + 1 - (intOf i).toNat)
  case atStart => exact ⟨0, rfl, Nat.zero_le _, Nat.zero_le _, hE, Below.refl _ _⟩
  case round =>
    obtain ⟨k, rfl, hkn, hkm, HC, hB⟩ := hrel
    by_cases hlt : k < n ∧ k < m
    · obtain ⟨h1, h2⟩ := hlt
      obtain ⟨p, hp⟩ : ∃ p, n = p + k + 1 := ⟨n - k - 1, by omega⟩
      obtain ⟨q, hq⟩ : ∃ q, m = q + k + 1 := ⟨m - k - 1, by omega⟩
      have hkp : p < xs.length := by rw [HN.out]; omega
      have hkq : q < ys.length := by rw [HN2.out]; omega
      obtain ⟨g, off, rfl, hg, hc⟩ := hcell wr hB p hkp
      obtain ⟨g2, off2, rfl, hg2, hc2⟩ := hcell2 wr hB q hkq
      obtain ⟨s, hs0, hsz, hsv⟩ := str_of xs[p]
      obtain ⟨t, ht0, htz, htv⟩ := str_of ys[q]
      rw [hsv] at hc
      rw [htv] at hc2
      have hs1 := hk.get p hkp
      have ht1 := hk2.get q hkq
      have hF := fun W => ref_CompareLabel s t W (by omega) (by omega)
      have hBz := hB.size
      have hS0 : wr.cell? ⟨g, off + p, none⟩ = some (.string s) ∧ wr.cell? ⟨g2, off2 + q, none⟩ = some (.string t) ∧ Below w.heap.size w wr := ⟨hc, hc2, hB⟩
      have hr : Hid (r = if compareM xs[p] ys[q] = 0 then cmpR (xs.reverse.drop (k + 1)) (ys.reverse.drop (k + 1)) else compareM xs[p] ys[q]) := Lib.hid (by
        rw [HC.out, rev_cons (p := p) (by rw [HN.out]; exact hp) hkp, rev_cons (p := q) (by rw [HN2.out]; exact hq) hkq]; rfl)
      rw [hs0, ht0] at hF
      clear hs0 hsz hsv ht0 htz htv hs1 ht1 hcell hcell2 hk hk2 hc hc2 hB HC
      generalize compareM xs[p] ys[q] = x at *
      have w1 : IntKind.i64.wrap ((n : Int) - ((k : Int) + 1)) = (p : Int) := by rw [IntWalk.i64_in _ (by omega)]; omega
      have w2 : IntKind.i64.wrap ((m : Int) - ((k : Int) + 1)) = (q : Int) := by rw [IntWalk.i64_in _ (by omega)]; omega
      have p0 : (0 : Int) ≤ (p : Int) := by omega
      have p1 : (p : Int) < (n : Int) := by omega
      have q0 : (0 : Int) ≤ (q : Int) := by omega
      have q1 : (q : Int) < (m : Int) := by omega
      have HP := Lib.hid hp; have HQ := Lib.hid hq
      have W1 := Lib.hid w1; have W2 := Lib.hid w2
      clear hp hq w1 w2
      have KS := Lib.hid (fun (W W' : World) (h : W.cell? ⟨g, off + p, none⟩ = some (.string s) ∧ W.cell? ⟨g2, off2 + q, none⟩ = some (.string t) ∧ Below w.heap.size w W) (hb : Below W.heap.size W W') => keepS2 h hb hg hg2 (Nat.le_refl _))
      by_cases hx : (x != 0) = true
      · go_wp2
        have e1 := W1.out; have e2 := W2.out
        go_region_held3 (fun W' => W'.cell? ⟨g, off + p, none⟩ = some (.string s) ∧ W'.cell? ⟨g2, off2 + q, none⟩ = some (.string t) ∧ Below w.heap.size w W') (first | assumption | exact ⟨hS0.1, hS0.2.1, below_drewQ hS0.2.2 1⟩) (first | ((with_reducible refine (hF _).mono ?_); rintro e w2 ⟨rfl, hb2⟩; have hS2 := KS.out _ _ (by assumption) hb2))
        clear e1 e2
        have HR : Hid (r = x) := Lib.hid (by rw [hr.out, if_neg (by simpa using hx)])
        go_wp2
        go_ret
        exact ⟨by rw [HR.out]; rfl, hS2.2.2⟩
      · have hx0 : (x != 0) = false := by simpa using hx
        have HR : Hid (r = cmpR (xs.reverse.drop (k + 1)) (ys.reverse.drop (k + 1))) := Lib.hid (by rw [hr.out, if_pos (by simpa using hx0)])
        clear hx hr
        go_wp2
        have e1 := W1.out; have e2 := W2.out
        go_region_held3 (fun W' => W'.cell? ⟨g, off + p, none⟩ = some (.string s) ∧ W'.cell? ⟨g2, off2 + q, none⟩ = some (.string t) ∧ Below w.heap.size w W') (first | assumption | exact ⟨hS0.1, hS0.2.1, below_drewQ hS0.2.2 1⟩) (first | ((with_reducible refine (hF _).mono ?_); rintro e w2 ⟨rfl, hb2⟩; have hS2 := KS.out _ _ (by assumption) hb2))
        clear e1 e2
        go_wp2
        go_roundw
        case rel => exact ⟨k + 1, by go_num, by omega, by omega, HR, hS2.2.2⟩
        case measure => simp [intOf]; omega
    · have hd : Hid (r = cmpI ((n : Int) - m) 0) := Lib.hid (by
        have hl : (xs.reverse.drop k).length = n - k := by have := HN.out; simp; omega
        have hl2 : (ys.reverse.drop k).length = m - k := by have := HN2.out; simp; omega
        rw [HC.out, cmpR_end _ _ (by
          by_cases e : k < n
          · right; exact List.eq_nil_of_length_eq_zero (by omega)
          · left; exact List.eq_nil_of_length_eq_zero (by omega)), hl, hl2]
        congr 1; omega)
      have hb : (n : Int) < (k : Int) + 1 ∨ ((k : Int) + 1 ≤ n ∧ (m : Int) < (k : Int) + 1) := by omega
      rcases hb with hb | ⟨hb1, hb⟩
      all_goals
        go_wp2_with (go_at_call 186; refine (hSg _ _).mono ?_; rintro e w2 ⟨rfl, rfl⟩)
        go_ret
        exact ⟨by rw [hd.out]; rfl, hB⟩
end Go.Proofs.YtckammgnmgkieaaGreat

namespace Go.Proofs.YtckammgnmgkieaaGreat
set_option maxRecDepth 20000
open Go.RowKit Go.Shelf
set_option maxRecDepth 20000

theorem kdrew {n : Nat} {a w : World} (h : Below n a w) : Below n a w.drew := h.trans ⟨rfl, rfl, rfl, Nat.le_refl _, fun _ _ => rfl⟩
section
variable {α : Type} {k : Nat} {T S : TypeId} {enc : α → List Value}
end

end Go.Proofs.YtckammgnmgkieaaGreat

namespace Go.Proofs.YtckammgnmgkieaaGreat
set_option maxRecDepth 20000
open Go.RowKit Go.Shelf

set_option maxHeartbeats 2000000 in
theorem ref_apart (a b : Int) (w : World) : Calls Tryz.prog 187 #[.int .i64 a, .int .i64 b] w fun e w' => e = .returned (.int .i64 (cmpI a b)) ∧ w' = w := by
  unfold cmpI
  by_cases h1 : a < b
  · rw [if_pos h1]
    go_enter Tryz.func187, Tryz.ntmps187
    go_wp2
    go_ret
    exact ⟨rfl, rfl⟩
  · rw [if_neg h1]
    by_cases h2 : b < a
    · rw [if_pos h2]
      go_enter Tryz.func187, Tryz.ntmps187
      go_wp2
      go_ret
      exact ⟨rfl, rfl⟩
    · rw [if_neg h2]
      go_enter Tryz.func187, Tryz.ntmps187
      go_wp2
      go_ret
      exact ⟨rfl, rfl⟩

end Go.Proofs.YtckammgnmgkieaaGreat

namespace Go.Proofs.YtckammgnmgkieaaGreat
set_option maxRecDepth 20000
open Go.RowKit Go.Shelf
set_option maxRecDepth 20000
theorem keepS4 {N : Nat} {W0 W W' : World} {p q r s : Addr} {u v x y : Value} (h : W.cell? p = some u ∧ W.cell? q = some v ∧ W.cell? r = some x ∧ W.cell? s = some y ∧ Below N W0 W) (hb : Below W.heap.size W W') (hp : p.block < N) (hq : q.block < N) (hr : r.block < N) (hs : s.block < N) (hn : N ≤ W0.heap.size) :
    W'.cell? p = some u ∧ W'.cell? q = some v ∧ W'.cell? r = some x ∧ W'.cell? s = some y ∧ Below N W0 W' := by
  have hz := h.2.2.2.2.size
  exact ⟨(hb.cell (by omega)).trans h.1, (hb.cell (by omega)).trans h.2.1, (hb.cell (by omega)).trans h.2.2.1, (hb.cell (by omega)).trans h.2.2.2.1, h.2.2.2.2.trans (hb.mono (by omega))⟩
theorem cmpI_diff (a b : Int) : cmpI (a - b) 0 = cmpI a b := by
  unfold cmpI
  by_cases h : a < b
  · rw [if_pos h, if_pos (by omega)]
  · rw [if_neg h, if_neg (by omega)]
    by_cases h2 : b < a
    · rw [if_pos h2, if_pos (by omega)]
    · rw [if_neg h2, if_neg (by omega)]
theorem cmpI_ne {a b : Int} (h : a ≠ b) : cmpI a b ≠ 0 := by
  unfold cmpI; split
  · decide
  · split
    · decide
    · omega
theorem cmpI_self (a : Int) : cmpI a a = 0 := by simp [cmpI]
theorem bytes_string {W : World} {v : Value} {xs : List UInt8} (h : SlAt W v (xs.map bv)) : (convert 99 9 v).run Tryz.prog W = .ok (.string ⟨xs.toArray⟩) W := by
  obtain ⟨a, c, rfl, hc, hz, hx⟩ := h
  rw [List.length_map] at *
  cases xs with
  | nil =>
    cases a with
    | none => exact Lib.run_convert_nil_bytes W _ _ _ _ Tryz.underlying99 Tryz.underlying5 Tryz.underlying9
    | some p => exact run_convert_bytes_back W 99 9 5 p c [] Tryz.underlying99 Tryz.underlying5 Tryz.underlying9 (fun j hj => absurd hj (Nat.not_lt_zero _))
  | cons y r =>
    rcases hx with e | ⟨b, off, rfl, _, hcell⟩
    · simp at e
    · exact run_convert_bytes_back W 99 9 5 ⟨b, off, none⟩ c (y :: r) Tryz.underlying99 Tryz.underlying5 Tryz.underlying9 (fun j hj => by
        have := hcell j (by simpa using hj)
        rw [List.getElem_map] at this
        have e : ((⟨b, off, none⟩ : Addr).add j) = ⟨b, off + j, none⟩ := by unfold Addr.add; by_cases hj : j = 0 <;> simp [hj]
        rw [e]; exact this)

set_option maxRecDepth 100000 in
set_option maxHeartbeats 16000000 in
theorem ref_CompareData (v u : Value) (a b : Dat) (w : World) (hA : DatAt w v a) (hU : DatAt w u b) (hk : DatOK a) (hk2 : DatOK b) :
    Calls Tryz.prog 156 #[v, u] w fun e w' => e = .returned (.int .i64 (compareD a b)) ∧ Below w.heap.size w w' := by
  obtain ⟨vn, vu, vt, vr, rfl, ⟨vs, s1, sl, s2⟩, a2, a3, a4⟩ := hA
  obtain ⟨un, uu, ut, ur, rfl, ⟨us, t1, tl, t2⟩, b2, b3, b4⟩ := hU
  obtain ⟨_, k1, k2, k3, k4, k5, k6⟩ := hk
  obtain ⟨_, l1, l2, l3, l4, l5, l6⟩ := hk2
  have q2 := a2; have q4 := a4; have q3 := a3.1; have p2 := b2; have p4 := b4; have p3 := b3.1
  obtain ⟨an, ca, rfl, _⟩ := id s1
  obtain ⟨bn, cb, rfl, _⟩ := id a2
  obtain ⟨tn, ct, rfl, _⟩ := id a3.1
  obtain ⟨rn, cr, rfl, _⟩ := id a4
  obtain ⟨am, da, rfl, _⟩ := id t1
  obtain ⟨bm, db, rfl, _⟩ := id b2
  obtain ⟨tm, dt, rfl, _⟩ := id b3.1
  obtain ⟨rm, dr, rfl, _⟩ := id b4
  have hcA := fun W (hb : Below w.heap.size w W) j (hj : j < vs.length) => s1.cell hb j hj
  have hcB := fun W (hb : Below w.heap.size w W) j (hj : j < us.length) => t1.cell hb j hj
  have hcC := fun W (hb : Below w.heap.size w W) j hj => q2.cell hb j hj
  have hcD := fun W (hb : Below w.heap.size w W) j hj => p2.cell hb j hj
  have hcE := fun W (hb : Below w.heap.size w W) j hj => q3.cell hb j hj
  have hcF := fun W (hb : Below w.heap.size w W) j hj => p3.cell hb j hj
  have hNA : ∀ W (_ : Below w.heap.size w W) j (_ : j < vs.length) (h2 : j < a.names.length), NmAt W vs[j] a.names[j] := fun W hb j h1 _ => (s2 j h1).below hb
  have hNB : ∀ W (_ : Below w.heap.size w W) j (_ : j < us.length) (h2 : j < b.names.length), NmAt W us[j] b.names[j] := fun W hb j h1 _ => (t2 j h1).below hb
  have hOA := fun j (hj : j < a.names.length) => k2 _ (List.getElem_mem hj)
  have hOB := fun j (hj : j < b.names.length) => l2 _ (List.getElem_mem hj)
  have HUA := Lib.hid (fun j (hj : j < a.nums.length) => k4 _ (List.getElem_mem hj)); have HUB := Lib.hid (fun j (hj : j < b.nums.length) => l4 _ (List.getElem_mem hj))
  clear k4 l4
  have HCA := Lib.hid hcA; have HCB := Lib.hid hcB; have HCC := Lib.hid hcC; have HCD := Lib.hid hcD; have HCE := Lib.hid hcE; have HCF := Lib.hid hcF
  have HNA := Lib.hid hNA; have HNB := Lib.hid hNB; have HOA := Lib.hid hOA; have HOB := Lib.hid hOB
  have HR : Hid (compareD a b = orI (cmpI a.ty b.ty) (orI (cmpL compareN a.names b.names) (orI (cmpL cmpU a.nums b.nums) (orI (cmpL orderM a.texts b.texts) (orderM a.raw b.raw))))) := Lib.hid (by rw [orderM_cmpL]; rfl)
  clear hcA hcB hcC hcD hcE hcF hNA hNB hOA hOB s1 s2 t1 t2 a2 a3 a4 b2 b3 b4 q2 q3 p2 p3 k2 l2
  rw [← sl] at k1; rw [← tl] at l1
  have HSL := Lib.hid sl; have HTL := Lib.hid tl
  clear sl tl
  rw [List.length_map, List.length_map, List.length_map, List.length_map]
  have k3' : a.nums.length ≤ 1048576 := k3
  have l3' : b.nums.length ≤ 1048576 := l3
  have k5' := k5.1; have l5' := l5.1
  generalize compareD a b = res at *
  obtain ⟨n1, e1⟩ : ∃ n, vs.length = n := ⟨_, rfl⟩
  obtain ⟨n2, e2⟩ : ∃ n, a.nums.length = n := ⟨_, rfl⟩
  obtain ⟨n3, e3⟩ : ∃ n, a.texts.length = n := ⟨_, rfl⟩
  obtain ⟨n4, e4⟩ : ∃ n, a.raw.length = n := ⟨_, rfl⟩
  obtain ⟨m1, f1⟩ : ∃ n, us.length = n := ⟨_, rfl⟩
  obtain ⟨m2, f2⟩ : ∃ n, b.nums.length = n := ⟨_, rfl⟩
  obtain ⟨m3, f3⟩ : ∃ n, b.texts.length = n := ⟨_, rfl⟩
  obtain ⟨m4, f4⟩ : ∃ n, b.raw.length = n := ⟨_, rfl⟩
  have E1 := Lib.hid e1; have E2 := Lib.hid e2; have E3 := Lib.hid e3; have E4 := Lib.hid e4; have F1 := Lib.hid f1; have F2 := Lib.hid f2; have F3 := Lib.hid f3; have F4 := Lib.hid f4
  rw [e1] at k1 ⊢; rw [f1] at l1 ⊢; rw [e2] at k3' ⊢; rw [f2] at l3' ⊢; rw [e3] at k5' ⊢; rw [f3] at l5' ⊢; rw [e4, f4]
  have HCV : Hid (∀ W, Below w.heap.size w W → (convert 99 9 (.slice rn n4 cr)).run Tryz.prog W = .ok (.string ⟨a.raw.toArray⟩) W) := Lib.hid (fun W hb => by have h := bytes_string (q4.below hb); rw [List.length_map, e4] at h; exact h)
  have HCW : Hid (∀ W, Below w.heap.size w W → (convert 99 9 (.slice rm m4 dr)).run Tryz.prog W = .ok (.string ⟨b.raw.toArray⟩) W) := Lib.hid (fun W hb => by have h := bytes_string (p4.below hb); rw [List.length_map, f4] at h; exact h)
  clear q4 p4
  clear e1 e2 e3 e4 f1 f2 f3 f4 k3 l3 k6 l6
  obtain ⟨x, hx⟩ : ∃ x, a.ty = x := ⟨_, rfl⟩
  obtain ⟨y, hy⟩ : ∃ y, b.ty = y := ⟨_, rfl⟩
  rw [hx, hy] at HR ⊢
  clear hx hy
  have hb0 : Below w.heap.size w ((w.alloc (.cells #[.int .i64 x, .slice an n1 ca, .slice bn n2 cb, .slice tn n3 ct, .slice rn n4 cr] 107)).alloc (.cells #[.int .i64 y, .slice am m1 da, .slice bm m2 db, .slice tm m3 dt, .slice rm m4 dr] 107)) := ((Below.refl _ w).alloc (Nat.le_refl _) _).alloc (by simp) _
  have g0 := new_at w [.int .i64 x, .slice an n1 ca, .slice bn n2 cb, .slice tn n3 ct, .slice rn n4 cr] 107
  have g1 := new_at (w.alloc (.cells #[.int .i64 x, .slice an n1 ca, .slice bn n2 cb, .slice tn n3 ct, .slice rn n4 cr] 107)) [.int .i64 y, .slice am m1 da, .slice bm m2 db, .slice tm m3 dt, .slice rm m4 dr] 107
  rw [World.size_alloc] at g1
  have hcx : ∀ (j : Nat) (z : Value), [Value.int .i64 x, .slice an n1 ca, .slice bn n2 cb, .slice tn n3 ct, .slice rn n4 cr][j]? = some z → ((w.alloc (.cells #[.int .i64 x, .slice an n1 ca, .slice bn n2 cb, .slice tn n3 ct, .slice rn n4 cr] 107)).alloc (.cells #[.int .i64 y, .slice am m1 da, .slice bm m2 db, .slice tm m3 dt, .slice rm m4 dr] 107)).cell? ⟨w.heap.size, j, none⟩ = some z := fun j z h =>
    ((((Below.refl (w.heap.size + 1) (w.alloc (.cells #[.int .i64 x, .slice an n1 ca, .slice bn n2 cb, .slice tn n3 ct, .slice rn n4 cr] 107))).alloc (by simp) (.cells #[.int .i64 y, .slice am m1 da, .slice bm m2 db, .slice tm m3 dt, .slice rm m4 dr] 107))).cell (p := ⟨w.heap.size, j, none⟩) (Nat.lt_succ_self _)).trans (g0 j z h)
  have x0 := hcx 0 _ rfl; have x1 := hcx 1 _ rfl; have x2 := hcx 2 _ rfl; have x3 := hcx 3 _ rfl; have x4 := hcx 4 _ rfl
  have y0 := g1 0 _ rfl; have y1 := g1 1 _ rfl; have y2 := g1 2 _ rfl; have y3 := g1 3 _ rfl; have y4 := g1 4 _ rfl
  have hz : ((w.alloc (.cells #[.int .i64 x, .slice an n1 ca, .slice bn n2 cb, .slice tn n3 ct, .slice rn n4 cr] 107)).alloc (.cells #[.int .i64 y, .slice am m1 da, .slice bm m2 db, .slice tm m3 dt, .slice rm m4 dr] 107)).heap.size = w.heap.size + 2 := by simp
  have HSg := Lib.hid (fun (d : Int) W => ref_sign d W)
  have HZ := Lib.hid hz; have HB0 := Lib.hid hb0
  clear g0 g1 hcx hb0 hz
  by_cases hxy : (x != y) = true
  · have H0 : Hid (res = cmpI x y) := Lib.hid (by rw [HR.out]; unfold orI; rw [if_neg (cmpI_ne (by simpa using hxy))])
    go_enter Tryz.func156, Tryz.ntmps156
    go_wp2_with (go_at_call 187; refine (ref_apart _ _ _).mono ?_; rintro e w2 ⟨rfl, rfl⟩)
    go_ret
    exact ⟨by rw [H0.out]; rfl, HB0.out⟩
  have hxy2 : (x != y) = false := by simpa using hxy
  have hxe : x = y := by simpa using hxy2
  subst hxe
  have H1 : Hid (res = orI (cmpL compareN (a.names.drop 0) (b.names.drop 0)) (orI (cmpL cmpU a.nums b.nums) (orI (cmpL orderM a.texts b.texts) (orderM a.raw b.raw)))) := Lib.hid (by rw [HR.out, cmpI_self]; rfl)
  clear HR hxy
  go_enter Tryz.func156, Tryz.ntmps156
  go_upto_block 0 with fail
  have HX := Lib.hid (show _ ∧ _ ∧ _ ∧ _ ∧ _ ∧ _ ∧ _ ∧ _ from ⟨x1, x2, x3, x4, y1, y2, y3, y4⟩)
  clear x0 x1 x2 x3 x4 y0 y1 y2 y3 y4
  generalize ((w.alloc (.cells #[.int .i64 x, .slice an n1 ca, .slice bn n2 cb, .slice tn n3 ct, .slice rn n4 cr] 107)).alloc (.cells #[.int .i64 x, .slice am m1 da, .slice bm m2 db, .slice tm m3 dt, .slice rm m4 dr] 107)) = W0 at *
  have HN : Hid (w.heap.size + 2 ≤ W0.heap.size) := Lib.hid (by rw [HZ.out]; exact Nat.le_refl _)
  clear HZ
  have HRd : Hid (∀ W, Below (w.heap.size + 2) W0 W → W.cell? ⟨w.heap.size, 1, none⟩ = some (.slice an n1 ca) ∧ W.cell? ⟨w.heap.size, 2, none⟩ = some (.slice bn n2 cb) ∧ W.cell? ⟨w.heap.size, 3, none⟩ = some (.slice tn n3 ct) ∧ W.cell? ⟨w.heap.size, 4, none⟩ = some (.slice rn n4 cr) ∧ W.cell? ⟨w.heap.size + 1, 1, none⟩ = some (.slice am m1 da) ∧ W.cell? ⟨w.heap.size + 1, 2, none⟩ = some (.slice bm m2 db) ∧ W.cell? ⟨w.heap.size + 1, 3, none⟩ = some (.slice tm m3 dt) ∧ W.cell? ⟨w.heap.size + 1, 4, none⟩ = some (.slice rm m4 dr) ∧ Below w.heap.size w W) := Lib.hid (fun W hb => by
    obtain ⟨z1, z2, z3, z4, z5, z6, z7, z8⟩ := HX.out
    have hA : w.heap.size < w.heap.size + 2 := by omega
    have hB : w.heap.size + 1 < w.heap.size + 2 := by omega
    exact ⟨(hb.cell hA).trans z1, (hb.cell hA).trans z2, (hb.cell hA).trans z3, (hb.cell hA).trans z4, (hb.cell hB).trans z5, (hb.cell hB).trans z6, (hb.cell hB).trans z7, (hb.cell hB).trans z8, HB0.out.trans (hb.mono (by omega))⟩)
  clear HX
  go_cut [5, 6] (fun _ _ wx => Hid (res = orI (cmpI n1 m1) (orI (cmpL cmpU a.nums b.nums) (orI (cmpL orderM a.texts b.texts) (orderM a.raw b.raw)))) ∧ Below (w.heap.size + 2) W0 wx)
  case first =>
    have Hst := Lib.hid (Below.refl (w.heap.size + 2) W0)
    go_wp2_with fail
    go_loopw [5, 6] (fun i _ wr => ∃ k : Nat, i = .int .i64 k ∧ k ≤ n1 ∧ k ≤ m1 ∧ Hid (res = orI (cmpL compareN (a.names.drop k) (b.names.drop k)) (orI (cmpL cmpU a.nums b.nums) (orI (cmpL orderM a.texts b.texts) (orderM a.raw b.raw)))) ∧ Below (w.heap.size + 2) W0 wr) (fun i _ _ => n1 - (intOf i).toNat)
    case atStart => exact ⟨0, rfl, Nat.zero_le _, Nat.zero_le _, H1, Hst.out⟩
    case round =>
      obtain ⟨k, rfl, hkn, hkm, HC, hB⟩ := hrel
      obtain ⟨z1, _, _, _, z5, _, _, _, hB0⟩ := HRd.out _ hB
      by_cases hlt : k < n1
      · by_cases hlm : k < m1
        · have hkp : k < vs.length := by rw [E1.out]; exact hlt
          have hkq : k < us.length := by rw [F1.out]; exact hlm
          have hkp2 : k < a.names.length := by rw [← HSL.out]; exact hkp
          have hkq2 : k < b.names.length := by rw [← HTL.out]; exact hkq
          obtain ⟨g, off, rfl, hg, hc⟩ := HCA.out wr hB0 k hkp
          obtain ⟨g2, off2, rfl, hg2, hc2⟩ := HCB.out wr hB0 k hkq
          have hF := fun W (hb : Below w.heap.size w W) => ref_Compare _ _ _ _ W (HNA.out W hb k hkp hkp2).1 (HNB.out W hb k hkq hkq2).1 (HOA.out k hkp2) (HOB.out k hkq2)
          obtain ⟨-, ⟨pa, pc, ep, -⟩, -⟩ : True ∧ NmAt w vs[k] a.names[k] := ⟨trivial, HNA.out w (Below.refl _ w) k hkp hkp2⟩
          obtain ⟨-, ⟨pb, pd, eq, -⟩, -⟩ : True ∧ NmAt w us[k] b.names[k] := ⟨trivial, HNB.out w (Below.refl _ w) k hkq hkq2⟩
          rw [ep] at hc; rw [eq] at hc2; rw [ep, eq] at hF
          obtain ⟨q, hq⟩ : ∃ q, compareN a.names[k] b.names[k] = q := ⟨_, rfl⟩
          have HQ := Lib.hid (show res = orI (if q = 0 then cmpL compareN (a.names.drop (k + 1)) (b.names.drop (k + 1)) else q) (orI (cmpL cmpU a.nums b.nums) (orI (cmpL orderM a.texts b.texts) (orderM a.raw b.raw))) by rw [HC.out, cmpL_step k hkp2 hkq2, hq])
          rw [hq] at hF
          clear ep eq
          obtain ⟨la, hla⟩ : ∃ l, a.names[k].length = l := ⟨_, rfl⟩
          obtain ⟨lb, hlb⟩ : ∃ l, b.names[k].length = l := ⟨_, rfl⟩
          rw [hla] at hc hF
          rw [hlb] at hc2 hF
          have hkn1 : (0 : Int) ≤ (k : Int) := by omega
          have hkn2 : (k : Int) < (n1 : Int) := by omega
          have hkn3 : (k : Int) < (m1 : Int) := by omega
          have HF := Lib.hid (fun W (h : Below (w.heap.size + 2) W0 W) => hF W (HRd.out W h).2.2.2.2.2.2.2.2)
          have hS0 : wr.cell? ⟨g, off + k, none⟩ = some (.slice pa la pc) ∧ wr.cell? ⟨g2, off2 + k, none⟩ = some (.slice pb lb pd) ∧ wr.cell? ⟨w.heap.size, 1, none⟩ = some (.slice (some ⟨g, off, none⟩) n1 ca) ∧ wr.cell? ⟨w.heap.size + 1, 1, none⟩ = some (.slice (some ⟨g2, off2, none⟩) m1 da) ∧ Below (w.heap.size + 2) W0 wr := ⟨hc, hc2, z1, z5, hB⟩
          have KS := Lib.hid (fun (W W' : World) (h : W.cell? ⟨g, off + k, none⟩ = some (.slice pa la pc) ∧ W.cell? ⟨g2, off2 + k, none⟩ = some (.slice pb lb pd) ∧ W.cell? ⟨w.heap.size, 1, none⟩ = some (.slice (some ⟨g, off, none⟩) n1 ca) ∧ W.cell? ⟨w.heap.size + 1, 1, none⟩ = some (.slice (some ⟨g2, off2, none⟩) m1 da) ∧ Below (w.heap.size + 2) W0 W) (hb : Below W.heap.size W W') => keepS4 h hb (by show g < _; omega) (by show g2 < _; omega) (by show w.heap.size < _; omega) (by show w.heap.size + 1 < _; omega) HN.out)
          clear hF hq hla hlb hkp hkq hkp2 hkq2 HC hc hc2 hB hB0 z1 z5
          go_wp2_with fail
          go_region_held3 (fun W => W.cell? ⟨g, off + k, none⟩ = some (.slice pa la pc) ∧ W.cell? ⟨g2, off2 + k, none⟩ = some (.slice pb lb pd) ∧ W.cell? ⟨w.heap.size, 1, none⟩ = some (.slice (some ⟨g, off, none⟩) n1 ca) ∧ W.cell? ⟨w.heap.size + 1, 1, none⟩ = some (.slice (some ⟨g2, off2, none⟩) m1 da) ∧ Below (w.heap.size + 2) W0 W) (first | assumption | exact KS.out _ _ (by assumption) (below_drew1 (Below.refl _ _))) (first | ((with_reducible refine (HF.out _ (by go_split_ands; assumption)).mono ?_); rintro e w2 ⟨rfl, hb2⟩; have hS2 := KS.out _ _ (by assumption) hb2))
          all_goals
            rename_i hSe
            have HSe := Lib.hid hSe.2.2.2.2
            clear hSe hS2 hS0
            by_cases hq0 : (q != 0) = true
            · have H0 : Hid (res = q) := Lib.hid (by
                have h := HQ.out
                have hq : q ≠ 0 := by simpa using hq0
                rw [if_neg hq] at h; unfold orI at h; rw [if_neg hq] at h; exact h)
              go_wp2_with fail
              go_ret
              exact ⟨by rw [H0.out]; rfl, (HRd.out _ HSe.out).2.2.2.2.2.2.2.2⟩
            · have hq1 : (q != 0) = false := by simpa using hq0
              have H2 : Hid (res = orI (cmpL compareN (a.names.drop (k + 1)) (b.names.drop (k + 1))) (orI (cmpL cmpU a.nums b.nums) (orI (cmpL orderM a.texts b.texts) (orderM a.raw b.raw)))) := Lib.hid (by
                have h := HQ.out
                have hq : q = 0 := by simpa using hq1
                rw [if_pos hq] at h; exact h)
              clear hq0
              go_wp2_with fail
              go_roundw
              case rel => exact ⟨k + 1, by go_num, by omega, by omega, H2, HSe.out⟩
              case measure => simp [intOf]; omega
        · obtain rfl : k = m1 := by omega
          have H2 : Hid (res = orI (cmpI n1 k) (orI (cmpL cmpU a.nums b.nums) (orI (cmpL orderM a.texts b.texts) (orderM a.raw b.raw)))) := Lib.hid (by
            have h := HC.out
            rw [cmpL_end k (by rw [← HSL.out, E1.out]; omega) (by rw [← HTL.out, F1.out]; omega) (.inr (by rw [← HTL.out, F1.out])), ← HSL.out, E1.out, ← HTL.out, F1.out] at h
            exact h)
          have HB := Lib.hid hB
          have hkn2 : (k : Int) < (n1 : Int) := by omega
          have hkn3 : ¬ (k : Int) < (k : Int) := by omega
          clear hB hB0 HC
          go_wp2_with fail
          go_meet
          exact ⟨H2, HB.out⟩
      · obtain rfl : k = n1 := by omega
        have H2 : Hid (res = orI (cmpI k m1) (orI (cmpL cmpU a.nums b.nums) (orI (cmpL orderM a.texts b.texts) (orderM a.raw b.raw)))) := Lib.hid (by
          have h := HC.out
          rw [cmpL_end k (by rw [← HSL.out, E1.out]; omega) (by rw [← HTL.out, F1.out]; omega) (.inl (by rw [← HSL.out, E1.out])), ← HSL.out, E1.out, ← HTL.out, F1.out] at h
          exact h)
        have HB := Lib.hid hB
        have hkn3 : ¬ (k : Int) < (k : Int) := by omega
        clear hB hB0 HC
        go_wp2_with fail
        go_meet
        exact ⟨H2, HB.out⟩
  case rest =>
  obtain ⟨HC1, hB1⟩ := hcut
  clear H1
  obtain ⟨z1, -, -, -, z5, -, -, -, hBz⟩ := HRd.out _ hB1
  by_cases hnm : ((n1 : Int) != (m1 : Int)) = true
  · have H0 : Hid (res = cmpI ((n1 : Int) - (m1 : Int)) 0) := Lib.hid (by
      have h := HC1.out
      unfold orI at h
      rw [if_neg (cmpI_ne (by simpa using hnm))] at h
      rw [cmpI_diff]; exact h)
    have HB := Lib.hid hBz
    clear hB1 hBz
    go_wp2_with (go_at_call 186; refine (HSg.out _ _).mono ?_; rintro e w2 ⟨rfl, rfl⟩)
    go_ret
    exact ⟨by rw [H0.out]; rfl, HB.out⟩
  have hnm2 : ((n1 : Int) != (m1 : Int)) = false := by simpa using hnm
  have H2 : Hid (res = orI (cmpL cmpU (a.nums.drop 0) (b.nums.drop 0)) (orI (cmpL orderM a.texts b.texts) (orderM a.raw b.raw))) := Lib.hid (by
    have h := HC1.out
    have e : (n1 : Int) = (m1 : Int) := by simpa using hnm2
    rw [e, cmpI_self] at h; exact h)
  have HB1 := Lib.hid hB1
  clear hnm hB1 hBz HC1
  go_upto_block 2 with fail
  clear z1 z5 hnm2
  go_cut [7] (fun _ wx => Hid (res = orI (cmpI n2 m2) (orI (cmpL orderM a.texts b.texts) (orderM a.raw b.raw))) ∧ Below (w.heap.size + 2) W0 wx)
  case first =>
    go_wp2_with fail
    go_loopw [7] (fun i wr => ∃ k : Nat, i = .int .i64 k ∧ k ≤ n2 ∧ k ≤ m2 ∧ Hid (res = orI (cmpL cmpU (a.nums.drop k) (b.nums.drop k)) (orI (cmpL orderM a.texts b.texts) (orderM a.raw b.raw))) ∧ Below (w.heap.size + 2) W0 wr) (fun i _ => n2 - (intOf i).toNat)
    case atStart => exact ⟨0, rfl, Nat.zero_le _, Nat.zero_le _, H2, HB1.out⟩
    case round =>
      obtain ⟨k, rfl, hkn, hkm, HC, hB⟩ := hrel
      obtain ⟨-, z2, -, -, -, z6, -, -, hB0⟩ := HRd.out _ hB
      by_cases hlt : k < n2
      · by_cases hlm : k < m2
        · have hkp2 : k < a.nums.length := by rw [E2.out]; exact hlt
          have hkq2 : k < b.nums.length := by rw [F2.out]; exact hlm
          obtain ⟨g, off, rfl, hg, hc⟩ := HCC.out wr hB0 k (by rw [List.length_map]; exact hkp2)
          obtain ⟨g2, off2, rfl, hg2, hc2⟩ := HCD.out wr hB0 k (by rw [List.length_map]; exact hkq2)
          have hup := HUA.out k hkp2
          have huq := HUB.out k hkq2
          have HQ := Lib.hid (show res = orI (if cmpU a.nums[k] b.nums[k] = 0 then cmpL cmpU (a.nums.drop (k + 1)) (b.nums.drop (k + 1)) else cmpU a.nums[k] b.nums[k]) (orI (cmpL orderM a.texts b.texts) (orderM a.raw b.raw)) by rw [HC.out, cmpL_step k hkp2 hkq2])
          rw [List.getElem_map] at hc hc2
          unfold u32V at hc hc2
          obtain ⟨p, hp⟩ : ∃ p, a.nums[k] = p := ⟨_, rfl⟩
          obtain ⟨q, hq⟩ : ∃ q, b.nums[k] = q := ⟨_, rfl⟩
          rw [hp] at hup hc HQ
          rw [hq] at huq hc2 HQ
          have hkn1 : (0 : Int) ≤ (k : Int) := by omega
          have hkn2 : (k : Int) < (n2 : Int) := by omega
          have hkn3 : (k : Int) < (m2 : Int) := by omega
          have hp1 : (p : Int) < 4294967296 := by omega
          have hq1 : (q : Int) < 4294967296 := by omega
          have hS0 : (wr.cell? ⟨g, off + k, none⟩ = some (.int .u32 (p : Int)) ∧ wr.cell? ⟨g2, off2 + k, none⟩ = some (.int .u32 (q : Int)) ∧ wr.cell? ⟨w.heap.size, 2, none⟩ = some (.slice (some ⟨g, off, none⟩) n2 cb) ∧ wr.cell? ⟨w.heap.size + 1, 2, none⟩ = some (.slice (some ⟨g2, off2, none⟩) m2 db) ∧ Below (w.heap.size + 2) W0 wr) := ⟨hc, hc2, z2, z6, hB⟩
          have KS := Lib.hid (fun (W W' : World) (h : (W.cell? ⟨g, off + k, none⟩ = some (.int .u32 (p : Int)) ∧ W.cell? ⟨g2, off2 + k, none⟩ = some (.int .u32 (q : Int)) ∧ W.cell? ⟨w.heap.size, 2, none⟩ = some (.slice (some ⟨g, off, none⟩) n2 cb) ∧ W.cell? ⟨w.heap.size + 1, 2, none⟩ = some (.slice (some ⟨g2, off2, none⟩) m2 db) ∧ Below (w.heap.size + 2) W0 W)) (hb : Below W.heap.size W W') => keepS4 h hb (by show g < _; omega) (by show g2 < _; omega) (by show w.heap.size < _; omega) (by show w.heap.size + 1 < _; omega) HN.out)
          clear hp hq hup huq hkp2 hkq2 HC hB hB0
          by_cases hq0 : ((p : Int) != (q : Int)) = true
          · have H0 : Hid (res = cmpI ((p : Int) - (q : Int)) 0) := Lib.hid (by
              have h := HQ.out
              have hne : cmpU p q ≠ 0 := cmpI_ne (by simpa using hq0)
              rw [if_neg hne] at h; unfold orI at h; rw [if_neg hne] at h
              rw [cmpI_diff]; exact h)
            have HW : Hid (cmpI (IntKind.i64.wrap (IntKind.i64.wrap (p : Int) - IntKind.i64.wrap (q : Int))) 0 = cmpI ((p : Int) - (q : Int)) 0) := Lib.hid (by rw [IntWalk.i64_in (p : Int) (by omega), IntWalk.i64_in (q : Int) (by omega), IntWalk.i64_in _ (by omega)])
            clear HQ
            go_wp2_with fail
            go_region_held3 (fun W => (W.cell? ⟨g, off + k, none⟩ = some (.int .u32 (p : Int)) ∧ W.cell? ⟨g2, off2 + k, none⟩ = some (.int .u32 (q : Int)) ∧ W.cell? ⟨w.heap.size, 2, none⟩ = some (.slice (some ⟨g, off, none⟩) n2 cb) ∧ W.cell? ⟨w.heap.size + 1, 2, none⟩ = some (.slice (some ⟨g2, off2, none⟩) m2 db) ∧ Below (w.heap.size + 2) W0 W)) (first | assumption | exact KS.out _ _ (by assumption) (below_drew1 (Below.refl _ _))) (fail)
            rename_i hSe
            clear hS0 hc hc2 z2 z6
            obtain ⟨hc, hc2, z2, z6, hB⟩ := id hSe
            go_wp2_with fail
            go_region_held3 (fun W => (W.cell? ⟨g, off + k, none⟩ = some (.int .u32 (p : Int)) ∧ W.cell? ⟨g2, off2 + k, none⟩ = some (.int .u32 (q : Int)) ∧ W.cell? ⟨w.heap.size, 2, none⟩ = some (.slice (some ⟨g, off, none⟩) n2 cb) ∧ W.cell? ⟨w.heap.size + 1, 2, none⟩ = some (.slice (some ⟨g2, off2, none⟩) m2 db) ∧ Below (w.heap.size + 2) W0 W)) (first | assumption | exact KS.out _ _ (by assumption) (below_drew1 (Below.refl _ _))) (first | ((with_reducible refine (HSg.out _ _).mono ?_); rintro e w2 ⟨rfl, rfl⟩))
            all_goals
              rename_i hSf
              go_wp2_with fail
              go_ret
              exact ⟨by rw [H0.out, ← HW.out]; rfl, (HRd.out _ hSf.2.2.2.2).2.2.2.2.2.2.2.2⟩
          · have hq2 : ((p : Int) != (q : Int)) = false := by simpa using hq0
            have H2 : Hid (res = orI (cmpL cmpU (a.nums.drop (k + 1)) (b.nums.drop (k + 1))) (orI (cmpL orderM a.texts b.texts) (orderM a.raw b.raw))) := Lib.hid (by
              have h := HQ.out
              have he : (p : Int) = (q : Int) := by simpa using hq2
              rw [if_pos (by unfold cmpU; rw [he, cmpI_self])] at h; exact h)
            clear hq0 HQ
            go_wp2_with fail
            go_region_held3 (fun W => (W.cell? ⟨g, off + k, none⟩ = some (.int .u32 (p : Int)) ∧ W.cell? ⟨g2, off2 + k, none⟩ = some (.int .u32 (q : Int)) ∧ W.cell? ⟨w.heap.size, 2, none⟩ = some (.slice (some ⟨g, off, none⟩) n2 cb) ∧ W.cell? ⟨w.heap.size + 1, 2, none⟩ = some (.slice (some ⟨g2, off2, none⟩) m2 db) ∧ Below (w.heap.size + 2) W0 W)) (first | assumption | exact KS.out _ _ (by assumption) (below_drew1 (Below.refl _ _))) (fail)
            rename_i hSe
            have HSe := Lib.hid hSe.2.2.2.2
            clear hSe hS0 hc hc2 z2 z6
            go_wp2_with fail
            go_roundw
            case rel => exact ⟨k + 1, by go_num, by omega, by omega, H2, HSe.out⟩
            case measure => simp [intOf]; omega
        · obtain rfl : k = m2 := by omega
          have H2 : Hid (res = orI (cmpI n2 k) (orI (cmpL orderM a.texts b.texts) (orderM a.raw b.raw))) := Lib.hid (by
            have h := HC.out
            rw [cmpL_end k (by rw [E2.out]; omega) (by rw [F2.out]; omega) (.inr (by rw [F2.out])), E2.out, F2.out] at h
            exact h)
          have HB := Lib.hid hB
          have hkn2 : (k : Int) < (n2 : Int) := by omega
          have hkn3 : ¬ (k : Int) < (k : Int) := by omega
          clear hB hB0 HC
          go_wp2_with fail
          go_meet
          exact ⟨H2, HB.out⟩
      · obtain rfl : k = n2 := by omega
        have H2 : Hid (res = orI (cmpI k m2) (orI (cmpL orderM a.texts b.texts) (orderM a.raw b.raw))) := Lib.hid (by
          have h := HC.out
          rw [cmpL_end k (by rw [E2.out]; omega) (by rw [F2.out]; omega) (.inl (by rw [E2.out])), E2.out, F2.out] at h
          exact h)
        have HB := Lib.hid hB
        have hkn3 : ¬ (k : Int) < (k : Int) := by omega
        clear hB hB0 HC
        go_wp2_with fail
        go_meet
        exact ⟨H2, HB.out⟩
  case rest =>
  obtain ⟨HC1, hB1⟩ := hcut
  clear H2
  obtain ⟨-, z2, -, -, -, z6, -, -, hBz⟩ := HRd.out _ hB1
  by_cases hnm : ((n2 : Int) != (m2 : Int)) = true
  · have H0 : Hid (res = cmpI ((n2 : Int) - (m2 : Int)) 0) := Lib.hid (by
      have h := HC1.out
      unfold orI at h
      rw [if_neg (cmpI_ne (by simpa using hnm))] at h
      rw [cmpI_diff]; exact h)
    have HB := Lib.hid hBz
    clear hB1 hBz
    go_wp2_with (go_at_call 186; refine (HSg.out _ _).mono ?_; rintro e w2 ⟨rfl, rfl⟩)
    go_ret
    exact ⟨by rw [H0.out]; rfl, HB.out⟩
  have hnm2 : ((n2 : Int) != (m2 : Int)) = false := by simpa using hnm
  have H2 : Hid (res = orI (cmpL orderM (a.texts.drop 0) (b.texts.drop 0)) (orderM a.raw b.raw)) := Lib.hid (by
    have h := HC1.out
    have e : (n2 : Int) = (m2 : Int) := by simpa using hnm2
    rw [e, cmpI_self] at h; exact h)
  have HB1 := Lib.hid hB1
  clear hnm hB1 hBz HC1
  go_upto_block 4 with fail
  clear z2 z6 hnm2
  go_cut [8, 9] (fun _ _ wx => Hid (res = orI (cmpI n3 m3) (orderM a.raw b.raw)) ∧ Below (w.heap.size + 2) W0 wx)
  case first =>
    go_wp2_with fail
    go_loopw [8, 9] (fun i _ wr => ∃ k : Nat, i = .int .i64 k ∧ k ≤ n3 ∧ k ≤ m3 ∧ Hid (res = orI (cmpL orderM (a.texts.drop k) (b.texts.drop k)) (orderM a.raw b.raw)) ∧ Below (w.heap.size + 2) W0 wr) (fun i _ _ => n3 - (intOf i).toNat)
    case atStart => exact ⟨0, rfl, Nat.zero_le _, Nat.zero_le _, H2, HB1.out⟩
    case round =>
      obtain ⟨k, rfl, hkn, hkm, HC, hB⟩ := hrel
      obtain ⟨-, -, z3, -, -, -, z7, -, hB0⟩ := HRd.out _ hB
      by_cases hlt : k < n3
      · by_cases hlm : k < m3
        · have hkp2 : k < a.texts.length := by rw [E3.out]; exact hlt
          have hkq2 : k < b.texts.length := by rw [F3.out]; exact hlm
          obtain ⟨g, off, rfl, hg, hc⟩ := HCE.out wr hB0 k hkp2
          obtain ⟨g2, off2, rfl, hg2, hc2⟩ := HCF.out wr hB0 k hkq2
          obtain ⟨s, hs0, hsz, hsv⟩ := str_of a.texts[k]
          obtain ⟨t, ht0, htz, htv⟩ := str_of b.texts[k]
          rw [hsv] at hc; rw [htv] at hc2
          have hF := fun W => ref_order s t W
          rw [hs0, ht0] at hF
          obtain ⟨q, hq⟩ : ∃ q, orderM a.texts[k] b.texts[k] = q := ⟨_, rfl⟩
          have HQ := Lib.hid (show res = orI (if q = 0 then cmpL orderM (a.texts.drop (k + 1)) (b.texts.drop (k + 1)) else q) (orderM a.raw b.raw) by rw [HC.out, cmpL_step k hkp2 hkq2, hq])
          rw [hq] at hF
          have hkn1 : (0 : Int) ≤ (k : Int) := by omega
          have hkn2 : (k : Int) < (n3 : Int) := by omega
          have hkn3 : (k : Int) < (m3 : Int) := by omega
          have HF := Lib.hid hF
          have hS0 : (wr.cell? ⟨g, off + k, none⟩ = some (.string s) ∧ wr.cell? ⟨g2, off2 + k, none⟩ = some (.string t) ∧ wr.cell? ⟨w.heap.size, 3, none⟩ = some (.slice (some ⟨g, off, none⟩) n3 ct) ∧ wr.cell? ⟨w.heap.size + 1, 3, none⟩ = some (.slice (some ⟨g2, off2, none⟩) m3 dt) ∧ Below (w.heap.size + 2) W0 wr) := ⟨hc, hc2, z3, z7, hB⟩
          have KS := Lib.hid (fun (W W' : World) (h : (W.cell? ⟨g, off + k, none⟩ = some (.string s) ∧ W.cell? ⟨g2, off2 + k, none⟩ = some (.string t) ∧ W.cell? ⟨w.heap.size, 3, none⟩ = some (.slice (some ⟨g, off, none⟩) n3 ct) ∧ W.cell? ⟨w.heap.size + 1, 3, none⟩ = some (.slice (some ⟨g2, off2, none⟩) m3 dt) ∧ Below (w.heap.size + 2) W0 W)) (hb : Below W.heap.size W W') => keepS4 h hb (by show g < _; omega) (by show g2 < _; omega) (by show w.heap.size < _; omega) (by show w.heap.size + 1 < _; omega) HN.out)
          clear hF hq hs0 hsz hsv ht0 htz htv hkp2 hkq2 HC hc hc2 hB hB0 z3 z7
          obtain ⟨hc, hc2, z3, z7, -⟩ := id hS0
          go_wp2_with fail
          go_region_held3 (fun W => (W.cell? ⟨g, off + k, none⟩ = some (.string s) ∧ W.cell? ⟨g2, off2 + k, none⟩ = some (.string t) ∧ W.cell? ⟨w.heap.size, 3, none⟩ = some (.slice (some ⟨g, off, none⟩) n3 ct) ∧ W.cell? ⟨w.heap.size + 1, 3, none⟩ = some (.slice (some ⟨g2, off2, none⟩) m3 dt) ∧ Below (w.heap.size + 2) W0 W)) (first | assumption | exact KS.out _ _ (by assumption) (below_drew1 (Below.refl _ _))) (first | ((with_reducible refine (HF.out _).mono ?_); rintro e w2 ⟨rfl, rfl⟩))
          all_goals
            rename_i hSe
            have HSe := Lib.hid hSe.2.2.2.2
            clear hSe hS0 hc hc2 z3 z7
            by_cases hq0 : (q != 0) = true
            · have H0 : Hid (res = q) := Lib.hid (by
                have h := HQ.out
                have hq : q ≠ 0 := by simpa using hq0
                rw [if_neg hq] at h; unfold orI at h; rw [if_neg hq] at h; exact h)
              go_wp2_with fail
              go_ret
              exact ⟨by rw [H0.out]; rfl, (HRd.out _ HSe.out).2.2.2.2.2.2.2.2⟩
            · have hq1 : (q != 0) = false := by simpa using hq0
              have H2 : Hid (res = orI (cmpL orderM (a.texts.drop (k + 1)) (b.texts.drop (k + 1))) (orderM a.raw b.raw)) := Lib.hid (by
                have h := HQ.out
                have hq : q = 0 := by simpa using hq1
                rw [if_pos hq] at h; exact h)
              clear hq0
              go_wp2_with fail
              go_roundw
              case rel => exact ⟨k + 1, by go_num, by omega, by omega, H2, HSe.out⟩
              case measure => simp [intOf]; omega
        · obtain rfl : k = m3 := by omega
          have H2 : Hid (res = orI (cmpI n3 k) (orderM a.raw b.raw)) := Lib.hid (by
            have h := HC.out
            rw [cmpL_end k (by rw [E3.out]; omega) (by rw [F3.out]; omega) (.inr (by rw [F3.out])), E3.out, F3.out] at h
            exact h)
          have HB := Lib.hid hB
          have hkn2 : (k : Int) < (n3 : Int) := by omega
          have hkn3 : ¬ (k : Int) < (k : Int) := by omega
          clear hB hB0 HC
          go_wp2_with fail
          go_meet
          exact ⟨H2, HB.out⟩
      · obtain rfl : k = n3 := by omega
        have H2 : Hid (res = orI (cmpI k m3) (orderM a.raw b.raw)) := Lib.hid (by
          have h := HC.out
          rw [cmpL_end k (by rw [E3.out]; omega) (by rw [F3.out]; omega) (.inl (by rw [E3.out])), E3.out, F3.out] at h
          exact h)
        have HB := Lib.hid hB
        have hkn3 : ¬ (k : Int) < (k : Int) := by omega
        clear hB hB0 HC
        go_wp2_with fail
        go_meet
        exact ⟨H2, HB.out⟩
  case rest =>
  obtain ⟨HC1, hB1⟩ := hcut
  clear H2
  obtain ⟨-, -, z3, z4, -, -, z7, z8, hBz⟩ := HRd.out _ hB1
  by_cases hnm : ((n3 : Int) != (m3 : Int)) = true
  · have H0 : Hid (res = cmpI ((n3 : Int) - (m3 : Int)) 0) := Lib.hid (by
      have h := HC1.out
      unfold orI at h
      rw [if_neg (cmpI_ne (by simpa using hnm))] at h
      rw [cmpI_diff]; exact h)
    have HB := Lib.hid hBz
    clear hB1 hBz
    go_wp2_with (go_at_call 186; refine (HSg.out _ _).mono ?_; rintro e w2 ⟨rfl, rfl⟩)
    go_ret
    exact ⟨by rw [H0.out]; rfl, HB.out⟩
  have hnm2 : ((n3 : Int) != (m3 : Int)) = false := by simpa using hnm
  have H0 : Hid (res = orderM a.raw b.raw) := Lib.hid (by
    have h := HC1.out
    have e : (n3 : Int) = (m3 : Int) := by simpa using hnm2
    rw [e, cmpI_self] at h; exact h)
  have hcv := HCV.out _ hBz
  have hcw := HCW.out _ hBz
  have HO := Lib.hid (fun W => ref_order ⟨a.raw.toArray⟩ ⟨b.raw.toArray⟩ W)
  have HB := Lib.hid hBz
  clear hnm hB1 hBz HC1
  go_wp2_with (go_at_call 188; refine (HO.out _).mono ?_; rintro e w2 ⟨rfl, rfl⟩)
  go_ret
  exact ⟨by rw [H0.out]; rfl, HB.out⟩
end Go.Proofs.YtckammgnmgkieaaGreat

namespace Go.Proofs.YtckammgnmgkieaaGreat
set_option maxRecDepth 20000
open Go.RowKit Go.Shelf
set_option maxRecDepth 20000
set_option linter.unusedVariables false
set_option linter.unusedSimpArgs false

theorem dt_shapeV {W : World} {v : Value} {d : Dat} (h : DatAt W v d) : ∃ x3 x4 x5 x6 : Option Addr × Nat × Nat, v = .agg #[.int .i64 d.ty, .slice x3.1 x3.2.1 x3.2.2, .slice x4.1 x4.2.1 x4.2.2, .slice x5.1 x5.2.1 x5.2.2, .slice x6.1 x6.2.1 x6.2.2] := by
  obtain ⟨un, uu, ut, ur, e, h2⟩ := id h
  obtain ⟨x3, x4, x5, x6, e'⟩ := dt_shape (cs := [.int .i64 d.ty, un, uu, ut, ur]) (by subst e; exact h)
  refine ⟨x3, x4, x5, x6, ?_⟩
  rw [e, ← e']
set_option maxRecDepth 100000 in
set_option maxHeartbeats 8000000 in
theorem ref_SameData (v u : Value) (a b : Dat) (w : World) (hA : DatAt w v a) (hU : DatAt w u b) (hk : DatOK a) (hk2 : DatOK b) :
    Calls Tryz.prog 142 #[v, u] w fun e w' => e = .returned (.bool (compareD a b == 0)) ∧ Below w.heap.size w w' := by
  obtain ⟨x3, x4, x5, x6, e0⟩ := dt_shapeV hA
  obtain ⟨y3, y4, y5, y6, e1⟩ := dt_shapeV hU
  obtain ⟨p3, q3, r3⟩ := x3; obtain ⟨p4, q4, r4⟩ := x4; obtain ⟨p5, q5, r5⟩ := x5; obtain ⟨p6, q6, r6⟩ := x6
  obtain ⟨s3, t3, z3⟩ := y3; obtain ⟨s4, t4, z4⟩ := y4; obtain ⟨s5, t5, z5⟩ := y5; obtain ⟨s6, t6, z6⟩ := y6
  subst e0 e1
  have hb : Below w.heap.size w ((w.alloc (.cells #[.int .i64 a.ty, .slice p3 q3 r3, .slice p4 q4 r4, .slice p5 q5 r5, .slice p6 q6 r6] 107)).alloc (.cells #[.int .i64 b.ty, .slice s3 t3 z3, .slice s4 t4 z4, .slice s5 t5 z5, .slice s6 t6 z6] 107)) := ((Below.refl _ w).alloc (Nat.le_refl _) _).alloc (by simp) _
  have hc := ref_CompareData _ _ a b _ (hA.below hb) (hU.below hb) hk hk2
  have HB := Lib.hid hb
  clear hA hU hk hk2 hb
  generalize compareD a b = q at *
  generalize a.ty = ta at *
  generalize b.ty = tb at *
  go_enter Tryz.func142, Tryz.ntmps142
  go_wp2_with fail
  refine hc.mono ?_
  rintro e w1 ⟨rfl, hb1⟩
  go_wp2
  go_ret
  exact ⟨rfl, HB.out.trans (hb1.mono HB.out.size)⟩
set_option maxRecDepth 100000 in
set_option maxHeartbeats 8000000 in
theorem ref_SameDatas (v u : Value) (css ess : List (List Value)) (l m : List Dat) (w : World) (hA : SlK w v css) (hR : Dts w css l) (hU : SlK w u ess) (hS : Dts w ess m) (hOK : ∀ r ∈ l, DatOK r) (hOK2 : ∀ r ∈ m, DatOK r) (hl : css.length ≤ 1048576) (hl2 : ess.length ≤ 1048576) :
    Calls Tryz.prog 99 #[v, u] w fun e w' => e = .returned (.bool (sameDsM l m)) ∧ Below w.heap.size w w' := by
  obtain ⟨a, c, rfl, hc1, hc2, hx⟩ := id hA
  obtain ⟨b, d, rfl, hd1, hd2, hy⟩ := id hU
  obtain ⟨n, hn⟩ : ∃ n, css.length = n := ⟨_, rfl⟩
  obtain ⟨n2, hn2⟩ : ∃ n, ess.length = n := ⟨_, rfl⟩
  have HSA := Lib.hid hA; have HSU := Lib.hid hU; have HR := Lib.hid hR; have HS := Lib.hid hS; have HOK := Lib.hid hOK; have HOK2 := Lib.hid hOK2
  rw [hn] at HSA hc1 hl ⊢
  rw [hn2] at HSU hd1 hl2 ⊢
  have HN := Lib.hid hn; have HN2 := Lib.hid hn2
  have HLA := Lib.hid (show l.length = n by rw [← hn]; exact hR.1.symm)
  have HLB := Lib.hid (show m.length = n2 by rw [← hn2]; exact hS.1.symm)
  obtain ⟨res, hres⟩ : ∃ r, sameDsM l m = r := ⟨_, rfl⟩
  rw [hres]
  have HRES := Lib.hid hres
  clear hA hU hR hS hOK hOK2 hc2 hx hd2 hy hn hn2 hres
  by_cases hnn : n = n2
  · subst hnn
    have HB0 : Hid (Below w.heap.size w w) := Lib.hid (Below.refl _ _)
    go_enter Tryz.func99, Tryz.ntmps99
    go_wp2
    go_loopw [5] (fun vi wr => ∃ (k : Nat), vi = .int .i64 k ∧ k ≤ n ∧ Hid (res = sameDsM (l.drop k) (m.drop k)) ∧ Hid (Below w.heap.size w wr)) (fun vi _ => n - (intOf vi).toNat)
    case atStart => exact ⟨0, rfl, Nat.zero_le _, Lib.hid HRES.out.symm, HB0⟩
    case round =>
      obtain ⟨k, rfl, hk, HC, HB⟩ := hrel
      by_cases hlt : k < n
      · have hltz : (k : Int) < (n : Int) := by omega
        have hk1 : k < css.length := by have := HN.out; omega
        have hk2 : k < ess.length := by have := HN2.out; omega
        have hk3 : k < l.length := by have := HLA.out; omega
        have hk4 : k < m.length := by have := HLB.out; omega
        obtain ⟨ga, oa, rfl, hga, hea⟩ := HSA.out.elem5 HR.out.ck (by omega)
        obtain ⟨gb, ob, rfl, hgb, heb⟩ := HSU.out.elem5 HS.out.ck (by omega)
        have h0 := (HR.out.2 k hk1 hk3).2
        have h1 := (HS.out.2 k hk2 hk4).2
        have hok := HOK.out _ (List.getElem_mem hk3)
        have hok2 := HOK2.out _ (List.getElem_mem hk4)
        have hst := sameDsM_step k hk3 hk4
        obtain ⟨ra, hra⟩ : ∃ r, l[k]'hk3 = r := ⟨_, rfl⟩
        obtain ⟨rb, hrb⟩ : ∃ r, m[k]'hk4 = r := ⟨_, rfl⟩
        rw [hra] at h0 hok hst
        rw [hrb] at h1 hok2 hst
        clear hra hrb
        have htw := fun W (hb : Below w.heap.size w W) => ref_SameData _ _ _ _ W (h0.below hb) (h1.below hb) hok hok2
        obtain ⟨⟨p3, q3, r3⟩, ⟨p4, q4, r4⟩, ⟨p5, q5, r5⟩, ⟨p6, q6, r6⟩, e0⟩ := dt_shape h0
        obtain ⟨⟨p3', q3', r3'⟩, ⟨p4', q4', r4'⟩, ⟨p5', q5', r5'⟩, ⟨p6', q6', r6'⟩, e1⟩ := dt_shape h1
        simp only at e0 e1
        have f0 := fun p : WIn (fun W => Below w.heap.size w W) => hea k hk1 _ _ _ _ _ e0 p.w p.ok
        have f1 := fun p : WIn (fun W => Below w.heap.size w W) => heb k hk2 _ _ _ _ _ e1 p.w p.ok
        have g0 := fun p => (f0 p).1; have g1 := fun p => (f0 p).2.1; have g2 := fun p => (f0 p).2.2.1; have g3 := fun p => (f0 p).2.2.2.1; have g4 := fun p => (f0 p).2.2.2.2
        have j0 := fun p => (f1 p).1; have j1 := fun p => (f1 p).2.1; have j2 := fun p => (f1 p).2.2.1; have j3 := fun p => (f1 p).2.2.2.1; have j4 := fun p => (f1 p).2.2.2.2
        rw [e0, e1] at htw
        obtain ⟨tw, htw'⟩ : ∃ t, (compareD ra rb == 0) = t := ⟨_, rfl⟩
        rw [htw'] at htw hst
        have hcg := fun p : WIn (fun W => Below w.heap.size w W) => Calls.cls (C := fun W => Below w.heap.size w W) ((htw p.w p.ok).mono fun _ _ ⟨hq, hb⟩ => ⟨hq, p.ok.trans (hb.mono p.ok.size)⟩)
        have HC2 : Hid (res = (tw && sameDsM (l.drop (k + 1)) (m.drop (k + 1)))) := Lib.hid (by rw [HC.out, hst])
        have hne : Nonempty (WIn (fun W => Below w.heap.size w W)) := ⟨⟨_, HB.out⟩⟩
        have hbd : Below w.heap.size w wr.drew := HB.out.trans ⟨rfl, rfl, rfl, Nat.le_refl _, fun _ _ => rfl⟩
        clear h0 h1 hok hok2 htw hst e0 e1 htw' hea heb hk1 hk2 hk3 hk4 f0 f1 HC
        cases tw
        · have HE : Hid (res = false) := Lib.hid (by rw [HC2.out]; rfl)
          clear HC2
          go_wp2_with fail
          refine wp_region_cls (fun W => Below w.heap.size w W) follows_mixed (by kernel_rfl) hbd ?_
          repeat (go_big_quiet_step (exact hcg _))
          refine wpQuiet_nil ?_
          rintro _ ⟨p, rfl⟩
          have HB2 := Lib.hid p.ok
          clear g0 g1 g2 g3 g4 j0 j1 j2 j3 j4 hcg
          go_wp2
          go_ret
          exact ⟨by rw [HE.out]; rfl, HB2.out⟩
        · have HE : Hid (res = sameDsM (l.drop (k + 1)) (m.drop (k + 1))) := Lib.hid (by rw [HC2.out]; rfl)
          clear HC2
          go_wp2_with fail
          refine wp_region_cls (fun W => Below w.heap.size w W) follows_mixed (by kernel_rfl) hbd ?_
          repeat (go_big_quiet_step (exact hcg _))
          refine wpQuiet_nil ?_
          rintro _ ⟨p, rfl⟩
          have HB2 := Lib.hid p.ok
          clear g0 g1 g2 g3 g4 j0 j1 j2 j3 j4 hcg
          go_wp2
          go_roundw
          case measure => simp [intOf]; omega
          case rel => exact ⟨k + 1, by go_num, by omega, HE, HB2⟩
      · obtain rfl : k = n := by omega
        have HE : Hid (res = true) := Lib.hid (by
          rw [HC.out, List.drop_of_length_le (by have := HLA.out; omega), List.drop_of_length_le (by have := HLB.out; omega)]; rfl)
        clear HC
        go_wp2
        go_ret
        exact ⟨by rw [HE.out]; rfl, HB.out⟩
  · have hz : ¬ (n : Int) = (n2 : Int) := by omega
    have hzb : ((n : Int) != (n2 : Int)) = true := by simpa using hz
    have HE : Hid (res = false) := Lib.hid (by rw [← HRES.out]; exact sameDsM_len _ _ (by have := HLA.out; have := HLB.out; omega))
    go_enter Tryz.func99, Tryz.ntmps99
    go_wp2
    go_ret
    exact ⟨by rw [HE.out]; rfl, Below.refl _ _⟩

end Go.Proofs.YtckammgnmgkieaaGreat

namespace Go.Proofs.YtckammgnmgkieaaGreat
open Go.RowKit Go.Shelf
set_option maxRecDepth 20000
set_option linter.unusedVariables false
set_option linter.unusedSimpArgs false
theorem glr_k2 {css : List (List Value)} {l : List (Nm × List Dat)} {W : World} (hl : css.length = l.length) (h : ∀ j (h1 : j < css.length) (h2 : j < l.length), ∃ x0 x1 : Option Addr × Nat × Nat, css[j] = [slW x0, slW x1] ∧ NmAt W (slW x0) l[j].1 ∧ DtsR W (slW x1) l[j].2) : ∀ cs ∈ css, cs.length = 2 := fun cs hc => by
  obtain ⟨i, hi, rfl⟩ := List.mem_iff_getElem.1 hc
  obtain ⟨x0, x1, e, _⟩ := h i hi (by omega)
  rw [e]; rfl
theorem dtsR_same {W : World} {v u : Value} {l m : List Dat} (hA : DtsR W v l) (hU : DtsR W u m) (hOK : ∀ r ∈ l, DatOK r) (hOK2 : ∀ r ∈ m, DatOK r) (hl : l.length ≤ 1048576) (hl2 : m.length ≤ 1048576) :
    Calls Tryz.prog 99 #[v, u] W fun e w' => e = .returned (.bool (sameDsM l m)) ∧ Below W.heap.size W w' := by
  obtain ⟨css, h1, h2⟩ := hA
  obtain ⟨ess, h3, h4⟩ := hU
  exact ref_SameDatas v u css ess l m W h1 h2 h3 h4 hOK hOK2 (by rw [h2.1]; exact hl) (by rw [h4.1]; exact hl2)
set_option maxRecDepth 100000 in
set_option maxHeartbeats 16000000 in
theorem ref_SameResult (cs ds : List Value) (r s : Lk) (w : World) (hA : LkAt w cs r) (hB : LkAt w ds s) (hr : LkOK r) (hs : LkOK s) :
    Calls Tryz.prog 51 #[.agg cs.toArray, .agg ds.toArray] w fun e w' => e = .returned (.bool (sameLk r s)) ∧ Below w.heap.size w w' := by
  obtain ⟨ka, da, na, wa, l⟩ := r
  obtain ⟨kb, db, nb, wb, m⟩ := s
  obtain ⟨⟨a1, b1, c1⟩, ⟨a2, b2, c2⟩, ⟨a4, b4, c4⟩, rfl, h1, h2, h3⟩ := hA
  obtain ⟨⟨d1, e1, f1⟩, ⟨d2, e2, f2⟩, ⟨d4, e4, f4⟩, rfl, k1, k2, k3⟩ := hB
  have HN := Lib.hid (fun (W : World) (hb : Below w.heap.size w W) => kn_RSame (slW (a2, b2, c2)) (slW (d2, e2, f2)) na nb _ rfl W (h2.below hb) (k2.below hb) hr.2.2.1 hs.2.2.1)
  have HD := Lib.hid (fun (W : World) (hb : Below w.heap.size w W) => dtsR_same (l := da) (m := db) (h1.below hb) (k1.below hb) hr.1 hs.1 hr.2.1 hs.2.1)
  obtain ⟨gs, hA, hla, hR⟩ := h3
  obtain ⟨qs, hU, hlb, hS⟩ := k3
  have hla : gs.length = l.length := hla
  have hlb : qs.length = m.length := hlb
  have hR : ∀ j (h1 : j < gs.length) (h2 : j < l.length), ∃ x0 x1 : Option Addr × Nat × Nat, gs[j] = [slW x0, slW x1] ∧ NmAt w (slW x0) l[j].1 ∧ DtsR w (slW x1) l[j].2 := hR
  have hS : ∀ j (h1 : j < qs.length) (h2 : j < m.length), ∃ x0 x1 : Option Addr × Nat × Nat, qs[j] = [slW x0, slW x1] ∧ NmAt w (slW x0) m[j].1 ∧ DtsR w (slW x1) m[j].2 := hS
  have HK2 := Lib.hid (glr_k2 hla hR)
  have HK3 := Lib.hid (glr_k2 hlb hS)
  have HL := Lib.hid (show sameLk ⟨ka, da, na, wa, l⟩ ⟨kb, db, nb, wb, m⟩ = (decide (ka = kb) && decide (wa = wb) && sameN na nb && sameDsM da db && sameG l m) from rfl)
  have HOK : Hid (∀ g ∈ l, GlOK g) := Lib.hid hr.2.2.2.1
  have HOK2 : Hid (∀ g ∈ m, GlOK g) := Lib.hid hs.2.2.2.1
  have hgl : l.length ≤ 1048576 := hr.2.2.2.2
  have hgl2 : m.length ≤ 1048576 := hs.2.2.2.2
  generalize sameLk ⟨ka, da, na, wa, l⟩ ⟨kb, db, nb, wb, m⟩ = res at *
  clear h1 h2 k1 k2 hr hs
  unfold slW at HN HD hA hU ⊢
  simp only at HN HD hA hU ⊢
  generalize sameN na nb = tn at *
  generalize sameDsM da db = td at *
  obtain rfl : b4 = gs.length := by
    obtain ⟨_, _, e, -⟩ := id hA
    injection e
  obtain rfl : e4 = qs.length := by
    obtain ⟨_, _, e, -⟩ := id hU
    injection e
  obtain ⟨n, hn⟩ : ∃ n, gs.length = n := ⟨_, rfl⟩
  obtain ⟨n2, hn2⟩ : ∃ n, qs.length = n := ⟨_, rfl⟩
  have HSA := Lib.hid hA; have HSU := Lib.hid hU; have HR := Lib.hid hR; have HS := Lib.hid hS
  have hc1 : n ≤ c4 := by
    obtain ⟨_, _, e, h, -⟩ := id hA
    injection e with _ _ e
    omega
  have hd1 : n2 ≤ f4 := by
    obtain ⟨_, _, e, h, -⟩ := id hU
    injection e with _ _ e
    omega
  rw [hn] at HSA ⊢
  rw [hn2] at HSU ⊢
  have HN1 := Lib.hid hn; have HN2 := Lib.hid hn2
  have HLA := Lib.hid (show l.length = n by rw [← hn]; exact hla.symm)
  have HLB := Lib.hid (show m.length = n2 by rw [← hn2]; exact hlb.symm)
  have hl : n ≤ 1048576 := by have := HLA.out; omega
  have hl2 : n2 ≤ 1048576 := by have := HLB.out; omega
  clear hA hU hR hS hn hn2 hla hlb hgl hgl2
  obtain ⟨W0, hW0⟩ : ∃ W, (w.alloc (.cells #[.int .i64 ka, .slice a1 b1 c1, .slice a2 b2 c2, .bool wa, .slice a4 n c4] 88)).alloc (.cells #[.int .i64 kb, .slice d1 e1 f1, .slice d2 e2 f2, .bool wb, .slice d4 n2 f4] 88) = W := ⟨_, rfl⟩
  have hB0 : Below w.heap.size w W0 := by rw [← hW0]; exact ((Below.refl w.heap.size w).alloc (Nat.le_refl _) _).alloc (by simp) _
  have x0 : W0.heap[w.heap.size]? = some (.cells #[.int .i64 ka, .slice a1 b1 c1, .slice a2 b2 c2, .bool wa, .slice a4 n c4] 88) := by
    rw [← hW0]; exact (Below.heap_alloc _ _ _ (by simp)).trans (knew w _)
  have x1 : W0.heap[w.heap.size + 1]? = some (.cells #[.int .i64 kb, .slice d1 e1 f1, .slice d2 e2 f2, .bool wb, .slice d4 n2 f4] 88) := by
    have h := knew (w.alloc (.cells #[.int .i64 ka, .slice a1 b1 c1, .slice a2 b2 c2, .bool wa, .slice a4 n c4] 88)) (.cells #[.int .i64 kb, .slice d1 e1 f1, .slice d2 e2 f2, .bool wb, .slice d4 n2 f4] 88)
    rw [World.size_alloc] at h
    rw [← hW0]; exact h
  have HB0 := Lib.hid hB0; have X0 := Lib.hid x0; have X1 := Lib.hid x1
  have y0 := kcell x0 0 _ rfl; have y1 := kcell x0 1 _ rfl; have y2 := kcell x0 2 _ rfl; have y3 := kcell x0 3 _ rfl; have y4 := kcell x0 4 _ rfl
  have z0 := kcell x1 0 _ rfl; have z1 := kcell x1 1 _ rfl; have z2 := kcell x1 2 _ rfl; have z3 := kcell x1 3 _ rfl; have z4 := kcell x1 4 _ rfl
  clear hB0 x0 x1
  by_cases hk : ka = kb
  rotate_left
  · have hkb : (ka != kb) = true := by simpa using hk
    have HL2 : Hid (res = false) := Lib.hid (by rw [HL.out]; simp [hk])
    clear HL HN HD hk
    go_enter Tryz.func51, Tryz.ntmps51
    go_wp2
    clear hW0
    go_ret
    exact ⟨by first | (rw [HL2.out]; done) | (rw [HL2.out]; rfl) | simp [HL2.out], HB0.out⟩
  subst hk
  by_cases hw : wa = wb
  rotate_left
  · have hwb : (!(wa == wb)) = true := by simpa using hw
    have HL2 : Hid (res = false) := Lib.hid (by rw [HL.out]; simp [hw])
    clear HL HN HD hw
    go_enter Tryz.func51, Tryz.ntmps51
    go_wp2
    clear hW0
    go_ret
    exact ⟨by first | (rw [HL2.out]; done) | (rw [HL2.out]; rfl) | simp [HL2.out], HB0.out⟩
  subst hw
  have hn := HN.out _ HB0.out
  have HL2 : Hid (res = (tn && td && sameG l m)) := Lib.hid (by rw [HL.out]; simp)
  have hwx : (!(wa == wa)) = false := by simp
  clear HL HN
  go_enter Tryz.func51, Tryz.ntmps51
  go_wp2_with fail
  clear hW0
  refine hn.mono ?_
  rintro e w1 ⟨rfl, hb1⟩
  have HB1 := Lib.hid (HB0.out.trans (hb1.mono HB0.out.size))
  have X2 := Lib.hid ((hb1.block _ (kblock_lt X0.out)).trans X0.out)
  have X3 := Lib.hid ((hb1.block _ (kblock_lt X1.out)).trans X1.out)
  clear y0 y1 y2 y3 y4 z0 z1 z2 z3 z4
  have y1 := kcell X2.out 1 _ rfl; have y4 := kcell X2.out 4 _ rfl; have z1 := kcell X3.out 1 _ rfl; have z4 := kcell X3.out 4 _ rfl
  have hd := HD.out _ HB1.out
  clear hn hb1 X0 X1 HB0 HD
  cases tn with
  | false =>
    clear hd
    have HL3 : Hid (res = false) := Lib.hid (by rw [HL2.out]; rfl)
    go_wp2
    go_ret
    exact ⟨by first | (rw [HL3.out]; done) | (rw [HL3.out]; rfl) | simp [HL3.out], HB1.out⟩
  | true =>
    go_wp2_with fail
    refine hd.mono ?_
    rintro e w2 ⟨rfl, hb2⟩
    have HB2 := Lib.hid (HB1.out.trans (hb2.mono HB1.out.size))
    have X4 := Lib.hid ((hb2.block _ (kblock_lt X2.out)).trans X2.out)
    have X5 := Lib.hid ((hb2.block _ (kblock_lt X3.out)).trans X3.out)
    clear y1 y4 z1 z4
    have y4 := kcell X4.out 4 _ rfl; have z4 := kcell X5.out 4 _ rfl
    clear hd hb2 X2 X3 HB1
    cases td with
    | false =>
      have HL3 : Hid (res = false) := Lib.hid (by rw [HL2.out]; rfl)
      go_wp2
      go_ret
      exact ⟨by first | (rw [HL3.out]; done) | (rw [HL3.out]; rfl) | simp [HL3.out], HB2.out⟩
    | true =>
      have HL3 : Hid (res = sameG l m) := Lib.hid (by rw [HL2.out]; simp)
      clear HL2
      by_cases hnn : n = n2
      rotate_left
      · have hz : ((n : Int) != (n2 : Int)) = true := by simpa using (show ¬ (n : Int) = (n2 : Int) by omega)
        have HE : Hid (res = false) := Lib.hid (by rw [HL3.out]; exact sameG_len _ _ (by have := HLA.out; have := HLB.out; omega))
        go_wp2
        go_ret
        exact ⟨by first | (rw [HE.out]; done) | (rw [HE.out]; rfl) | simp [HE.out], HB2.out⟩
      subst hnn
      have hnx : ((n : Int) != (n : Int)) = false := by simp
      go_wp2
      clear y4 z4
      go_loopw [5] (fun vi wr => ∃ (k : Nat), vi = .int .i64 k ∧ k ≤ n ∧ Hid (res = sameG (l.drop k) (m.drop k)) ∧ Hid (Below w2.heap.size w2 wr)) (fun vi _ => n - (intOf vi).toNat)
      case atStart => exact ⟨0, rfl, Nat.zero_le _, Lib.hid HL3.out, Lib.hid (Below.refl _ _)⟩
      case round =>
        obtain ⟨k, rfl, hk, HC, HB⟩ := hrel
        have HW := Lib.hid (HB2.out.trans (HB.out.mono HB2.out.size))
        by_cases hlt : k < n
        · have hltz : (k : Int) < (n : Int) := by omega
          have hk1 : k < gs.length := by have := HN1.out; omega
          have hk2 : k < qs.length := by have := HN2.out; omega
          have hk3 : k < l.length := by have := HLA.out; omega
          have hk4 : k < m.length := by have := HLB.out; omega
          obtain ⟨ga, oa, rfl, hga, hea⟩ := HSA.out.elem2 HK2.out (by omega)
          obtain ⟨gb, ob, rfl, hgb, heb⟩ := HSU.out.elem2 HK3.out (by omega)
          obtain ⟨⟨p3, q3, r3⟩, ⟨p4, q4, r4⟩, e0, h0, h0'⟩ := HR.out k hk1 hk3
          obtain ⟨⟨p5, q5, r5⟩, ⟨p6, q6, r6⟩, e1, h1, h1'⟩ := HS.out k hk2 hk4
          have hok := HOK.out _ (List.getElem_mem hk3)
          have hok2 := HOK2.out _ (List.getElem_mem hk4)
          have hst := sameG_step k hk3 hk4
          obtain ⟨ra, hra⟩ : ∃ r, l[k]'hk3 = r := ⟨_, rfl⟩
          obtain ⟨rb, hrb⟩ : ∃ r, m[k]'hk4 = r := ⟨_, rfl⟩
          rw [hra] at h0 h0' hok hst
          rw [hrb] at h1 h1' hok2 hst
          clear hra hrb
          unfold slW at e0 e1 h0 h0' h1 h1'
          simp only at e0 e1 h0 h0' h1 h1'
          have b6 := fun p : WIn (fun W => Below wr.heap.size wr W) => HW.out.trans (p.ok.mono HW.out.size)
          have f0 := fun p : WIn (fun W => Below wr.heap.size wr W) => hea k hk1 _ _ e0 p.w (b6 p)
          have f1 := fun p : WIn (fun W => Below wr.heap.size wr W) => heb k hk2 _ _ e1 p.w (b6 p)
          have g0 := fun p => (f0 p).1; have g1 := fun p => (f0 p).2
          have g2 := fun p => (f1 p).1; have g3 := fun p => (f1 p).2
          have g4 := fun p : WIn (fun W => Below wr.heap.size wr W) => kcell (((HB.out.trans (p.ok.mono HB.out.size)).block _ (kblock_lt X4.out)).trans X4.out) 4 _ rfl
          have g5 := fun p : WIn (fun W => Below wr.heap.size wr W) => kcell (((HB.out.trans (p.ok.mono HB.out.size)).block _ (kblock_lt X5.out)).trans X5.out) 4 _ rfl
          obtain ⟨t1, ht1⟩ : ∃ t, sameN ra.1 rb.1 = t := ⟨_, rfl⟩
          obtain ⟨t2, ht2⟩ : ∃ t, sameDsM ra.2 rb.2 = t := ⟨_, rfl⟩
          rw [ht1, ht2] at hst
          have hc1 := fun p : WIn (fun W => Below wr.heap.size wr W) => Calls.cls (C := fun W => Below wr.heap.size wr W) ((kn_RSame (.slice p3 q3 r3) (.slice p5 q5 r5) ra.1 rb.1 t1 ht1 p.w (h0.below (b6 p)) (h1.below (b6 p)) hok.1 hok2.1).mono fun _ _ ⟨hq, hb⟩ => ⟨hq, p.ok.trans (hb.mono p.ok.size)⟩)
          have hc2 := fun p : WIn (fun W => Below wr.heap.size wr W) => Calls.cls (C := fun W => Below wr.heap.size wr W) ((dtsR_same (h0'.below (b6 p)) (h1'.below (b6 p)) hok.2.1 hok2.2.1 hok.2.2 hok2.2.2).mono fun _ _ ⟨hq, hb⟩ => ⟨hq, p.ok.trans (hb.mono p.ok.size)⟩)
          rw [ht2] at hc2
          have HC2 : Hid (res = (t1 && t2 && sameG (l.drop (k + 1)) (m.drop (k + 1)))) := Lib.hid (by rw [HC.out, hst])
          have hne : Nonempty (WIn (fun W => Below wr.heap.size wr W)) := ⟨⟨wr, Below.refl _ _⟩⟩
          have hcl : Below wr.heap.size wr wr.drew := ⟨rfl, rfl, rfl, Nat.le_refl _, fun _ _ => rfl⟩
          have y4 := kcell ((HB.out.block _ (kblock_lt X4.out)).trans X4.out) 4 _ rfl
          clear h0 h1 h0' h1' hok hok2 hst e0 e1 hea heb hk1 hk2 hk3 hk4 f0 f1 HC b6 ht1 ht2
          cases t1
          · have HE : Hid (res = false) := Lib.hid (by rw [HC2.out]; rfl)
            clear HC2 hc2
            go_wp2_with fail
            refine wp_region_cls (fun W => Below wr.heap.size wr W) follows_mixed (by kernel_rfl) hcl ?_
            repeat (go_big_quiet_step (exact hc1 _))
            refine wpQuiet_nil ?_
            rintro _ ⟨p, rfl⟩
            have HB3 := Lib.hid (HW.out.trans (p.ok.mono HW.out.size))
            clear g0 g1 g2 g3 g4 g5 hc1 hcl hne
            go_wp2
            go_ret
            exact ⟨by first | (rw [HE.out]; done) | (rw [HE.out]; rfl) | simp [HE.out], HB3.out⟩
          · cases t2
            · have HE : Hid (res = false) := Lib.hid (by rw [HC2.out]; rfl)
              clear HC2
              go_wp2_with fail
              refine wp_region_cls (fun W => Below wr.heap.size wr W) follows_mixed (by kernel_rfl) hcl ?_
              repeat (go_big_quiet_step (first | with_reducible exact hc1 _ | with_reducible exact hc2 _))
              refine wpQuiet_nil ?_
              rintro _ ⟨p, rfl⟩
              have HB3 := Lib.hid (HW.out.trans (p.ok.mono HW.out.size))
              clear g0 g1 g2 g3 g4 g5 hc1 hc2 hcl hne
              go_wp2
              go_ret
              exact ⟨by first | (rw [HE.out]; done) | (rw [HE.out]; rfl) | simp [HE.out], HB3.out⟩
            · have HE : Hid (res = sameG (l.drop (k + 1)) (m.drop (k + 1))) := Lib.hid (by rw [HC2.out]; rfl)
              clear HC2
              go_wp2_with fail
              refine wp_region_cls (fun W => Below wr.heap.size wr W) follows_mixed (by kernel_rfl) hcl ?_
              repeat (go_big_quiet_step (first | with_reducible exact hc1 _ | with_reducible exact hc2 _))
              refine wpQuiet_nil ?_
              rintro _ ⟨p, rfl⟩
              have HB3 := Lib.hid (HB.out.trans (p.ok.mono HB.out.size))
              clear g0 g1 g2 g3 g4 g5 hc1 hc2 hcl hne
              go_wp2
              go_roundw
              case measure => simp [intOf]; omega
              case rel => exact ⟨k + 1, by go_num, by omega, HE, HB3⟩
        · obtain rfl : k = n := by omega
          have HE : Hid (res = true) := Lib.hid (by
            rw [HC.out, List.drop_of_length_le (by have := HLA.out; omega), List.drop_of_length_le (by have := HLB.out; omega)]; rfl)
          have y4 := kcell ((HB.out.block _ (kblock_lt X4.out)).trans X4.out) 4 _ rfl
          clear HC
          go_wp2
          go_ret
          exact ⟨by first | (rw [HE.out]; done) | (rw [HE.out]; rfl) | simp [HE.out], HW.out⟩
end Go.Proofs.YtckammgnmgkieaaGreat

namespace Go.Proofs.YtckammgnmgkieaaGreat
open Go.RowKit Go.Shelf
set_option maxRecDepth 20000
set_option linter.unusedVariables false
set_option linter.unusedSimpArgs false
def OfD (w0 W : World) (base : Nat) (cs : List Value) (d : Dat) : Prop :=
  ∃ vn vu vt vr, ∃ ss : List SlV, cs = [.int .i64 d.ty, vn, vu, vt, vr] ∧ OwnG 23 slEnc W base vn ss ∧ ss.length = d.names.length ∧
    (∀ j (h1 : j < ss.length) (h2 : j < d.names.length), NmAt w0 (slEnc ss[j]) d.names[j]) ∧ SlAt w0 vu (d.nums.map u32V) ∧ NmAt w0 vt d.texts ∧ SlAt w0 vr (d.raw.map bv)
theorem OfD.datAt {w0 W : World} {base : Nat} {cs : List Value} {d : Dat} (h : OfD w0 W base cs d) (hb : Below w0.heap.size w0 W) : cs.length = 5 ∧ DatAt W (.agg cs.toArray) d := by
  obtain ⟨vn, vu, vt, vr, ss, rfl, h2, h3, h4, h5, h6, h7⟩ := h
  exact ⟨rfl, _, _, _, _, rfl, ⟨ss.map slEnc, SlAt.of_own h2, by rw [List.length_map]; exact h3, fun j hj => by rw [List.getElem_map]; exact (h4 j (by simpa using hj) (by rw [List.length_map] at hj; omega)).below hb⟩, h5.below hb, h6.below hb, h7.below hb⟩
theorem OfD.below {w0 W W' : World} {base : Nat} {cs : List Value} {d : Dat} (h : OfD w0 W base cs d) (hb : Below W.heap.size W W') : OfD w0 W' base cs d := by
  obtain ⟨vn, vu, vt, vr, ss, e, h2, h3⟩ := h
  exact ⟨vn, vu, vt, vr, ss, e, h2.below hb, h3⟩
theorem OfD.weaken {w0 W : World} {base b2 : Nat} {cs : List Value} {d : Dat} (h : OfD w0 W base cs d) (hb : b2 ≤ base) : OfD w0 W b2 cs d := by
  obtain ⟨vn, vu, vt, vr, ss, e, h2, h3⟩ := h
  exact ⟨vn, vu, vt, vr, ss, e, h2.weaken hb, h3⟩
theorem OfD.grown {w0 W W' : World} {base base' k : Nat} {T : TypeId} {cs : List Value} {d : Dat} {v' : Value} {yss : List (List Value)} (h : OfD w0 W base cs d) (h' : OwnC k T W base' v' yss) (hT : 23 ≠ T) (hg : W.grownBy W' v'.ownBlock) : OfD w0 W' base cs d := by
  obtain ⟨vn, vu, vt, vr, ss, e, h2, h3⟩ := h
  exact ⟨vn, vu, vt, vr, ss, e, h2.kept_c h' hT hg, h3⟩
def OfDs (w0 W : World) (base : Nat) (csd : List (List Value)) (l : List Dat) : Prop := csd.length = l.length ∧ ∀ j (h1 : j < csd.length) (h2 : j < l.length), OfD w0 W base csd[j] l[j]
theorem OfDs.below {w0 W W' : World} {base : Nat} {csd : List (List Value)} {l : List Dat} (h : OfDs w0 W base csd l) (hb : Below W.heap.size W W') : OfDs w0 W' base csd l := ⟨h.1, fun j a b => (h.2 j a b).below hb⟩
theorem OfDs.dts {w0 W : World} {base : Nat} {csd : List (List Value)} {l : List Dat} (h : OfDs w0 W base csd l) (hb : Below w0.heap.size w0 W) : Dts W csd l := ⟨h.1, fun j a b => (h.2 j a b).datAt hb⟩
theorem elem_refD : ElemK 5 107 39 104 := ⟨Tryz.underlying39, _, _, rfl, rfl, rfl, rfl, rfl⟩
theorem OfDs.snoc {w0 W W' : World} {base : Nat} {v : Value} {csd : List (List Value)} {l : List Dat} {cs : List Value} {d : Dat} (h : OfDs w0 W base csd l) (ho : OwnC 5 107 W base v csd) (hc : OfD w0 W base cs d) (hg : W.grownBy W' v.ownBlock) : OfDs w0 W' base (csd ++ [cs]) (l ++ [d]) := by
  refine ⟨by simp [h.1], fun j a b => ?_⟩
  by_cases hj : j < csd.length
  · rw [List.getElem_append_left hj, List.getElem_append_left (by have := h.1; omega)]
    exact (h.2 j hj (by have := h.1; omega)).grown ho (by decide) hg
  · obtain rfl : j = csd.length := by simp at a; omega
    have e1 : (csd ++ [cs])[csd.length]'a = cs := by simp
    have e2 : (l ++ [d])[csd.length]'b = d := by simp [h.1]
    rw [e1, e2]
    exact hc.grown ho (by decide) hg
def DtsArg (W : World) (css : List (List Value)) (l : List Dat) : Prop := css.length = l.length ∧ ∀ i (h1 : i < css.length) (h2 : i < l.length), css[i].length = 5 ∧ DatArg W (.agg css[i].toArray) l[i]
theorem DtsArg.dts {W : World} {css : List (List Value)} {l : List Dat} (h : DtsArg W css l) : Dts W css l := ⟨h.1, fun i a b => ⟨(h.2 i a b).1, (h.2 i a b).2.1⟩⟩
theorem OfPostS.cells {w0 w w' : World} {v : Value} {d : Dat} {e : Ending} (h : OfPostS w0 v d w e w') : ∃ cs, e = .returned (.agg cs.toArray) ∧ OfD w0 w' w.heap.size cs d ∧ Below w.heap.size w w' := by
  obtain ⟨vn, vn', vu, vt, vr, ss, rfl, rfl, h1, h2, h3, h4, h5, h6, h7⟩ := h
  exact ⟨[.int .i64 d.ty, vn', vu, vt, vr], rfl, ⟨vn', vu, vt, vr, ss, rfl, h1, h2, h3, h4, h5, h6⟩, h7⟩
theorem OfD.shape {w0 W : World} {base : Nat} {cs : List Value} {d : Dat} (h : OfD w0 W base cs d) : ∃ x3 x4 x5 x6 : Option Addr × Nat × Nat, cs = [.int .i64 d.ty, .slice x3.1 x3.2.1 x3.2.2, .slice x4.1 x4.2.1 x4.2.2, .slice x5.1 x5.2.1 x5.2.2, .slice x6.1 x6.2.1 x6.2.2] := by
  obtain ⟨vn, vu, vt, vr, ss, rfl, h2, h3, h4, h5, h6, h7⟩ := h
  obtain ⟨a3, c3, rfl⟩ := h2.shape
  obtain ⟨a4, c4, rfl, _⟩ := h5
  obtain ⟨a5, c5, rfl, _⟩ := nmAt_sl.1 h6
  obtain ⟨a6, c6, rfl, _⟩ := h7
  exact ⟨(a3, _, c3), (a4, _, c4), (a5, _, c5), (a6, _, c6), rfl⟩
end Go.Proofs.YtckammgnmgkieaaGreat

namespace Go.Proofs.YtckammgnmgkieaaGreat
open Go.RowKit Go.Shelf
set_option maxRecDepth 20000
set_option linter.unusedVariables false
set_option linter.unusedSimpArgs false
theorem lo_far {a b c : World} {r q : Option Nat} (h : a.grownBy b r) (g : b.grownBy c q) (hq : ∀ k, q = some k → a.heap.size ≤ k ∨ r = some k) : a.grownBy c r := by
  refine ⟨g.os.trans h.os, g.tape.trans h.tape, g.output.trans h.output, Nat.le_trans h.size g.size, fun i hi hne => (g.block i (Nat.lt_of_lt_of_le hi h.size) (fun e => ?_)).trans (h.block i hi hne)⟩
  rcases hq i e.symm with h1 | h1
  · omega
  · exact hne h1.symm
theorem lo_belowA {a b c : World} {r : Option Nat} (h : a.grownBy b r) (g : Below b.heap.size b c) : a.grownBy c r :=
  ⟨g.os.trans h.os, g.tape.trans h.tape, g.output.trans h.output, Nat.le_trans h.size g.size, fun i hi hne => (g.block i (Nat.lt_of_lt_of_le hi h.size)).trans (h.block i hi hne)⟩
theorem lo_to {n : Nat} {a b : World} {B : Nat} (h : a.grownBy b (some B)) (hB : n ≤ B) (hn : n ≤ a.heap.size) : Below n a b := (Below.refl n a).grown h hn (fun k e => by cases e; exact hB)
theorem OfD.move {w0 W W' : World} {base : Nat} {cs : List Value} {d : Dat} (h : OfD w0 W base cs d) (hf : FarKeep base W W') : OfD w0 W' base cs d := by
  obtain ⟨vn, vu, vt, vr, ss, e, h2, h3⟩ := h
  exact ⟨vn, vu, vt, vr, ss, e, h2.move hf, h3⟩
theorem OfDs.move {w0 W W' : World} {base : Nat} {csd : List (List Value)} {l : List Dat} (h : OfDs w0 W base csd l) (hf : FarKeep base W W') : OfDs w0 W' base csd l := ⟨h.1, fun j a b => (h.2 j a b).move hf⟩
theorem OfDs.weaken {w0 W : World} {base b2 : Nat} {csd : List (List Value)} {l : List Dat} (h : OfDs w0 W base csd l) (hb : b2 ≤ base) : OfDs w0 W b2 csd l := ⟨h.1, fun j a b => (h.2 j a b).weaken hb⟩
theorem OfDs.grown {w0 W W' : World} {base base' k : Nat} {T : TypeId} {csd : List (List Value)} {l : List Dat} {v' : Value} {yss : List (List Value)} (h : OfDs w0 W base csd l) (h' : OwnC k T W base' v' yss) (hT : 23 ≠ T) (hg : W.grownBy W' v'.ownBlock) : OfDs w0 W' base csd l := ⟨h.1, fun j a b => (h.2 j a b).grown h' hT hg⟩
theorem OfDs.len5 {w0 W : World} {base : Nat} {csd : List (List Value)} {l : List Dat} (h : OfDs w0 W base csd l) : ∀ cs ∈ csd, cs.length = 5 := fun cs hc => by
  obtain ⟨i, hi, rfl⟩ := List.mem_iff_getElem.1 hc
  obtain ⟨_, _, _, _, _, e, _⟩ := h.2 i hi (by have := h.1; omega)
  rw [e]; rfl
theorem elem_hint : ElemK 2 155 86 48 := ⟨Tryz.underlying86, _, _, rfl, rfl, rfl, rfl, rfl⟩
def DOut (w W0 : World) (B : Nat) (T : TypeId) (c0 : Value) (rest : List Value) (fs : List Dat) (W : World) : Prop :=
  ∃ (ga : Option Addr) (gn gc : Nat) (css : List (List Value)), W.heap[B]? = some (.cells (c0 :: .slice ga gn gc :: rest).toArray T) ∧ OwnC 5 107 W W0.heap.size (.slice ga gn gc) css ∧ OfDs w W W0.heap.size css fs ∧ W0.grownBy W (some B)
theorem put1 (c0 x v : Value) (rest : List Value) : (c0 :: x :: rest).toArray.setIfInBounds 1 v = (c0 :: v :: rest).toArray := by simp
theorem DOut.step {w W0 w7 w8 : World} {B : Nat} {T : TypeId} {c0 : Value} {rest : List Value} {fs : List Dat} {ga : Option Addr} {gn gc : Nat} {css : List (List Value)} {cs : List Value} {d : Dat} {v8 : Value}
    (hT : T ≠ 107) (hB : B < W0.heap.size)
    (hx : w7.heap[B]? = some (.cells (c0 :: .slice ga gn gc :: rest).toArray T)) (hown : OwnC 5 107 w7 W0.heap.size (.slice ga gn gc) css) (hfr : OfDs w w7 W0.heap.size css fs) (hg : W0.grownBy w7 (some B)) (hn : OfD w w7 W0.heap.size cs d)
    (hown8 : OwnC 5 107 w8 W0.heap.size v8 (css ++ [cs])) (hg8 : (w7.alloc (.cells cs.toArray 107)).grownBy w8 (Value.slice ga gn gc).ownBlock) :
    DOut w W0 B T c0 rest (fs ++ [d]) (w8.setCell ⟨B, 1, none⟩ v8) ∧ w8.heap[B]? = some (.cells (c0 :: .slice ga gn gc :: rest).toArray T) := by
  have hbA := (Below.refl w7.heap.size w7).alloc (Nat.le_refl _) (.cells cs.toArray 107)
  have hown7 := OwnK.below hown hbA
  have hx7 := (hbA.block _ (kblock_lt hx)).trans hx
  have hx8 : w8.heap[B]? = some (.cells (c0 :: .slice ga gn gc :: rest).toArray T) := (hg8.block B (kblock_lt hx7) (fun e => OwnK.ne_block hown7 hx7 hT e)).trans hx7
  have hfr8 : OfDs w w8 W0.heap.size (css ++ [cs]) (fs ++ [d]) := (hfr.below hbA).snoc hown7 (hn.below hbA) hg8
  obtain ⟨a8, c8, rfl⟩ := OwnK.shape hown8
  have hs := kset hx8 1 (.slice a8 (css ++ [cs]).length c8)
  rw [put1] at hs
  refine ⟨⟨a8, _, c8, _, hs, OwnK.move hown8 (FarKeep.set _ _ _ _ hB), hfr8.move (FarKeep.set _ _ _ _ hB), ?_⟩, hx8⟩
  exact lo_far (lo_far (lo_belowA hg hbA) hg8 (fun q e => .inl (OwnK.base_le hown q e))) (grownBy_set w8 B 1 _) (fun k e => .inr e)
def DCl (w W0 : World) (B : Nat) (T : TypeId) (c0 : Value) (rest : List Value) (fs : List Dat) (ga : Option Addr) (gn gc : Nat) (css : List (List Value)) (d : Dat) (W : World) (e : Ending) (w7 : World) : Prop :=
  ∃ (a3 : Option Addr) (n3 z3 : Nat) (a4 : Option Addr) (n4 z4 : Nat) (a5 : Option Addr) (n5 z5 : Nat) (a6 : Option Addr) (n6 z6 : Nat), e = .returned (.agg #[.int .i64 d.ty, .slice a3 n3 z3, .slice a4 n4 z4, .slice a5 n5 z5, .slice a6 n6 z6]) ∧ OfD w w7 W0.heap.size [.int .i64 d.ty, .slice a3 n3 z3, .slice a4 n4 z4, .slice a5 n5 z5, .slice a6 n6 z6] d ∧
    w7.heap[B]? = some (.cells (c0 :: .slice ga gn gc :: rest).toArray T) ∧ OwnC 5 107 w7 W0.heap.size (.slice ga gn gc) css ∧ OfDs w w7 W0.heap.size css fs ∧ W0.grownBy w7 (some B) ∧ Below W.heap.size W w7
theorem of_out {w W0 W : World} {B : Nat} {T : TypeId} {c0 : Value} {rest : List Value} {fs : List Dat} {ga : Option Addr} {gn gc : Nat} {css : List (List Value)} {v : Value} {d : Dat} (hx : W.heap[B]? = some (.cells (c0 :: .slice ga gn gc :: rest).toArray T)) (hown : OwnC 5 107 W W0.heap.size (.slice ga gn gc) css) (hfr : OfDs w W W0.heap.size css fs) (hg : W0.grownBy W (some B)) (hd : DatAt w v d) (hwW : Below w.heap.size w W) (hk : d.names.length ≤ 1048576) :
    Calls Tryz.prog 78 #[v] W (DCl w W0 B T c0 rest fs ga gn gc css d W) := by
  refine (law4_OfS w v d W hd hwW hk).mono ?_
  rintro e w7 h
  obtain ⟨cs, rfl, ho, hb⟩ := h.cells
  obtain ⟨⟨a3, n3, z3⟩, ⟨a4, n4, z4⟩, ⟨a5, n5, z5⟩, ⟨a6, n6, z6⟩, rfl⟩ := ho.shape
  exact ⟨a3, n3, z3, a4, n4, z4, a5, n5, z5, a6, n6, z6, rfl, ho.weaken hg.size, (hb.block _ (kblock_lt hx)).trans hx, OwnK.below hown hb, hfr.below hb, lo_belowA hg hb, hb⟩
def RGl (w W : World) (base : Nat) (gss : List (List Value)) (gl : List (Nm × List Dat)) : Prop := gss.length = gl.length ∧ ∀ j (h1 : j < gss.length) (h2 : j < gl.length), ∃ (x0 x1 : Option Addr × Nat × Nat) (css : List (List Value)), gss[j] = [slW x0, slW x1] ∧ NmAt w (slW x0) gl[j].1 ∧ OwnC 5 107 W base (slW x1) css ∧ OfDs w W base css gl[j].2
theorem RGl.below {w W W' : World} {base : Nat} {gss : List (List Value)} {gl : List (Nm × List Dat)} (h : RGl w W base gss gl) (hb : Below W.heap.size W W') : RGl w W' base gss gl := by
  refine ⟨h.1, fun j a b => ?_⟩
  obtain ⟨x0, x1, css, e, h1, h2, h3⟩ := h.2 j a b
  exact ⟨x0, x1, css, e, h1, OwnK.below h2 hb, h3.below hb⟩
theorem RGl.move {w W W' : World} {base : Nat} {gss : List (List Value)} {gl : List (Nm × List Dat)} (h : RGl w W base gss gl) (hb : FarKeep base W W') : RGl w W' base gss gl := by
  refine ⟨h.1, fun j a b => ?_⟩
  obtain ⟨x0, x1, css, e, h1, h2, h3⟩ := h.2 j a b
  exact ⟨x0, x1, css, e, h1, OwnK.move h2 hb, h3.move hb⟩
theorem RGl.grown {w W W' : World} {base base' : Nat} {gss : List (List Value)} {gl : List (Nm × List Dat)} {v' : Value} {yss : List (List Value)} (h : RGl w W base gss gl) (h' : OwnC 2 155 W base' v' yss) (hg : W.grownBy W' v'.ownBlock) : RGl w W' base gss gl := by
  refine ⟨h.1, fun j a b => ?_⟩
  obtain ⟨x0, x1, css, e, h1, h2, h3⟩ := h.2 j a b
  exact ⟨x0, x1, css, e, h1, OwnK.kept_cc h2 h' (by decide) hg, h3.grown h' (by decide) hg⟩
theorem RGl.len2 {w W : World} {base : Nat} {gss : List (List Value)} {gl : List (Nm × List Dat)} (h : RGl w W base gss gl) : ∀ cs ∈ gss, cs.length = 2 := fun cs hc => by
  obtain ⟨i, hi, rfl⟩ := List.mem_iff_getElem.1 hc
  obtain ⟨_, _, _, e, _⟩ := h.2 i hi (by have := h.1; omega)
  rw [e]; rfl
theorem RGl.snoc {w W : World} {base : Nat} {gss : List (List Value)} {gl : List (Nm × List Dat)} {x0 x1 : Option Addr × Nat × Nat} {css : List (List Value)} {g : Nm × List Dat} (h : RGl w W base gss gl) (h1 : NmAt w (slW x0) g.1) (h2 : OwnC 5 107 W base (slW x1) css) (h3 : OfDs w W base css g.2) : RGl w W base (gss ++ [[slW x0, slW x1]]) (gl ++ [g]) := by
  refine ⟨by simp [h.1], fun j a b => ?_⟩
  by_cases hj : j < gss.length
  · rw [List.getElem_append_left hj]
    have e2 : (gl ++ [g])[j] = gl[j]'(by have := h.1; omega) := List.getElem_append_left (by have := h.1; omega)
    rw [e2]
    exact h.2 j hj (by have := h.1; omega)
  · obtain rfl : j = gss.length := by simp at a; omega
    have e1 : (gss ++ [[slW x0, slW x1]])[gss.length]'a = [slW x0, slW x1] := by simp
    have e2 : (gl ++ [g])[gss.length]'b = g := by simp [h.1]
    rw [e1, e2]
    exact ⟨x0, x1, css, rfl, h1, h2, h3⟩
def O2 (w W0 : World) (X : Nat) (kd dsl nm wd : Value) (dl : List Dat) (gl : List (Nm × List Dat)) (W : World) : Prop :=
  ∃ (ga : Option Addr) (gn gc : Nat) (gss css : List (List Value)), W.heap[X]? = some (.cells #[kd, dsl, nm, wd, .slice ga gn gc] 88) ∧ OwnC 5 107 W W0.heap.size dsl css ∧ OfDs w W W0.heap.size css dl ∧ OwnC 2 155 W W0.heap.size (.slice ga gn gc) gss ∧ RGl w W W0.heap.size gss gl ∧ W0.grownBy W (some X)
theorem O2.below {w W0 W W' : World} {X : Nat} {kd dsl nm wd : Value} {dl : List Dat} {gl : List (Nm × List Dat)} (h : O2 w W0 X kd dsl nm wd dl gl W) (hb : Below W.heap.size W W') : O2 w W0 X kd dsl nm wd dl gl W' := by
  obtain ⟨ga, gn, gc, gss, css, h1, h2, h3, h4, h5, h6⟩ := h
  exact ⟨ga, gn, gc, gss, css, (hb.block _ (kblock_lt h1)).trans h1, OwnK.below h2 hb, h3.below hb, OwnK.below h4 hb, h5.below hb, lo_belowA h6 hb⟩
theorem put4 (c0 c1 c2 c3 x v : Value) : #[c0, c1, c2, c3, x].setIfInBounds 4 v = #[c0, c1, c2, c3, v] := rfl
theorem O2.step {w W0 W w8 : World} {X : Nat} {kd dsl nm wd : Value} {dl : List Dat} {gl : List (Nm × List Dat)} {ga : Option Addr} {gn gc : Nat} {gss css : List (List Value)} {x0 x1 : Option Addr × Nat × Nat} {cs5 : List (List Value)} {g : Nm × List Dat} {v8 : Value} (hX : X < W0.heap.size)
    (h1 : W.heap[X]? = some (.cells #[kd, dsl, nm, wd, .slice ga gn gc] 88)) (h2 : OwnC 5 107 W W0.heap.size dsl css) (h3 : OfDs w W W0.heap.size css dl) (h4 : OwnC 2 155 W W0.heap.size (.slice ga gn gc) gss) (h5 : RGl w W W0.heap.size gss gl) (h6 : W0.grownBy W (some X))
    (n1 : NmAt w (slW x0) g.1) (n2 : OwnC 5 107 W W0.heap.size (slW x1) cs5) (n3 : OfDs w W W0.heap.size cs5 g.2)
    (h8 : OwnC 2 155 w8 W0.heap.size v8 (gss ++ [[slW x0, slW x1]])) (hg : W.grownBy w8 (Value.slice ga gn gc).ownBlock) :
    O2 w W0 X kd dsl nm wd dl (gl ++ [g]) (w8.setCell ⟨X, 4, none⟩ v8) ∧ w8.heap[X]? = some (.cells #[kd, dsl, nm, wd, .slice ga gn gc] 88) := by
  have hx8 : w8.heap[X]? = some (.cells #[kd, dsl, nm, wd, .slice ga gn gc] 88) := (hg.block X (kblock_lt h1) (fun e => OwnK.ne_block h4 h1 (by decide) e)).trans h1
  obtain ⟨a8, c8, rfl⟩ := OwnK.shape h8
  have hs := kset hx8 4 (.slice a8 (gss ++ [[slW x0, slW x1]]).length c8)
  rw [put4] at hs
  have hF : FarKeep W0.heap.size w8 (w8.setCell ⟨X, 4, none⟩ (.slice a8 (gss ++ [[slW x0, slW x1]]).length c8)) := FarKeep.set _ _ _ _ hX
  have hr : RGl w w8 W0.heap.size (gss ++ [[slW x0, slW x1]]) (gl ++ [g]) := (h5.grown h4 hg).snoc n1 (OwnK.kept_cc n2 h4 (by decide) hg) (n3.grown h4 (by decide) hg)
  exact ⟨⟨a8, _, c8, _, css, hs, OwnK.move (OwnK.kept_cc h2 h4 (by decide) hg) hF, (h3.grown h4 (by decide) hg).move hF, OwnK.move h8 hF, hr.move hF, lo_far (lo_far h6 hg (fun q e => .inl (OwnK.base_le h4 q e))) (grownBy_set w8 X 4 _) (fun k e => .inr e)⟩, hx8⟩
theorem O2.lkAt {w W0 W : World} {X : Nat} {kd : Int} {dsl : Value} {x2 : Option Addr × Nat × Nat} {wd : Bool} {dl : List Dat} {gl : List (Nm × List Dat)} {n : Nm} {ga : Option Addr} {gn gc : Nat} {gss css : List (List Value)}
    (h2 : OwnC 5 107 W W0.heap.size dsl css) (h3 : OfDs w W W0.heap.size css dl) (h4 : OwnC 2 155 W W0.heap.size (.slice ga gn gc) gss) (h5 : RGl w W W0.heap.size gss gl)
    (hn : NmAt w (slW x2) n) (hb : Below w.heap.size w W) : LkAt W [.int .i64 kd, dsl, slW x2, .bool wd, .slice ga gn gc] ⟨kd, dl, n, wd, gl⟩ := by
  obtain ⟨a1, c1, e1⟩ := OwnK.shape h2
  refine ⟨(a1, css.length, c1), x2, (ga, gn, gc), by rw [e1]; rfl, ⟨css, ?_, h3.dts hb⟩, hn.below hb, ⟨gss, SlK.of_own h4 h5.len2, h5.1, fun j a b => ?_⟩⟩
  · have := SlK.of_own h2 h3.len5
    rw [e1] at this; exact this
  · obtain ⟨x0, x1, cs5, e, q1, q2, q3⟩ := h5.2 j a b
    exact ⟨x0, x1, e, q1.below hb, ⟨cs5, SlK.of_own q2 q3.len5, q3.dts hb⟩⟩
theorem results_lr {fn : Func} {t : Tmp} (h : fn.results = #[.cell t 88]) (tmps : Array Value) (W : World) {a : Nat} {x0 x1 x2 x3 x4 : Value}
    (ht : tmps.getD t undef = .pointer (some ⟨a, 0, none⟩)) (hb : W.heap[a]? = some (.cells #[x0, x1, x2, x3, x4] 88)) : (results fn tmps).run Tryz.prog W = .ok (.agg #[x0, x1, x2, x3, x4]) W := by
  have ht' : tmps[t]?.getD undef = .pointer (some ⟨a, 0, none⟩) := by rw [← ht]; simp
  have hu : ∀ w, Sem.run Tryz.prog (underlying 88) w = .ok _ w := run_underlying Tryz.underlying88
  have y0 := kcell hb 0 _ rfl; have y1 := kcell hb 1 _ rfl; have y2 := kcell hb 2 _ rfl; have y3 := kcell hb 3 _ rfl; have y4 := kcell hb 4 _ rfl
  simp [results, h, ht', loadVar, asAddr, go_sem, hu, y0, y1, y2, y3, y4, isAgg]
theorem put5_boxR {W : World} {B : Nat} {z0 z1 z2 z3 z4 : Value} {T : TypeId} (h : W.heap[B]? = some (.cells #[z0, z1, z2, z3, z4] T)) (v0 v1 v2 v3 v4 : Value) : (put5 W B v0 v1 v2 v3 v4).heap[B]? = some (.cells #[v0, v1, v2, v3, v4] T) := by
  have q0 := kset h 0 v0
  have q1 := kset q0 1 v1
  have q2 := kset q1 2 v2
  have q3 := kset q2 3 v3
  exact kset q3 4 v4
end Go.Proofs.YtckammgnmgkieaaGreat

namespace Go.Proofs.YtckammgnmgkieaaGreat
open Go.RowKit Go.Shelf
set_option maxRecDepth 20000
set_option linter.unusedVariables false
set_option linter.unusedSimpArgs false
theorem lo_len (t : Int) (a3 : Option Addr) (n3 z3 : Nat) (a4 : Option Addr) (n4 z4 : Nat) (a5 : Option Addr) (n5 z5 : Nat) (a6 : Option Addr) (n6 z6 : Nat) : ∀ cs ∈ [[Value.int .i64 t, .slice a3 n3 z3, .slice a4 n4 z4, .slice a5 n5 z5, .slice a6 n6 z6]], cs.length = 5 := by
  intro cs hc
  rw [List.mem_singleton] at hc
  subst hc; rfl
theorem lo_one (t : Int) (a3 : Option Addr) (n3 z3 : Nat) (a4 : Option Addr) (n4 z4 : Nat) (a5 : Option Addr) (n5 z5 : Nat) (a6 : Option Addr) (n6 z6 : Nat) : ∀ cs ∈ [[Value.int .i64 t, .slice a3 n3 z3, .slice a4 n4 z4, .slice a5 n5 z5, .slice a6 n6 z6]], ∀ u ∈ cs, u.oneCell' = true := by
  intro cs hc u hu
  rw [List.mem_singleton] at hc
  subst hc
  simp only [List.mem_cons, List.not_mem_nil, or_false] at hu
  rcases hu with rfl | rfl | rfl | rfl | rfl <;> rfl
set_option maxRecDepth 100000 in
set_option maxHeartbeats 16000000 in
theorem law14_Of (w : World) (cs : List Value) (r : Lk) (hA : LkAt w cs r) (hr : LkOK r) :
    Calls Tryz.prog 52 #[.agg cs.toArray] w fun e w' => ∃ ds, e = .returned (.agg ds.toArray) ∧ LkAt w' ds r ∧ Below w.heap.size w w' := by
  obtain ⟨kd, dl, nm, wd, gl⟩ := r
  obtain ⟨⟨a1, b1, c1⟩, ⟨a2, b2, c2⟩, ⟨a4, b4, c4⟩, rfl, ⟨dcs, hd1, hd2⟩, hn, ⟨gcs, hg1, hgl, hg2⟩⟩ := hA
  have hgl : gcs.length = gl.length := hgl
  have hg2 : ∀ j (h1 : j < gcs.length) (h2 : j < gl.length), ∃ x0 x1 : Option Addr × Nat × Nat, gcs[j] = [slW x0, slW x1] ∧ NmAt w (slW x0) gl[j].1 ∧ DtsR w (slW x1) gl[j].2 := hg2
  have hd2 : Dts w dcs dl := hd2
  have hn : NmAt w (slW (a2, b2, c2)) nm := hn
  have hokd : ∀ d ∈ dl, DatOK d := hr.1
  have hld : dl.length ≤ 1048576 := hr.2.1
  have hokg : ∀ g ∈ gl, GlOK g := hr.2.2.2.1
  have hlg : gl.length ≤ 1048576 := hr.2.2.2.2
  have HK2 := Lib.hid (glr_k2 hgl hg2)
  unfold slW at hd1 hn hg1 ⊢
  simp only at hd1 hn hg1 ⊢
  obtain rfl : b1 = dcs.length := by
    obtain ⟨_, _, e, -⟩ := id hd1
    injection e
  obtain rfl : b4 = gcs.length := by
    obtain ⟨_, _, e, -⟩ := id hg1
    injection e
  obtain ⟨n1, hn1⟩ : ∃ n, dcs.length = n := ⟨_, rfl⟩
  obtain ⟨n4, hn4⟩ : ∃ n, gcs.length = n := ⟨_, rfl⟩
  have hc1 : n1 ≤ c1 := by
    obtain ⟨_, _, e, h, -⟩ := id hd1
    injection e with _ _ e
    omega
  have hc4 : n4 ≤ c4 := by
    obtain ⟨_, _, e, h, -⟩ := id hg1
    injection e with _ _ e
    omega
  rw [hn1] at hd1 ⊢
  rw [hn4] at hg1 ⊢
  have HD1 := Lib.hid hd1; have HD2 := Lib.hid hd2; have HNM := Lib.hid hn; have HG1 := Lib.hid hg1; have HG2 := Lib.hid hg2
  have HN1 := Lib.hid hn1; have HN4 := Lib.hid hn4
  have HLD := Lib.hid (show dl.length = n1 by rw [← hn1]; exact hd2.1.symm)
  have HLG := Lib.hid (show gl.length = n4 by rw [← hn4]; exact hgl.symm)
  have HOKD := Lib.hid hokd; have HOKG := Lib.hid hokg
  have hln1 : n1 ≤ 1048576 := by have := HLD.out; omega
  have hln4 : n4 ≤ 1048576 := by have := HLG.out; omega
  clear hd1 hd2 hn hg1 hg2 hgl hokd hokg hld hlg hn1 hn4 hr
  obtain ⟨W0, hW0⟩ : ∃ W, ((w.alloc (.cells #[.int .i64 kd, .slice a1 n1 c1, .slice a2 b2 c2, .bool wd, .slice a4 n4 c4] 84)).alloc (.cells #[.int .i64 0, .slice none 0 0, .slice none 0 0, .bool false, .slice none 0 0] 88)).alloc (.cells #[.int .i64 kd, .slice none 0 0, .slice a2 b2 c2, .bool wd, .slice none 0 0] 88) = W := ⟨_, rfl⟩
  have HB0 : Hid (Below w.heap.size w W0) := Lib.hid (by rw [← hW0]; exact (((Below.refl w.heap.size w).alloc (Nat.le_refl _) _).alloc (by simp) _).alloc (by simp; omega) _)
  have HZ0 : Hid (W0.heap.size = w.heap.size + 3) := Lib.hid (by rw [← hW0]; simp)
  have x0 : W0.heap[w.heap.size]? = some (.cells #[.int .i64 kd, .slice a1 n1 c1, .slice a2 b2 c2, .bool wd, .slice a4 n4 c4] 84) := by
    rw [← hW0]; exact (Below.heap_alloc _ _ _ (by simp; omega)).trans ((Below.heap_alloc _ _ _ (by simp)).trans (knew w _))
  have x1 : W0.heap[w.heap.size + 1]? = some (.cells #[.int .i64 0, .slice none 0 0, .slice none 0 0, .bool false, .slice none 0 0] 88) := by
    have h := knew (w.alloc (.cells #[.int .i64 kd, .slice a1 n1 c1, .slice a2 b2 c2, .bool wd, .slice a4 n4 c4] 84)) (.cells #[.int .i64 0, .slice none 0 0, .slice none 0 0, .bool false, .slice none 0 0] 88)
    rw [World.size_alloc] at h
    rw [← hW0]; exact (Below.heap_alloc _ _ _ (by simp)).trans h
  have x2 : W0.heap[w.heap.size + 1 + 1]? = some (.cells #[.int .i64 kd, .slice none 0 0, .slice a2 b2 c2, .bool wd, .slice none 0 0] 88) := by
    have h := knew ((w.alloc (.cells #[.int .i64 kd, .slice a1 n1 c1, .slice a2 b2 c2, .bool wd, .slice a4 n4 c4] 84)).alloc (.cells #[.int .i64 0, .slice none 0 0, .slice none 0 0, .bool false, .slice none 0 0] 88)) (.cells #[.int .i64 kd, .slice none 0 0, .slice a2 b2 c2, .bool wd, .slice none 0 0] 88)
    rw [World.size_alloc, World.size_alloc] at h
    rw [← hW0]; exact h
  have X0 := Lib.hid x0; have X1 := Lib.hid x1; have X2 := Lib.hid x2
  -- what stays, whatever grows
  have KB := Lib.hid (fun (W : World) (hg : W0.grownBy W (some (w.heap.size + 1 + 1))) => (show W.heap[w.heap.size]? = some (.cells #[.int .i64 kd, .slice a1 n1 c1, .slice a2 b2 c2, .bool wd, .slice a4 n4 c4] 84) ∧ W.heap[w.heap.size + 1]? = some (.cells #[.int .i64 0, .slice none 0 0, .slice none 0 0, .bool false, .slice none 0 0] 88) ∧ Below w.heap.size w W from
    ⟨(hg.block _ (kblock_lt X0.out) (fun e => by injection e with e; omega)).trans X0.out, (hg.block _ (kblock_lt X1.out) (fun e => by injection e with e; omega)).trans X1.out, HB0.out.trans (lo_to hg (by omega) HB0.out.size)⟩))
  have HXL : Hid (w.heap.size + 1 + 1 < W0.heap.size) := Lib.hid (by have := HZ0.out; omega)
  have HRL : Hid (w.heap.size + 1 < W0.heap.size) := Lib.hid (by have := HZ0.out; omega)
  have HDS : Hid (DOut w W0 (w.heap.size + 1 + 1) 88 (.int .i64 kd) [.slice a2 b2 c2, .bool wd, .slice none 0 0] (dl.take 0) W0) := Lib.hid ⟨none, 0, 0, [], x2, OwnK.nil _ _, ⟨rfl, fun j h => by simp at h⟩, kg_refl _ _⟩
  have HW0 := Lib.hid hW0
  clear x0 x1 x2 hW0
  have w0c : (w.alloc (.cells #[.int .i64 kd, .slice a1 n1 c1, .slice a2 b2 c2, .bool wd, .slice a4 n4 c4] 84)).heap[w.heap.size]? = some (.cells #[.int .i64 kd, .slice a1 n1 c1, .slice a2 b2 c2, .bool wd, .slice a4 n4 c4] 84) := knew w _
  go_enter Tryz.func52, Tryz.ntmps52
  go_wp2
  rw [HW0.out]
  clear HW0 w0c
  go_loopw [4] (fun vi wr => ∃ k : Nat, vi = .int .i64 k ∧ k ≤ n1 ∧ Hid (DOut w W0 (w.heap.size + 1 + 1) 88 (.int .i64 kd) [.slice a2 b2 c2, .bool wd, .slice none 0 0] (dl.take k) wr)) (fun vi _ => n1 - (intOf vi).toNat)
  case atStart => exact ⟨0, rfl, Nat.zero_le _, HDS⟩
  case round =>
    obtain ⟨k, rfl, hk, HDO⟩ := hrel
    clear HDS
    obtain ⟨ga, gn, gc, css, hx, hown, hfr, hg⟩ := HDO.out
    obtain ⟨q0, q1, hwr⟩ := KB.out _ hg
    by_cases hlt : k < n1
    · have hltz : (k : Int) < (n1 : Int) := by omega
      have hk1 : k < dcs.length := by have := HN1.out; omega
      have hk2 : k < dl.length := by have := HLD.out; omega
      obtain ⟨b, off, rfl, hb, hel⟩ := HD1.out.elem5 HD2.out.ck (by omega)
      have h0 := (HD2.out.2 k hk1 hk2).2
      have hokd := HOKD.out _ (List.getElem_mem hk2)
      have htk : dl.take (k + 1) = dl.take k ++ [dl[k]'hk2] := List.take_succ_eq_append_getElem hk2
      obtain ⟨d, hd⟩ : ∃ d, dl[k]'hk2 = d := ⟨_, rfl⟩
      rw [hd] at h0 htk hokd
      obtain ⟨⟨p3, q3, r3⟩, ⟨p4, q4, r4⟩, ⟨p5, q5, r5⟩, ⟨p6, q6, r6⟩, e0⟩ := dt_shape h0
      simp only at e0
      obtain ⟨d0, d1, d2, d3, d4⟩ := hel k hk1 _ _ _ _ _ e0 wr hwr
      rw [e0] at h0
      have HC := Lib.hid (of_out (W := wr.drew) (W0 := W0) (B := w.heap.size + 1 + 1) (fs := dl.take k) (v := .agg #[.int .i64 d.ty, .slice p3 q3 r3, .slice p4 q4 r4, .slice p5 q5 r5, .slice p6 q6 r6]) (css := css) (d := d) (rest := [.slice a2 b2 c2, .bool wd, .slice none 0 0]) (c0 := .int .i64 kd) (T := 88) hx (OwnK.below hown (kdrew (Below.refl _ wr))) (hfr.below (kdrew (Below.refl _ wr))) (lo_belowA hg (kdrew (Below.refl _ wr))) h0 (kdrew hwr) hokd.2.1)
      have hcl : css.length = k := by rw [hfr.1, List.length_take]; omega
      have HLN : Hid (css.length ≤ 1048576) := Lib.hid (by omega)
      have HBL := HXL
      have HTK := Lib.hid htk
      have y1 := kcell q0 1 _ rfl
      have c0 := kcell hx 1 (.slice ga gn gc) rfl
      have f0 := kfrozen hx 1
      clear h0 htk hd e0 hel hk1 hk2 hwr hx hown hfr hg hokd hcl q0 q1
      go_wp2_with fail
      go_region_law
        (first
          | (go_simp; (with_reducible refine (HC.out).mono ?_); rintro e w7 ⟨i3, j3, z3, i4, j4, z4, i5, j5, z5, i6, j6, z6, rfl, hn7, hx7, hown7, hfr7, hg7, hb7⟩; have c7 := kcell hx7 1 (.slice ga gn gc) rfl; have hbA := (Below.refl w7.heap.size w7).alloc (Nat.le_refl _) (.cells #[.int .i64 d.ty, .slice i3 j3 z3, .slice i4 j4 z4, .slice i5 j5 z5, .slice i6 j6 z6] 107); have c7A := kcell ((hbA.block _ (kblock_lt hx7)).trans hx7) 1 (.slice ga gn gc) rfl; have hownA := OwnK.below hown7 hbA; have hsA : W0.heap.size ≤ (w7.alloc (.cells #[.int .i64 d.ty, .slice i3 j3 z3, .slice i4 j4 z4, .slice i5 j5 z5, .slice i6 j6 z6] 107)).heap.size := Nat.le_trans hg7.size hbA.size; have hsl : SlK (w7.alloc (.cells #[.int .i64 d.ty, .slice i3 j3 z3, .slice i4 j4 z4, .slice i5 j5 z5, .slice i6 j6 z6] 107)) (.slice (some ⟨w7.heap.size, 0, none⟩) 1 1) [[.int .i64 d.ty, .slice i3 j3 z3, .slice i4 j4 z4, .slice i5 j5 z5, .slice i6 j6 z6]] := slK_blk (css := [[.int .i64 d.ty, .slice i3 j3 z3, .slice i4 j4 z4, .slice i5 j5 z5, .slice i6 j6 z6]]) (knew w7 _); have HP := Lib.hid (fun (ops : Array Oper) (o : Oper) (a : Act) (K : Act → World → Prop) (Q : Exit → Act → World → Prop) (E : Prop) (h1 : o.guard = none) (h2 : o.op = .call { callee := .builtin .append, args := #[.tmp 23, .tmp 30], argTypes := #[39, 39] }) (h3 : a.eval (.tmp 23) = .slice ga gn gc) (h4 : a.eval (.tmp 30) = .slice (some ⟨w7.heap.size, 0, none⟩) 1 1) h => step_append_slk (ops := ops) (a := a) (K := K) (Q := Q) (E := E) (w7.alloc (.cells #[.int .i64 d.ty, .slice i3 j3 z3, .slice i4 j4 z4, .slice i5 j5 z5, .slice i6 j6 z6] 107)) h1 (.tmp 23) (.tmp 30) elem_refD (by decide) h2 W0.heap.size _ css h3 hownA _ _ h4 hsl (lo_len _ _ _ _ _ _ _ _ _ _ _ _ _) (lo_one _ _ _ _ _ _ _ _ _ _ _ _ _) hsA (by have := HLN.out; unfold maxLen; simp only [List.length_cons, List.length_nil]; omega) (by have := HLN.out; simp only [List.length_cons, List.length_nil]; omega) h); have H7 := Lib.hid (And.intro hn7 (And.intro hx7 (And.intro hown7 (And.intro hfr7 hg7)))); clear hn7 hx7 hown7 hfr7 hg7 hb7 hbA hownA hsA hsl)
          | ((with_reducible refine HP.out _ _ _ _ _ _ ?_ ?_ ?_ ?_ ?_); exact rfl; exact rfl; exact rfl; exact rfl; intro v8 w8 ho8 hg8; obtain ⟨p1, p2, p3, p4, p5⟩ := H7.out; have hfin := DOut.step (by decide) HBL.out p2 p3 p4 p5 p1 ho8 hg8; obtain ⟨a8, c8, e8⟩ := OwnK.shape ho8; generalize List.length (css ++ _) = n8 at e8; subst e8; have c8' := kcell hfin.2 1 (.slice ga gn gc) rfl; have f8 := kfrozen hfin.2 1; have HF := Lib.hid hfin.1; clear p1 p2 p3 p4 p5 hfin ho8 hg8 HP H7))
      all_goals
        have HN2 : Hid (DOut w W0 (w.heap.size + 1 + 1) 88 (.int .i64 kd) [.slice a2 b2 c2, .bool wd, .slice none 0 0] (dl.take (k + 1)) (w8.setCell ⟨w.heap.size + 1 + 1, 1, none⟩ (.slice a8 n8 c8))) := Lib.hid (by rw [HTK.out]; exact HF.out)
        clear HF HTK HC c8' f8 c7 c7A d0 d1 d2 d3 d4 y1 c0 f0
        go_wp2_with fail
        go_roundw
        case measure => simp [intOf]; omega
        case rel => exact ⟨k + 1, by go_num, by omega, HN2⟩
    · obtain rfl : k = n1 := by omega
      rw [List.take_of_length_le (by have := HLD.out; omega)] at hfr
      have HO2 : Hid (O2 w W0 (w.heap.size + 1 + 1) (.int .i64 kd) (.slice ga gn gc) (.slice a2 b2 c2) (.bool wd) dl (gl.take 0) wr) := Lib.hid ⟨none, 0, 0, [], css, hx, hown, hfr, OwnK.nil _ _, ⟨rfl, fun j h => by simp at h⟩, hg⟩
      have y1 := kcell q0 1 _ rfl
      clear hx hown hfr hg q1 hwr HDO
      go_wp2
      clear y1 q0
      generalize wr = wm at *
      generalize ga = xa at *
      generalize gn = xn at *
      generalize gc = xc at *
      clear css
      go_loopw [5, 6, 7] (fun vi vg vk wr => ∃ j : Nat, vi = .int .i64 j ∧ j ≤ n4 ∧ Hid (O2 w W0 (w.heap.size + 1 + 1) (.int .i64 kd) (.slice xa xn xc) (.slice a2 b2 c2) (.bool wd) dl (gl.take j) wr)) (fun vi _ _ _ => n4 - (intOf vi).toNat)
      case atStart => exact ⟨0, rfl, Nat.zero_le _, HO2⟩
      case round =>
        obtain ⟨j, rfl, hj, HO⟩ := hrel
        clear HO2
        obtain ⟨ha, hn, hc, gss, css, o1, o2, o3, o4, o5, o6⟩ := HO.out
        obtain ⟨q0, q1, hwr⟩ := KB.out _ o6
        by_cases hlt : j < n4
        · have hltz : (j : Int) < (n4 : Int) := by omega
          have hk1 : j < gcs.length := by have := HN4.out; omega
          have hk2 : j < gl.length := by have := HLG.out; omega
          obtain ⟨gb, gof, rfl, hgb, hea⟩ := HG1.out.elem2 HK2.out (by omega)
          obtain ⟨⟨p0, u0, r0⟩, ⟨p1, u1, r1⟩, e0, h0, h0'⟩ := HG2.out j hk1 hk2
          have hokg := HOKG.out _ (List.getElem_mem hk2)
          have htk : gl.take (j + 1) = gl.take j ++ [gl[j]'hk2] := List.take_succ_eq_append_getElem hk2
          obtain ⟨g, hgg⟩ : ∃ d, gl[j]'hk2 = d := ⟨_, rfl⟩
          rw [hgg] at h0 h0' htk hokg
          obtain ⟨ecs, hE1, hE2⟩ := h0'
          unfold slW at e0 hE1
          simp only at e0 hE1
          obtain rfl : u1 = ecs.length := by
            obtain ⟨_, _, e, -⟩ := id hE1
            injection e
          obtain ⟨m, hm⟩ : ∃ n, ecs.length = n := ⟨_, rfl⟩
          have hm1 : m ≤ r1 := by
            obtain ⟨_, _, e, h, -⟩ := id hE1
            injection e with _ _ e
            omega
          rw [hm] at hE1 e0
          have HE1 := Lib.hid hE1; have HE2 := Lib.hid hE2; have HM := Lib.hid hm
          have HLM := Lib.hid (show g.2.length = m by rw [← hm]; exact hE2.1.symm)
          have hmx : m ≤ 1048576 := by have := hokg.2.2; have := HLM.out; omega
          have HOKE := Lib.hid hokg.2.1
          have HH0 := Lib.hid h0; have HTK := Lib.hid htk
          have HEA := Lib.hid (fun W (hb : Below w.heap.size w W) => hea j hk1 _ _ e0 W hb)
          have hgl' : gss.length = j := by rw [o5.1, List.length_take]; omega
          have HGL := Lib.hid hgl'
          obtain ⟨ea0, ea1⟩ := HEA.out wr hwr
          have y4 := kcell q0 4 _ rfl
          have hA1 := (Below.refl wr.heap.size wr).alloc (Nat.le_refl _) (.cells #[.slice p0 u0 r0, .slice none 0 0] 155)
          obtain ⟨G, hG⟩ : ∃ b, wr.heap.size = b := ⟨_, rfl⟩
          obtain ⟨W1, hW1⟩ : ∃ W, wr.alloc (.cells #[.slice p0 u0 r0, .slice none 0 0] 155) = W := ⟨_, rfl⟩
          have hX1 := knew wr (.cells #[.slice p0 u0 r0, .slice none 0 0] 155)
          have HZW : Hid (W1.heap.size = wr.heap.size + 1) := Lib.hid (by rw [← hW1]; simp)
          rw [hW1] at hA1 hX1
          rw [hG] at hX1
          have HA1 := Lib.hid hA1
          have HGE := Lib.hid hG; have HW1 := Lib.hid hW1
          have HGB : Hid (G < W1.heap.size) := Lib.hid (kblock_lt hX1)
          have HDS : Hid (DOut w W1 G 155 (.slice p0 u0 r0) [] (g.2.take 0) W1) := Lib.hid ⟨none, 0, 0, [], hX1, OwnK.nil _ _, ⟨rfl, fun j h => by simp at h⟩, kg_refl _ _⟩
          have HWS := Lib.hid (show W0.heap.size ≤ W1.heap.size from Nat.le_trans o6.size hA1.size)
          -- from the round's world on
          have KW := Lib.hid (fun (W : World) (hg : W1.grownBy W (some G)) => (show Below wr.heap.size wr W from HA1.out.trans (lo_to hg (by have := HGE.out; omega) HA1.out.size)))
          have KQ := Lib.hid (fun (W : World) (hb : Below wr.heap.size wr W) => (show W.heap[w.heap.size]? = some (.cells #[.int .i64 kd, .slice a1 k c1, .slice a2 b2 c2, .bool wd, .slice (some ⟨gb, gof, none⟩) n4 c4] 84) ∧ Below w.heap.size w W from ⟨(hb.block _ (kblock_lt q0)).trans q0, hwr.trans (hb.mono hwr.size)⟩))
          have HOW := Lib.hid (fun (W : World) (hb : Below wr.heap.size wr W) => HO.out.below hb)
          clear e0 h0 htk hokg hE1 hE2 hm hgg hea hk1 hk2 o1 o2 o3 o4 o5 o6 hA1 hX1 hgl' HO hG hW1
          go_wp2
          rw [HW1.out, HGE.out]
          clear HW1 ea0 ea1 y4 q0 q1 hwr
          generalize wr = wo at *
          go_loopw [7] (fun vk wr => ∃ i : Nat, vk = .int .i64 i ∧ i ≤ m ∧ Hid (DOut w W1 G 155 (.slice p0 u0 r0) [] (g.2.take i) wr)) (fun vk _ => m - (intOf vk).toNat)
          case atStart => exact ⟨0, rfl, Nat.zero_le _, HDS⟩
          case round =>
            obtain ⟨i, rfl, hi, HDO⟩ := hrel
            clear HDS
            obtain ⟨ga, gn, gc, css, hx, hown, hfr, hg⟩ := HDO.out
            have hbo := KW.out _ hg
            obtain ⟨q0, hwr⟩ := KQ.out _ hbo
            obtain ⟨ea0, ea1⟩ := HEA.out wr hwr
            have y4 := kcell q0 4 _ rfl
            by_cases hlt2 : i < m
            · have hltz2 : (i : Int) < (m : Int) := by omega
              have hk1 : i < ecs.length := by have := HM.out; omega
              have hk2 : i < g.2.length := by have := HLM.out; omega
              obtain ⟨b, off, rfl, hb, hel⟩ := HE1.out.elem5 HE2.out.ck (by omega)
              have h0 := (HE2.out.2 i hk1 hk2).2
              have hokd := HOKE.out _ (List.getElem_mem hk2)
              have htk : g.2.take (i + 1) = g.2.take i ++ [g.2[i]'hk2] := List.take_succ_eq_append_getElem hk2
              obtain ⟨d, hd⟩ : ∃ d, g.2[i]'hk2 = d := ⟨_, rfl⟩
              rw [hd] at h0 htk hokd
              obtain ⟨⟨p3, q3, r3⟩, ⟨p4, q4, r4⟩, ⟨p5, q5, r5⟩, ⟨p6, q6, r6⟩, e0⟩ := dt_shape h0
              simp only at e0
              obtain ⟨d0, d1, d2, d3, d4⟩ := hel i hk1 _ _ _ _ _ e0 wr hwr
              rw [e0] at h0
              have HC := Lib.hid (of_out (W := wr.drew) (W0 := W1) (B := G) (fs := g.2.take i) (v := .agg #[.int .i64 d.ty, .slice p3 q3 r3, .slice p4 q4 r4, .slice p5 q5 r5, .slice p6 q6 r6]) (css := css) (d := d) (rest := []) (c0 := .slice p0 u0 r0) (T := 155) hx (OwnK.below hown (kdrew (Below.refl _ wr))) (hfr.below (kdrew (Below.refl _ wr))) (lo_belowA hg (kdrew (Below.refl _ wr))) h0 (kdrew hwr) hokd.2.1)
              have hcl : css.length = i := by rw [hfr.1, List.length_take]; omega
              have HLN : Hid (css.length ≤ 1048576) := Lib.hid (by omega)
              have HBL := HGB
              have HTK2 := Lib.hid htk
              have c0 := kcell hx 1 (.slice ga gn gc) rfl
              have f0 := kfrozen hx 1
              clear h0 htk hd e0 hel hk1 hk2 hwr hx hown hfr hg hokd hcl q0 hbo
              go_wp2_with fail
              go_region_law
                (first
                  | (go_simp; (with_reducible refine (HC.out).mono ?_); rintro e w7 ⟨i3, j3, z3, i4, j4, z4, i5, j5, z5, i6, j6, z6, rfl, hn7, hx7, hown7, hfr7, hg7, hb7⟩; have c7 := kcell hx7 1 (.slice ga gn gc) rfl; have hbA := (Below.refl w7.heap.size w7).alloc (Nat.le_refl _) (.cells #[.int .i64 d.ty, .slice i3 j3 z3, .slice i4 j4 z4, .slice i5 j5 z5, .slice i6 j6 z6] 107); have c7A := kcell ((hbA.block _ (kblock_lt hx7)).trans hx7) 1 (.slice ga gn gc) rfl; have hownA := OwnK.below hown7 hbA; have hsA : W1.heap.size ≤ (w7.alloc (.cells #[.int .i64 d.ty, .slice i3 j3 z3, .slice i4 j4 z4, .slice i5 j5 z5, .slice i6 j6 z6] 107)).heap.size := Nat.le_trans hg7.size hbA.size; have hsl : SlK (w7.alloc (.cells #[.int .i64 d.ty, .slice i3 j3 z3, .slice i4 j4 z4, .slice i5 j5 z5, .slice i6 j6 z6] 107)) (.slice (some ⟨w7.heap.size, 0, none⟩) 1 1) [[.int .i64 d.ty, .slice i3 j3 z3, .slice i4 j4 z4, .slice i5 j5 z5, .slice i6 j6 z6]] := slK_blk (css := [[.int .i64 d.ty, .slice i3 j3 z3, .slice i4 j4 z4, .slice i5 j5 z5, .slice i6 j6 z6]]) (knew w7 _); have HP := Lib.hid (fun (ops : Array Oper) (o : Oper) (a : Act) (K : Act → World → Prop) (Q : Exit → Act → World → Prop) (E : Prop) (h1 : o.guard = none) (h2 : o.op = .call { callee := .builtin .append, args := #[.tmp 59, .tmp 70], argTypes := #[39, 39] }) (h3 : a.eval (.tmp 59) = .slice ga gn gc) (h4 : a.eval (.tmp 70) = .slice (some ⟨w7.heap.size, 0, none⟩) 1 1) h => step_append_slk (ops := ops) (a := a) (K := K) (Q := Q) (E := E) (w7.alloc (.cells #[.int .i64 d.ty, .slice i3 j3 z3, .slice i4 j4 z4, .slice i5 j5 z5, .slice i6 j6 z6] 107)) h1 (.tmp 59) (.tmp 70) elem_refD (by decide) h2 W1.heap.size _ css h3 hownA _ _ h4 hsl (lo_len _ _ _ _ _ _ _ _ _ _ _ _ _) (lo_one _ _ _ _ _ _ _ _ _ _ _ _ _) hsA (by have := HLN.out; unfold maxLen; simp only [List.length_cons, List.length_nil]; omega) (by have := HLN.out; simp only [List.length_cons, List.length_nil]; omega) h); have H7 := Lib.hid (And.intro hn7 (And.intro hx7 (And.intro hown7 (And.intro hfr7 hg7)))); clear hn7 hx7 hown7 hfr7 hg7 hb7 hbA hownA hsA hsl)
                  | ((with_reducible refine HP.out _ _ _ _ _ _ ?_ ?_ ?_ ?_ ?_); exact rfl; exact rfl; exact rfl; exact rfl; intro v8 w8 ho8 hg8; obtain ⟨p1, p2, p3, p4, p5⟩ := H7.out; have hfin := DOut.step (by decide) HBL.out p2 p3 p4 p5 p1 ho8 hg8; obtain ⟨a8, c8, e8⟩ := OwnK.shape ho8; generalize List.length (css ++ _) = n8 at e8; subst e8; have c8' := kcell hfin.2 1 (.slice ga gn gc) rfl; have f8 := kfrozen hfin.2 1; have HF := Lib.hid hfin.1; clear p1 p2 p3 p4 p5 hfin ho8 hg8 HP H7))
              all_goals
                have HN2 : Hid (DOut w W1 G 155 (.slice p0 u0 r0) [] (g.2.take (i + 1)) (w8.setCell ⟨G, 1, none⟩ (.slice a8 n8 c8))) := Lib.hid (by rw [HTK2.out]; exact HF.out)
                clear HF HTK2 HC c8' f8 c7 c7A d0 d1 d2 d3 d4 c0 f0 ea0 ea1 y4
                go_wp2_with fail
                go_roundw
                case measure => simp [intOf]; omega
                case rel => exact ⟨i + 1, by go_num, by omega, HN2⟩
            · obtain rfl : i = m := by omega
              rw [List.take_of_length_le (by have := HLM.out; omega)] at hfr
              obtain ⟨ha, hn, hc, gss, cs0, o1, o2, o3, o4, o5, o6⟩ := HOW.out wr hbo
              have g0 := kcell hx 0 _ rfl; have g1 := kcell hx 1 (.slice ga gn gc) rfl
              have x4 := kcell o1 4 _ rfl
              have HS := Lib.hid (fun (v8 : Value) (w8 : World) (h8 : OwnC 2 155 w8 W0.heap.size v8 (gss ++ [[.slice p0 u0 r0, .slice ga gn gc]])) (hg8 : wr.grownBy w8 (Value.slice ha hn hc).ownBlock) => O2.step (x0 := (p0, u0, r0)) (x1 := (ga, gn, gc)) (g := g) HXL.out o1 o2 o3 o4 o5 o6 HH0.out (OwnK.weaken hown HWS.out) (hfr.weaken HWS.out) h8 hg8)
              have hgl' : gss.length = j := by rw [o5.1, List.length_take]; have := HLG.out; omega
              have HGL2 : Hid (gss.length ≤ 1048576) := Lib.hid (by omega)
              have HO4 := Lib.hid o4
              have HSZ := Lib.hid o6.size
              clear o1 o2 o3 o4 o5 o6 hx hown hfr hg hgl' q0 hbo hwr
              go_wp2_with (at_builtin; refine wpl_append_c' wr rfl (.tmp 74) (.tmp 76) elem_hint (by decide) rfl W0.heap.size (.slice ha hn hc) gss rfl HO4.out [.slice p0 u0 r0, .slice ga gn gc] rfl (by intro u hu; simp only [List.mem_cons, List.not_mem_nil, or_false] at hu; rcases hu with rfl | rfl <;> rfl) 1 (by rfl) HSZ.out (by have := HGL2.out; unfold maxLen; omega) (by have := HGL2.out; omega) ?_; intro v8 w8 hown8 hg8; have hfin := HS.out v8 w8 hown8 hg8; obtain ⟨a8, c8, e8⟩ := OwnK.shape hown8; generalize List.length (gss ++ _) = n8 at e8; subst e8; have c8' := kcell hfin.2 4 _ rfl; have f8 := kfrozen hfin.2 4; have HF := Lib.hid hfin.1; clear hfin hown8 hg8 HS)
              have HN2 : Hid (O2 w W0 (w.heap.size + 1 + 1) (.int .i64 kd) (.slice xa xn xc) (.slice a2 b2 c2) (.bool wd) dl (gl.take (j + 1)) (w8.setCell ⟨w.heap.size + 1 + 1, 4, none⟩ (.slice a8 n8 c8))) := Lib.hid (by rw [HTK.out]; exact HF.out)
              clear HF c8' f8 g0 g1 x4 ea0 ea1 y4
              go_roundw
              case measure => simp [intOf]; omega
              case rel => exact ⟨j + 1, by go_num, by omega, HN2⟩
        · obtain rfl : j = n4 := by omega
          rw [List.take_of_length_le (by have := HLG.out; omega)] at o5
          have y4 := kcell q0 4 _ rfl
          have z0 := kcell o1 0 _ rfl; have z1 := kcell o1 1 _ rfl; have z2 := kcell o1 2 _ rfl; have z3 := kcell o1 3 _ rfl; have z4 := kcell o1 4 _ rfl
          have s0 := kcell q1 0 _ rfl; have s1 := kcell q1 1 _ rfl; have s2 := kcell q1 2 _ rfl; have s3 := kcell q1 3 _ rfl; have s4 := kcell q1 4 _ rfl
          have u0 := kfrozen q1 0; have u1 := kfrozen q1 1; have u2 := kfrozen q1 2; have u3 := kfrozen q1 3; have u4 := kfrozen q1 4
          have HQ1 := Lib.hid q1; have HWR := Lib.hid hwr; have H2 := Lib.hid o2; have H3 := Lib.hid o3; have H4 := Lib.hid o4; have H5 := Lib.hid o5
          clear o1 o2 o3 o4 o5 o6 q0 q1 hwr HO
          go_wp2
          refine bodyPost_ret (results_lr rfl _ (put5 wr (w.heap.size + 1) (.int .i64 kd) (.slice xa xn xc) (.slice a2 b2 c2) (.bool wd) (.slice ha hn hc)) rfl (put5_boxR HQ1.out _ _ _ _ _)) rfl ?_
          have hf := put5_far (n := W0.heap.size) wr HRL.out (.int .i64 kd) (.slice xa xn xc) (.slice a2 b2 c2) (.bool wd) (.slice ha hn hc)
          have hbw := put5_below HWR.out (show w.heap.size ≤ w.heap.size + 1 by omega) (.int .i64 kd) (.slice xa xn xc) (.slice a2 b2 c2) (.bool wd) (.slice ha hn hc)
          exact ⟨_, rfl, O2.lkAt (X := 0) (x2 := (a2, b2, c2)) (OwnK.move H2.out hf) (H3.out.move hf) (OwnK.move H4.out hf) (H5.out.move hf) HNM.out hbw, hbw⟩
end Go.Proofs.YtckammgnmgkieaaGreat

namespace Go.Proofs.YtckammgnmgkieaaGreat
open Go.RowKit Go.Shelf
set_option maxRecDepth 20000
set_option linter.unusedVariables false
set_option linter.unusedSimpArgs false
set_option maxRecDepth 100000 in
set_option maxHeartbeats 16000000 in
theorem law14_LookTwo {w : World} (vo vl vq vp : Value) (o : Nm) (l : List Rc) (q p : Nm) (hO : NmArg w vo o) (hL : RowArg w vl l) (hQ : NmArg w vq q) (hP : NmArg w vp p) (t : Int) :
    Calls Tryz.prog 7 #[vo, vl, vq, vp, .int .i64 t] w fun e w' => e = .returned (.bool true) ∧ Below w.heap.size w w' := by
  have hkn := law14_known w
  have HG1 := Lib.hid (fun (W : World) (hb : Below w.heap.size w W) => law12_Good vo vl o l w W hO hL hb)
  have HG2 := Lib.hid (fun (W : World) (hb : Below w.heap.size w W) => kn_Good vq q _ rfl w W hQ (hQ.1.below hb))
  have HG3 := Lib.hid (fun (W : World) (hb : Below w.heap.size w W) => kn_Good vp p _ rfl w W hP (hP.1.below hb))
  have HNP := Lib.hid hP.1
  have HNO := Lib.hid hO.1
  have HNQ := Lib.hid hQ.1
  have HLR := Lib.hid hL.row
  have HLOK := Lib.hid hL.ok
  obtain ⟨ao, co, rfl, -⟩ := nmAt_sl.1 hO.1
  obtain ⟨qo, hqo⟩ : ∃ k, (List.map strV o).length = k := ⟨_, rfl⟩
  obtain ⟨aq, cq, rfl, -⟩ := nmAt_sl.1 hQ.1
  obtain ⟨qn, hqn⟩ : ∃ k, (List.map strV q).length = k := ⟨_, rfl⟩
  obtain ⟨ap, cp, rfl, -⟩ := nmAt_sl.1 hP.1
  obtain ⟨pn, hpn⟩ : ∃ k, (List.map strV p).length = k := ⟨_, rfl⟩
  obtain ⟨al, ml, cl, rfl⟩ : ∃ a m c, vl = .slice a m c := by
    obtain ⟨css, ⟨a, c, e, _⟩, _⟩ := hL
    exact ⟨a, _, c, e⟩
  rw [hqo] at HG1 HNO ⊢
  rw [hqn] at HG2 HNQ ⊢
  rw [hpn] at HG3 HNP ⊢
  clear hO hL hQ hP hqo hqn hpn
  go_enter Tryz.func7, Tryz.ntmps7
  go_wp2_with fail
  refine hkn.mono ?_
  rintro e w1 ⟨rfl, hb1⟩
  have HB1 := Lib.hid hb1
  have hc := HG1.out w1 hb1
  clear hkn hb1 HG1
  go_wp2_with fail
  refine hc.mono ?_
  rintro e w2 ⟨rfl, hb2⟩
  have HB2 := Lib.hid (HB1.out.trans (hb2.mono HB1.out.size))
  clear hb2 hc HB1
  obtain ⟨g1, hg1⟩ : ∃ g, (goodN o && goodRs l) = g := ⟨_, rfl⟩
  have HGG1 := Lib.hid hg1
  rw [hg1]
  clear hg1
  cases g1
  · go_wp2
    go_ret
    exact ⟨rfl, HB2.out⟩
  have hc := HG2.out w2 HB2.out
  clear HG2
  go_wp2_with fail
  refine hc.mono ?_
  rintro e w3 ⟨rfl, hb3⟩
  have HB3 := Lib.hid (HB2.out.trans (hb3.mono HB2.out.size))
  clear hb3 hc HB2
  obtain ⟨g2, hg2⟩ : ∃ g, goodN q = g := ⟨_, rfl⟩
  have HGG2 := Lib.hid hg2
  rw [hg2]
  clear hg2
  cases g2
  · go_wp2
    go_ret
    exact ⟨rfl, HB3.out⟩
  have hc := HG3.out w3 HB3.out
  clear HG3
  go_wp2_with fail
  refine hc.mono ?_
  rintro e w4 ⟨rfl, hb4⟩
  have HB4 := Lib.hid (HB3.out.trans (hb4.mono HB3.out.size))
  clear hb4 hc HB3
  obtain ⟨g3, hg3⟩ : ∃ g, goodN p = g := ⟨_, rfl⟩
  have HGG3 := Lib.hid hg3
  rw [hg3]
  clear hg3
  cases g3
  · go_wp2
    go_ret
    exact ⟨rfl, HB4.out⟩
  have HB3 := HB4
  clear HB4
  have HFEP := Lib.hid (goodN_few' HGG3.out)
  have HKP : Hid (NmOK p) := Lib.hid (fewN_ok HFEP.out)
  have HLP := Lib.hid (show p.length < 1048576 by have := fewN_len' HFEP.out; omega)
  clear HGG3
  have hg := HGG1.out
  simp only [Bool.and_eq_true] at hg
  have hko : NmOK o := fewN_ok (goodN_few' hg.1)
  have hkq : NmOK q := fewN_ok (goodN_few' HGG2.out)
  have hlq := fewN_len' (goodN_few' HGG2.out)
  have hfr : fewRs l = true := by
    have := hg.2
    unfold goodRs at this; simp only [Bool.and_eq_true] at this; exact this.1
  obtain ⟨hl60, hokl⟩ := HLOK.out hfr
  have HALL := Lib.hid (hall_few2 (rs := canonM l) (goodN_few' HGG2.out) (canon_fewL hfr))
  have HFEW := Lib.hid (goodN_few' HGG2.out); have HCF := Lib.hid (canon_fewL hfr)
  have HOKC := Lib.hid (canonM_ok' l hokl)
  have HCL := Lib.hid (show (canonM l).length ≤ 60 by have := canonM_length l; omega)
  have HKO := Lib.hid hko; have HKQ := Lib.hid hkq; have HOKL := Lib.hid hokl; have HL60 := Lib.hid hl60
  have HLQ := Lib.hid (show q.length < 1048576 by omega)
  clear hg hko hkq hfr hl60 hokl hlq HLOK HGG1 HGG2
  have hc := zone_New (.slice ao qo co) (.slice al ml cl) o l (HNO.out.below HB3.out) HKO.out (HLR.out.below HB3.out) HOKL.out (by have := HL60.out; omega)
  obtain ⟨C, hC⟩ : ∃ C, canonM l = C := ⟨_, rfl⟩
  rw [hC] at hc HALL HOKC HCL HCF
  clear hC HOKL HL60 HLR
  go_wp2_with fail
  refine hc.mono ?_
  rintro e w5 ⟨za, zn, zc, v1, m, c, rfl, hZ, hb5⟩
  have hA5 := (Below.refl w5.heap.size w5).alloc (Nat.le_refl _) (.cells #[.slice za zn zc, .slice v1 m c] 57)
  obtain ⟨zb, hzb⟩ : ∃ zb, w5.heap.size = zb := ⟨_, rfl⟩
  obtain ⟨w6, hw6⟩ : ∃ w6, w5.alloc (.cells #[.slice za zn zc, .slice v1 m c] 57) = w6 := ⟨_, rfl⟩
  have hX := knew w5 (.cells #[.slice za zn zc, .slice v1 m c] 57)
  rw [hw6] at hA5 hX
  rw [hzb] at hX
  have hb56 := hb5.trans (hA5.mono hb5.size)
  have HB6 := Lib.hid (HB3.out.trans (hb56.mono HB3.out.size))
  have HZ := Lib.hid (fun W (hb : Below w6.heap.size w6 W) => ((hZ.below hA5).below hb : ZonS W za zn zc v1 m c o C))
  have HY := Lib.hid (fun W (hb : Below w6.heap.size w6 W) => And.intro (kcell ((hb.block _ (kblock_lt hX)).trans hX) 0 _ rfl) (kcell ((hb.block _ (kblock_lt hX)).trans hX) 1 _ rfl))
  have HQW := Lib.hid (fun W (hb : Below w6.heap.size w6 W) => HNQ.out.below (HB6.out.trans (hb.mono HB6.out.size)))
  have HLK := Lib.hid (fun (W : World) (hb : Below w6.heap.size w6 W) (u : Int) => look_Zone u (HZ.out W hb) (HQW.out W hb) HKQ.out HLQ.out HALL.out)
  have HLO := Lib.hid (fun (u : Int) => lookM_ok (o := o) u HKQ.out HOKC.out (by have := HCL.out; omega) HALL.out)
  have HPW := Lib.hid (fun W (hb : Below w6.heap.size w6 W) => HNP.out.below (HB6.out.trans (hb.mono HB6.out.size)))
  have HAP := Lib.hid (hall_few2 (q := p) (rs := C) HFEP.out HCF.out)
  have HLKP := Lib.hid (fun (W : World) (hb : Below w6.heap.size w6 W) (u : Int) => look_Zone u (HZ.out W hb) (HPW.out W hb) HKP.out HLP.out HAP.out)
  have HLOP := Lib.hid (fun (u : Int) => lookM_ok (o := o) u HKP.out HOKC.out (by have := HCL.out; omega) HAP.out)
  clear hc hZ hb5 hA5 hX hb56 HB3 HNO HKO
  have D6 := Lib.hid (Below.refl w6.heap.size w6)
  obtain ⟨y0, y1⟩ := HY.out w6 D6.out
  have hc := HLK.out w6 D6.out t
  obtain ⟨Rx, hR⟩ : ∃ R, lookM o C q t = R := ⟨_, rfl⟩
  have HRx := Lib.hid hR
  rw [hR] at hc
  clear hR
  go_wp2_with fail
  clear hw6 hzb
  refine hc.mono ?_
  rintro e w7 ⟨cs, rfl, hk, hb⟩
  obtain ⟨a1x, c1x, a2x, c2x, a4x, c4x, rfl⟩ := (hk _ (FarKeep.refl _ _)).lens
  have hl := hk _ (FarKeep.refl _ _)
  obtain ⟨kx, hk⟩ : ∃ z, Rx.kind = z := ⟨_, rfl⟩
  have HKx := Lib.hid hk
  rw [hk] at hl ⊢
  clear hk
  obtain ⟨nx, hn⟩ : ∃ z, Rx.data.length = z := ⟨_, rfl⟩
  have HNx := Lib.hid hn
  rw [hn] at hl ⊢
  clear hn
  obtain ⟨mx, hm⟩ : ∃ z, Rx.name.length = z := ⟨_, rfl⟩
  have HMx := Lib.hid hm
  rw [hm] at hl ⊢
  clear hm
  obtain ⟨ex, he⟩ : ∃ z, Rx.wild = z := ⟨_, rfl⟩
  have HEx := Lib.hid he
  rw [he] at hl ⊢
  clear he
  obtain ⟨gx, hg⟩ : ∃ z, Rx.glue.length = z := ⟨_, rfl⟩
  have HGx := Lib.hid hg
  rw [hg] at hl ⊢
  clear hg
  clear hk hc y0 y1
  have D7 := Lib.hid (D6.out.trans (hb.mono D6.out.size))
  clear D6 
  clear hb
  have hA := (Below.refl w7.heap.size w7).alloc (Nat.le_refl _) (.cells #[.int .i64 kx, .slice a1x nx c1x, .slice a2x mx c2x, .bool ex, .slice a4x gx c4x] 84)
  obtain ⟨Bx, hx8⟩ : ∃ b, w7.heap.size = b := ⟨_, rfl⟩
  obtain ⟨w8, hW8⟩ : ∃ W, w7.alloc (.cells #[.int .i64 kx, .slice a1x nx c1x, .slice a2x mx c2x, .bool ex, .slice a4x gx c4x] 84) = W := ⟨_, rfl⟩
  have hX := knew w7 (.cells #[.int .i64 kx, .slice a1x nx c1x, .slice a2x mx c2x, .bool ex, .slice a4x gx c4x] 84)
  rw [hW8] at hA hX
  rw [hx8] at hX
  have D8 := Lib.hid (D7.out.trans (hA.mono D7.out.size))
  clear D7 
  have Xx8 := Lib.hid hX
  have Lx8 := Lib.hid (hl.below hA)
  clear hA hX hl
  obtain ⟨y0, y1⟩ := HY.out w8 D8.out
  have hc := HLKP.out w8 D8.out t
  obtain ⟨Ry, hR⟩ : ∃ R, lookM o C p t = R := ⟨_, rfl⟩
  have HRy := Lib.hid hR
  rw [hR] at hc
  clear hR
  go_wp2_with fail
  clear hW8 hx8
  refine hc.mono ?_
  rintro e w9 ⟨cs, rfl, hk, hb⟩
  obtain ⟨a1y, c1y, a2y, c2y, a4y, c4y, rfl⟩ := (hk _ (FarKeep.refl _ _)).lens
  have hl := hk _ (FarKeep.refl _ _)
  obtain ⟨ky, hk⟩ : ∃ z, Ry.kind = z := ⟨_, rfl⟩
  have HKy := Lib.hid hk
  rw [hk] at hl ⊢
  clear hk
  obtain ⟨ny, hn⟩ : ∃ z, Ry.data.length = z := ⟨_, rfl⟩
  have HNy := Lib.hid hn
  rw [hn] at hl ⊢
  clear hn
  obtain ⟨my, hm⟩ : ∃ z, Ry.name.length = z := ⟨_, rfl⟩
  have HMy := Lib.hid hm
  rw [hm] at hl ⊢
  clear hm
  obtain ⟨ey, he⟩ : ∃ z, Ry.wild = z := ⟨_, rfl⟩
  have HEy := Lib.hid he
  rw [he] at hl ⊢
  clear he
  obtain ⟨gy, hg⟩ : ∃ z, Ry.glue.length = z := ⟨_, rfl⟩
  have HGy := Lib.hid hg
  rw [hg] at hl ⊢
  clear hg
  clear hk hc y0 y1
  have D9 := Lib.hid (D8.out.trans (hb.mono D8.out.size))
  have Lx9 := Lib.hid (Lx8.out.below hb)
  have Xx9 := Lib.hid ((hb.block _ (kblock_lt Xx8.out)).trans Xx8.out)
  clear D8 Lx8 Xx8
  clear hb
  have hA := (Below.refl w9.heap.size w9).alloc (Nat.le_refl _) (.cells #[.int .i64 ky, .slice a1y ny c1y, .slice a2y my c2y, .bool ey, .slice a4y gy c4y] 84)
  obtain ⟨By, hx10⟩ : ∃ b, w9.heap.size = b := ⟨_, rfl⟩
  obtain ⟨w10, hW10⟩ : ∃ W, w9.alloc (.cells #[.int .i64 ky, .slice a1y ny c1y, .slice a2y my c2y, .bool ey, .slice a4y gy c4y] 84) = W := ⟨_, rfl⟩
  have hX := knew w9 (.cells #[.int .i64 ky, .slice a1y ny c1y, .slice a2y my c2y, .bool ey, .slice a4y gy c4y] 84)
  rw [hW10] at hA hX
  rw [hx10] at hX
  have D10 := Lib.hid (D9.out.trans (hA.mono D9.out.size))
  have Lx10 := Lib.hid (Lx9.out.below hA)
  have Xx10 := Lib.hid ((hA.block _ (kblock_lt Xx9.out)).trans Xx9.out)
  clear D9 Lx9 Xx9
  have Xy10 := Lib.hid hX
  have Ly10 := Lib.hid (hl.below hA)
  clear hA hX hl
  have hox := HLO.out t
  have hoy := HLOP.out t
  rw [HRx.out] at hox
  rw [HRy.out] at hoy
  have HOX := Lib.hid hox; have HOY := Lib.hid hoy
  clear hox hoy
  obtain ⟨tb, htb⟩ : ∃ b, sameLk Rx Ry = b := ⟨_, rfl⟩
  have HTB := Lib.hid htb
  clear htb
  have KC := Lib.hid (fun W (hb : Below w10.heap.size w10 W) => (show (W.cell? ⟨Bx, 0, none⟩ = some (.int .i64 kx) ∧ W.cell? ⟨Bx, 1, none⟩ = some (.slice a1x nx c1x) ∧ W.cell? ⟨Bx, 2, none⟩ = some (.slice a2x mx c2x) ∧ W.cell? ⟨Bx, 3, none⟩ = some (.bool ex) ∧ W.cell? ⟨Bx, 4, none⟩ = some (.slice a4x gx c4x) ∧ W.cell? ⟨By, 0, none⟩ = some (.int .i64 ky) ∧ W.cell? ⟨By, 1, none⟩ = some (.slice a1y ny c1y) ∧ W.cell? ⟨By, 2, none⟩ = some (.slice a2y my c2y) ∧ W.cell? ⟨By, 3, none⟩ = some (.bool ey) ∧ W.cell? ⟨By, 4, none⟩ = some (.slice a4y gy c4y) ∧ Below w10.heap.size w10 W) from ⟨kcell ((hb.block _ (kblock_lt Xx10.out)).trans Xx10.out) 0 _ rfl, kcell ((hb.block _ (kblock_lt Xx10.out)).trans Xx10.out) 1 _ rfl, kcell ((hb.block _ (kblock_lt Xx10.out)).trans Xx10.out) 2 _ rfl, kcell ((hb.block _ (kblock_lt Xx10.out)).trans Xx10.out) 3 _ rfl, kcell ((hb.block _ (kblock_lt Xx10.out)).trans Xx10.out) 4 _ rfl, kcell ((hb.block _ (kblock_lt Xy10.out)).trans Xy10.out) 0 _ rfl, kcell ((hb.block _ (kblock_lt Xy10.out)).trans Xy10.out) 1 _ rfl, kcell ((hb.block _ (kblock_lt Xy10.out)).trans Xy10.out) 2 _ rfl, kcell ((hb.block _ (kblock_lt Xy10.out)).trans Xy10.out) 3 _ rfl, kcell ((hb.block _ (kblock_lt Xy10.out)).trans Xy10.out) 4 _ rfl, hb⟩))
  have KS := Lib.hid (fun W W' (h : (W.cell? ⟨Bx, 0, none⟩ = some (.int .i64 kx) ∧ W.cell? ⟨Bx, 1, none⟩ = some (.slice a1x nx c1x) ∧ W.cell? ⟨Bx, 2, none⟩ = some (.slice a2x mx c2x) ∧ W.cell? ⟨Bx, 3, none⟩ = some (.bool ex) ∧ W.cell? ⟨Bx, 4, none⟩ = some (.slice a4x gx c4x) ∧ W.cell? ⟨By, 0, none⟩ = some (.int .i64 ky) ∧ W.cell? ⟨By, 1, none⟩ = some (.slice a1y ny c1y) ∧ W.cell? ⟨By, 2, none⟩ = some (.slice a2y my c2y) ∧ W.cell? ⟨By, 3, none⟩ = some (.bool ey) ∧ W.cell? ⟨By, 4, none⟩ = some (.slice a4y gy c4y) ∧ Below w10.heap.size w10 W)) (hb : Below W.heap.size W W') => KC.out W' (h.2.2.2.2.2.2.2.2.2.2.trans (hb.mono h.2.2.2.2.2.2.2.2.2.2.size)))
  have C1 := Lib.hid (fun W (h : (W.cell? ⟨Bx, 0, none⟩ = some (.int .i64 kx) ∧ W.cell? ⟨Bx, 1, none⟩ = some (.slice a1x nx c1x) ∧ W.cell? ⟨Bx, 2, none⟩ = some (.slice a2x mx c2x) ∧ W.cell? ⟨Bx, 3, none⟩ = some (.bool ex) ∧ W.cell? ⟨Bx, 4, none⟩ = some (.slice a4x gx c4x) ∧ W.cell? ⟨By, 0, none⟩ = some (.int .i64 ky) ∧ W.cell? ⟨By, 1, none⟩ = some (.slice a1y ny c1y) ∧ W.cell? ⟨By, 2, none⟩ = some (.slice a2y my c2y) ∧ W.cell? ⟨By, 3, none⟩ = some (.bool ey) ∧ W.cell? ⟨By, 4, none⟩ = some (.slice a4y gy c4y) ∧ Below w10.heap.size w10 W)) => show Calls Tryz.prog 53 #[.agg #[.int .i64 kx, .slice a1x nx c1x, .slice a2x mx c2x, .bool ex, .slice a4x gx c4x], .agg #[.int .i64 ky, .slice a1y ny c1y, .slice a2y my c2y, .bool ey, .slice a4y gy c4y]] W fun e w' => e = .returned (.bool tb) ∧ Below W.heap.size W w' from by
    have hc := look_Same [.int .i64 kx, .slice a1x nx c1x, .slice a2x mx c2x, .bool ex, .slice a4x gx c4x] [.int .i64 ky, .slice a1y ny c1y, .slice a2y my c2y, .bool ey, .slice a4y gy c4y] Rx Ry W (Lx10.out.below h.2.2.2.2.2.2.2.2.2.2) (Ly10.out.below h.2.2.2.2.2.2.2.2.2.2) HOX.out HOY.out
    rw [HTB.out] at hc; exact hc)
  have C2 := Lib.hid (fun W (h : (W.cell? ⟨Bx, 0, none⟩ = some (.int .i64 kx) ∧ W.cell? ⟨Bx, 1, none⟩ = some (.slice a1x nx c1x) ∧ W.cell? ⟨Bx, 2, none⟩ = some (.slice a2x mx c2x) ∧ W.cell? ⟨Bx, 3, none⟩ = some (.bool ex) ∧ W.cell? ⟨Bx, 4, none⟩ = some (.slice a4x gx c4x) ∧ W.cell? ⟨By, 0, none⟩ = some (.int .i64 ky) ∧ W.cell? ⟨By, 1, none⟩ = some (.slice a1y ny c1y) ∧ W.cell? ⟨By, 2, none⟩ = some (.slice a2y my c2y) ∧ W.cell? ⟨By, 3, none⟩ = some (.bool ey) ∧ W.cell? ⟨By, 4, none⟩ = some (.slice a4y gy c4y) ∧ Below w10.heap.size w10 W)) => show Calls Tryz.prog 52 #[.agg #[.int .i64 kx, .slice a1x nx c1x, .slice a2x mx c2x, .bool ex, .slice a4x gx c4x]] W fun e w' => ∃ ds, e = .returned (.agg ds.toArray) ∧ LkAt w' ds Rx ∧ Below W.heap.size W w' from law14_Of W [.int .i64 kx, .slice a1x nx c1x, .slice a2x mx c2x, .bool ex, .slice a4x gx c4x] Rx (Lx10.out.below h.2.2.2.2.2.2.2.2.2.2) HOX.out)
  have C3 := Lib.hid (fun W (h : (W.cell? ⟨Bx, 0, none⟩ = some (.int .i64 kx) ∧ W.cell? ⟨Bx, 1, none⟩ = some (.slice a1x nx c1x) ∧ W.cell? ⟨Bx, 2, none⟩ = some (.slice a2x mx c2x) ∧ W.cell? ⟨Bx, 3, none⟩ = some (.bool ex) ∧ W.cell? ⟨Bx, 4, none⟩ = some (.slice a4x gx c4x) ∧ W.cell? ⟨By, 0, none⟩ = some (.int .i64 ky) ∧ W.cell? ⟨By, 1, none⟩ = some (.slice a1y ny c1y) ∧ W.cell? ⟨By, 2, none⟩ = some (.slice a2y my c2y) ∧ W.cell? ⟨By, 3, none⟩ = some (.bool ey) ∧ W.cell? ⟨By, 4, none⟩ = some (.slice a4y gy c4y) ∧ Below w10.heap.size w10 W)) => show Calls Tryz.prog 52 #[.agg #[.int .i64 ky, .slice a1y ny c1y, .slice a2y my c2y, .bool ey, .slice a4y gy c4y]] W fun e w' => ∃ ds, e = .returned (.agg ds.toArray) ∧ LkAt w' ds Ry ∧ Below W.heap.size W w' from law14_Of W [.int .i64 ky, .slice a1y ny c1y, .slice a2y my c2y, .bool ey, .slice a4y gy c4y] Ry (Ly10.out.below h.2.2.2.2.2.2.2.2.2.2) HOY.out)
  have C4 := Lib.hid (fun W cs ds (h1 : LkAt W cs Rx) (h2 : LkAt W ds Ry) => show Calls Tryz.prog 51 #[.agg cs.toArray, .agg ds.toArray] W fun e w' => e = .returned (.bool tb) ∧ Below W.heap.size W w' from by
    have hc := ref_SameResult cs ds Rx Ry W h1 h2 HOX.out HOY.out
    rw [HTB.out] at hc; exact hc)
  have hcl : Below w10.heap.size w10 w10.drew := ⟨rfl, rfl, rfl, Nat.le_refl _, fun _ _ => rfl⟩
  have hS0 := KC.out _ hcl
  have HS0 := Lib.hid (KC.out _ (Below.refl w10.heap.size w10))
  have HF := Lib.hid (HB6.out.trans (D10.out.mono HB6.out.size))
  clear hcl HLK HLKP HLO HLOP HZ HQW HPW HALL HAP HOKC HCL HKQ HKP HLQ HLP HNQ HNP HFEW HFEP HCF HY
  obtain ⟨y0, y1, y2, y3, y4, y5, y6, y7, y8, y9, -⟩ := HS0.out
  go_wp2_with fail
  clear hW10 hx10
  go_region_held3 (fun W => W.cell? ⟨Bx, 0, none⟩ = some (.int .i64 kx) ∧ W.cell? ⟨Bx, 1, none⟩ = some (.slice a1x nx c1x) ∧ W.cell? ⟨Bx, 2, none⟩ = some (.slice a2x mx c2x) ∧ W.cell? ⟨Bx, 3, none⟩ = some (.bool ex) ∧ W.cell? ⟨Bx, 4, none⟩ = some (.slice a4x gx c4x) ∧ W.cell? ⟨By, 0, none⟩ = some (.int .i64 ky) ∧ W.cell? ⟨By, 1, none⟩ = some (.slice a1y ny c1y) ∧ W.cell? ⟨By, 2, none⟩ = some (.slice a2y my c2y) ∧ W.cell? ⟨By, 3, none⟩ = some (.bool ey) ∧ W.cell? ⟨By, 4, none⟩ = some (.slice a4y gy c4y) ∧ Below w10.heap.size w10 W)
    (first | with_reducible assumption | exact HS0.out)
    (first
      | ((with_reducible refine (C1.out _ (by with_reducible assumption)).mono ?_); rintro e u1 ⟨rfl, hb1⟩; have hS2 := KS.out _ _ (by with_reducible assumption) hb1; clear hb1)
      | ((with_reducible refine (C2.out _ (by with_reducible assumption)).mono ?_); rintro e u2 ⟨ds2, rfl, hl2, hb2⟩; obtain ⟨⟨i1, i2, i3⟩, ⟨i4, i5, i6⟩, ⟨i7, i8, i9⟩, rfl⟩ := hl2.shape; have L2 := Lib.hid hl2; have hS2 := KS.out _ _ (by with_reducible assumption) hb2; clear hl2 hb2)
      | ((with_reducible refine (C3.out _ (by with_reducible assumption)).mono ?_); rintro e u3 ⟨ds3, rfl, hl3, hb3⟩; obtain ⟨⟨j1, j2, j3⟩, ⟨j4, j5, j6⟩, ⟨j7, j8, j9⟩, rfl⟩ := hl3.shape; have M3 := Lib.hid (L2.out.below hb3); have L3 := Lib.hid hl3; have hS2 := KS.out _ _ (by with_reducible assumption) hb3; clear hl3 hb3)
      | ((with_reducible refine (C4.out _ _ _ M3.out L3.out).mono ?_); rintro e u4 ⟨rfl, hb4⟩; have hS2 := KS.out _ _ (by with_reducible assumption) hb4; clear hb4))
  all_goals
    go_wp2
    go_ret
    exact ⟨by first | rfl | simp, HF.out.trans (hS2.2.2.2.2.2.2.2.2.2.2.mono HF.out.size)⟩
end Go.Proofs.YtckammgnmgkieaaGreat
