/-
  What the library's sort asks of a program at a struct of k cells: its types; swapRange.
-/
import Derived.Test.YtckammgnmgkieaaMQ14
import Derived.RegionCalls
import Derived.WalkKit
import Derived.Deep.LoopGhost
import Derived.Shelf.RegionOpenPlain
import Derived.Test.YtckammgnmgkieaaMQ10
namespace Go.Proofs.Ytckammgnmgkieaa.Fls
open Go.RowKit Go.Shelf Go.Sort Go.Lib
set_option linter.unusedVariables false
set_option linter.unusedSimpArgs false
set_option linter.unusedSectionVars false

structure SLay (P : Program) (k : Nat) : Prop where
  mixed : P.follows .mixedOrders = true
  t0 : P.underlying 0 = some (.tuple #[])
  a0 : ∀ w, (isAgg 0).run P w = .ok false w
  z0 : ∀ w, (Go.sizeOf 0).run P w = .ok 1 w
  v0 : ∀ w, (zeroValue 0).run P w = .ok (.tuple #[]) w
  t3 : P.underlying 3 = some (.int .i64)
  a3 : ∀ w, (isAgg 3).run P w = .ok false w
  z3 : ∀ w, (Go.sizeOf 3).run P w = .ok 1 w
  v3 : ∀ w, (zeroValue 3).run P w = .ok (.int .i64 0) w
  t4 : P.underlying 4 = some (.bool)
  a4 : ∀ w, (isAgg 4).run P w = .ok false w
  z4 : ∀ w, (Go.sizeOf 4).run P w = .ok 1 w
  v4 : ∀ w, (zeroValue 4).run P w = .ok (.bool false) w
  t85 : P.underlying 122 = some (.int .u64)
  a85 : ∀ w, (isAgg 122).run P w = .ok false w
  z85 : ∀ w, (Go.sizeOf 122).run P w = .ok 1 w
  v85 : ∀ w, (zeroValue 122).run P w = .ok (.int .u64 0) w
  t43 : P.underlying 36 = some (.slice 43)
  a43 : ∀ w, (isAgg 36).run P w = .ok false w
  z43 : ∀ w, (Go.sizeOf 36).run P w = .ok 1 w
  v43 : ∀ w, (zeroValue 36).run P w = .ok (.slice none 0 0) w
  t69 : P.underlying 41 = some (.func #[43, 43] #[3] false)
  a69 : ∀ w, (isAgg 41).run P w = .ok false w
  z69 : ∀ w, (Go.sizeOf 41).run P w = .ok 1 w
  v69 : ∀ w, (zeroValue 41).run P w = .ok (.nilFunc) w
  aE : ∀ w, (isAgg 43).run P w = .ok true w
  zE : ∀ w, (Go.sizeOf 43).run P w = .ok k w
theorem slay_here : SLay Try.prog 3 where
  mixed := by kernel_rfl
  t0 := Try.underlying0
  a0 := Try.isAgg0
  z0 := Try.sizeOf0
  v0 := Try.zeroValue0
  t3 := Try.underlying3
  a3 := Try.isAgg3
  z3 := Try.sizeOf3
  v3 := Try.zeroValue3
  t4 := Try.underlying4
  a4 := Try.isAgg4
  z4 := Try.sizeOf4
  v4 := Try.zeroValue4
  t85 := Try.underlying122
  a85 := Try.isAgg122
  z85 := Try.sizeOf122
  v85 := Try.zeroValue122
  t43 := Try.underlying36
  a43 := Try.isAgg36
  z43 := Try.sizeOf36
  v43 := Try.zeroValue36
  t69 := Try.underlying41
  a69 := Try.isAgg41
  z69 := Try.sizeOf41
  v69 := Try.zeroValue41
  aE := Try.isAgg43
  zE := Try.sizeOf43

variable {P : Program} {α : Type} [Inhabited α]

/-- What an exchange of ranges leaves. -/
def SwrPost (enc : α → List Value) (k : Nat) (w : World) (blk off : Nat) (d : Array α) (a b n : Nat) (e : Ending) (w' : World) : Prop :=
  e = .returned (.tuple #[]) ∧ ∃ d' : Array α, d'.size = d.size ∧ (∀ x, x < d.size → d'[x]! = Stb.swr a b n (fun i => d[i]!) x) ∧ PermIn a (b + n) d d' ∧ SW enc k w blk off d' w'
structure SwrAt (enc : α → List Value) (k : Nat) (w : World) (blk off : Nat) (d : Array α) (a b i : Nat) (m : Nat) (dk : Array α) (W : World) : Prop where
  size : dk.size = d.size
  at_ : ∀ x, x < d.size → dk[x]! = Stb.swr a b i (fun i => d[i]!) x
  perm : PermIn a m d dk
  sw : SW enc k w blk off dk W

set_option maxHeartbeats 4000000 in
set_option maxRecDepth 1000000 in
theorem sort_swapRange {k : Nat} (L : SLay P k) (hF : P.funcs[89]? = some Try.f89) (enc : α → List Value) (hk : ∀ x, (enc x).length = k) (h1 : ∀ x, ∀ v ∈ enc x, v.oneCell' = true)
    (blk off cap a b n : Nat) (d : Array α) (fv : Value) (w : World) (hH : HoldsK enc k w blk off d) (hlt : blk < w.heap.size) (hab : a + n ≤ b) (hb : b + n ≤ d.size) (hsz : d.size < 4611686018427387904) :
    Calls P 89 #[.slice (some ⟨blk, off, none⟩) d.size cap, .int .i64 a, .int .i64 b, .int .i64 n, fv] w (SwrPost enc k w blk off d a b n) := by
  have mixed := L.mixed; have t0 := L.t0; have a0 := L.a0; have z0 := L.z0; have v0 := L.v0; have t3 := L.t3; have a3 := L.a3; have z3 := L.z3; have v3 := L.v3; have t4 := L.t4; have a4 := L.a4; have z4 := L.z4; have v4 := L.v4; have t85 := L.t85; have a85 := L.a85; have z85 := L.z85; have v85 := L.v85; have t43 := L.t43; have a43 := L.a43; have z43 := L.z43; have v43 := L.v43; have t69 := L.t69; have a69 := L.a69; have z69 := L.z69; have v69 := L.v69; have aE := L.aE; have zE := L.zE
  have u43 := run_underlying L.t43
  have HK := Lib.hid hk; have H1 := Lib.hid h1
  have HS0 : Hid (SwrAt enc k w blk off d a b 0 (b + n) d w) := Lib.hid ⟨rfl, fun x _ => (Stb.swr_zero a b _ x).symm, permIn_refl d a _, SW.refl hH hlt⟩
  clear hH hlt hk h1
  go_enter hF, Try.ntmps89
  go_wp2
  go_loopw [10] (fun vi wr => ∃ (i : Nat) (dk : Array α), vi = .int .i64 i ∧ i ≤ n ∧ Hid (SwrAt enc k w blk off d a b i (b + n) dk wr)) (fun vi _ => n - (intOf vi).toNat)
  case atStart => exact ⟨0, d, rfl, Nat.zero_le _, HS0⟩
  case round =>
    obtain ⟨i, dk, rfl, hi, HS⟩ := hrel
    by_cases hin : i < n
    · have hinz : (i : Int) < (n : Int) := by omega
      obtain ⟨xa, hxa⟩ : ∃ x, dk[a + i]! = x := ⟨_, rfl⟩
      obtain ⟨xb, hxb⟩ : ∃ x, dk[b + i]! = x := ⟨_, rfl⟩
      have hsk := HS.out.size
      have hD := HS.out.sw.drew
      have la := hD.load P HK.out (a + i) (by omega)
      have lb := hD.load P HK.out (b + i) (by omega)
      have s1 := hD.store1 P HK.out H1.out (a + i) (by omega) xb
      have s2 := hD.store2 P HK.out H1.out (a + i) (b + i) (by omega) (by omega) xb xa
      rw [hxa] at la
      rw [hxb] at lb
      have hsa : (enc xa).length = k := HK.out _
      have hsb : (enc xb).length = k := HK.out _
      have HN : Hid (SwrAt enc k w blk off d a b (i + 1) (b + n) (swp dk (a + i) (b + i)) ((wr.drew.setCells blk (off + (a + i) * k) (enc xb)).setCells blk (off + (b + i) * k) (enc xa))) := by
        have h := HS.out
        refine Lib.hid ⟨by rw [size_swp]; exact hsk, Stb.swr_step (by omega) (by omega) hsk h.at_, permIn_trans _ _ _ a (b + n) h.perm (swp_permIn dk a (b + n) (a + i) (b + i) (by omega) (by omega) (by omega) (by omega) (by omega)), ?_⟩
        have := hD.swap HK.out (a + i) (b + i) (by omega) (by omega)
        rwa [hxa, hxb] at this
      obtain ⟨ca, hca⟩ : ∃ c, c = enc xa := ⟨_, rfl⟩
      obtain ⟨cb, hcb⟩ : ∃ c, c = enc xb := ⟨_, rfl⟩
      rw [← hca] at la hsa
      rw [← hcb] at lb hsb s1
      rw [← hca, ← hcb] at s2 HN
      have ja : ((a : Int) + (i : Int)) < (d.size : Int) := by omega
      have jb : ((b : Int) + (i : Int)) < (d.size : Int) := by omega
      have pa : (0 : Int) ≤ (a : Int) + (i : Int) := by omega
      have pb : (0 : Int) ≤ (b : Int) + (i : Int) := by omega
      have ea : ((a : Int) + (i : Int)).toNat = a + i := by omega
      have eb : ((b : Int) + (i : Int)).toNat = b + i := by omega
      clear hca hcb hD hsk hxa hxb
      go_wp2_with fail
      go_big_region_o
      all_goals go_wp2
      go_roundw
      case measure => simp [intOf]; omega
      case rel => exact ⟨i + 1, _, by go_num, by omega, HN⟩
    · obtain rfl : i = n := by omega
      go_wp2
      go_end0
      have h := HS.out
      exact ⟨rfl, dk, h.size, h.at_, h.perm, h.sw⟩
end Go.Proofs.Ytckammgnmgkieaa.Fls

/-
  cmp.Compare at uint32 and at string; cmp.Or at int.
-/
namespace Go.Proofs.Ytckammgnmgkieaa
set_option maxRecDepth 20000
open Go.RowKit Go.Shelf

set_option maxHeartbeats 400000 in
theorem nan_u32 (a : Int) (w : World) : Calls Try.prog 94 #[.int .u32 a] w fun e w' => e = .returned (.bool false) ∧ w = w' := by
  go_enter Try.func94, Try.ntmps94
  go_wp2
  go_ret
  exact ⟨ret_bool (by simp), rfl⟩
set_option maxHeartbeats 400000 in
theorem cmp_u32 (a b : Int) (w : World) : Calls Try.prog 82 #[.int .u32 a, .int .u32 b] w fun e w' => e = .returned (.int .i64 (cmpI a b)) ∧ w = w' := by
  go_enter Try.func82, Try.ntmps82
  go_wp2_with (go_at_call 94; refine (nan_u32 _ _).mono ?_; rintro e w' ⟨rfl, rfl⟩)
  all_goals go_ret
  all_goals refine ⟨ret_int ?_, rfl⟩
  · have h : a < b := by assumption
    show -1 = _; rw [cmpI, if_pos h]
  · have h : b ≤ a := by assumption
    have h2 : b < a := by assumption
    show 1 = _; rw [cmpI, if_neg (by omega), if_pos h2]
  · have h : b ≤ a := by assumption
    have h2 : a ≤ b := by assumption
    show 0 = _; rw [cmpI, if_neg (by omega), if_neg (by omega)]

set_option maxHeartbeats 400000 in
theorem nan_str (a : ByteArray) (w : World) : Calls Try.prog 96 #[.string a] w fun e w' => e = .returned (.bool false) ∧ w = w' := by
  go_enter Try.func96, Try.ntmps96
  go_wp2
  go_ret
  exact ⟨ret_bool (by simp), rfl⟩
set_option maxHeartbeats 1000000 in
theorem cmp_str (a b : ByteArray) (w : World) : Calls Try.prog 84 #[.string a, .string b] w fun e w' => e = .returned (.int .i64 (orderM a.data.toList b.data.toList)) ∧ w = w' := by
  have hA := toList_data a
  have hB := toList_data b
  have HA := Lib.hid hA; have HB := Lib.hid hB; clear hA hB
  cases h1 : Op.bytesLess a.toList b.toList with
  | true =>
    have r : orderM a.data.toList b.data.toList = -1 := by unfold orderM; rw [← HA.out, ← HB.out, if_pos h1]
    have R := Lib.hid r; clear r
    go_enter Try.func84, Try.ntmps84
    go_wp2_with (go_at_call 96; refine (nan_str _ _).mono ?_; rintro e w' ⟨rfl, rfl⟩)
    go_ret
    exact ⟨ret_int R.out.symm, rfl⟩
  | false =>
    have h1n : ¬ Op.bytesLess a.toList b.toList = true := by rw [h1]; simp
    by_cases h2 : (a.toList == b.toList) = true
    · have r : orderM a.data.toList b.data.toList = 0 := by unfold orderM; rw [← HA.out, ← HB.out, if_neg h1n, if_pos (by simpa using h2)]
      have R := Lib.hid r; clear r h1n
      go_enter Try.func84, Try.ntmps84
      go_wp2_with (go_at_call 96; refine (nan_str _ _).mono ?_; rintro e w' ⟨rfl, rfl⟩)
      go_ret
      exact ⟨ret_int R.out.symm, rfl⟩
    · have h2f : (a.toList == b.toList) = false := by simpa using h2
      have r : orderM a.data.toList b.data.toList = 1 := by unfold orderM; rw [← HA.out, ← HB.out, if_neg h1n, if_neg (by simpa using h2)]
      have R := Lib.hid r; clear r h1n h2
      go_enter Try.func84, Try.ntmps84
      go_wp2_with (go_at_call 96; refine (nan_str _ _).mono ?_; rintro e w' ⟨rfl, rfl⟩)
      go_ret
      exact ⟨ret_int R.out.symm, rfl⟩

def firstNZ : List Int → Int
  | [] => 0
  | x :: r => if x = 0 then firstNZ r else x
theorem firstNZ_step (l : List Int) (k : Nat) (h : k < l.length) : firstNZ (l.drop k) = if l[k] = 0 then firstNZ (l.drop (k + 1)) else l[k] := by
  rw [List.drop_eq_getElem_cons h]; rfl
set_option maxHeartbeats 2000000 in
theorem cmp_Or (g c : Nat) (l : List Int) (w : World) (hm : l.length ≤ 1048576) (hc : ∀ j (h : j < l.length), w.cell? ⟨g, j, none⟩ = some (.int .i64 l[j])) :
    Calls Try.prog 24 #[.slice (some ⟨g, 0, none⟩) l.length c] w fun e w' => e = .returned (.int .i64 (firstNZ l)) ∧ w = w' := by
  have HC := Lib.hid hc; clear hc
  go_enter Try.func24, Try.ntmps24
  go_wp2
  go_loopw [8] (fun i wr => ∃ k : Nat, i = .int .i64 k ∧ k ≤ l.length ∧ Hid (firstNZ (l.drop k) = firstNZ l) ∧ w = wr) (fun i _ => l.length - (intOf i).toNat)
  case atStart => exact ⟨0, rfl, Nat.zero_le _, Lib.hid rfl, rfl⟩
  case round =>
    obtain ⟨k, rfl, hk, HD, rfl⟩ := hrel
    by_cases hlt : k < l.length
    · have hcell := HC.out k hlt
      have hst := firstNZ_step l k hlt
      generalize hx : l[k] = x at *
      have HS := Lib.hid hst
      clear hst hx
      by_cases h0 : (x != 0) = true
      · have hn : x ≠ 0 := by simpa using h0
        have HN := Lib.hid hn; clear hn
        go_wp2
        go_ret
        exact ⟨ret_int (by rw [← HD.out, HS.out, if_neg HN.out]), rfl⟩
      · have hn : (x != 0) = false := by simpa using h0
        have hz : x = 0 := by simpa using hn
        have HZ := Lib.hid hz; clear hz h0
        go_wp2
        go_roundw
        case rel => exact ⟨k + 1, by go_num, by omega, Lib.hid (by rw [← HD.out, HS.out, if_pos HZ.out]), trivial⟩
        case measure => simp [intOf]; omega
    · obtain rfl : k = l.length := by omega
      have HE := Lib.hid (show firstNZ l = 0 by rw [← HD.out, List.drop_of_length_le (Nat.le_refl _)]; rfl)
      go_wp2
      go_ret
      exact ⟨ret_int HE.out.symm, rfl⟩
end Go.Proofs.Ytckammgnmgkieaa

/-
  rdata.pairs, rdata.compareLists at uint32. (Written by wip/tools/gen4.py.)
-/
namespace Go.Proofs.Ytckammgnmgkieaa
set_option maxRecDepth 20000
open Go.RowKit Go.Shelf

section
attribute [local go_sem] Oper.semAt_some

set_option maxRecDepth 100000 in
set_option maxHeartbeats 2000000 in
theorem pairs1_inU32 (n : Nat) (hn : 1 ≤ n) (l b b2 : Nat) (v u : Value) (xs ys : List Value) (hs : xs.length ≤ maxLen) (hs2 : ys.length ≤ maxLen) (J Jx : List (Fin (min xs.length ys.length)) → World → Prop)
    (hJ : ∀ pre W k, J pre W → J pre (W.drewN k))
    (hY : ∀ pre x W, J pre W → pre.length < min xs.length ys.length → YieldAt Fence.wide (n - 1) Try.prog l (pairV xs ys x) W fun e W' =>
      (e = .returned (.bool true) ∧ J (pre ++ [x]) W' ∧ KeepP b b2 v u W W') ∨ (e = .returned (.bool false) ∧ Jx (pre ++ [x]) W'))
    (W : World) (hc : W.cell? ⟨b, 0, none⟩ = some v) (hc2 : W.cell? ⟨b2, 0, none⟩ = some u) (hA : SlAt W v xs) (hU : SlAt W u ys) (h0 : J [] W) :
    CallsIn Fence.wide n Try.prog 100 #[.func (.yield l) #[] #[], .pointer (some ⟨b, 0, none⟩), .pointer (some ⟨b2, 0, none⟩)] W fun e W' => (∃ v, e = .returned v) ∧
      ((∃ zs, zs = List.finRange (min xs.length ys.length) ∧ J zs W') ∨ (∃ pre, pre <+: List.finRange (min xs.length ys.length) ∧ Jx pre W')) := by
  unfold maxLen at hs hs2
  obtain ⟨a, c, rfl, hle, hnn, hx⟩ := hA
  obtain ⟨a2, c2, rfl, hle2, hnn2, hx2⟩ := hU
  obtain ⟨m, hm⟩ : ∃ m, min xs.length ys.length = m := ⟨_, rfl⟩
  have hmi : min (xs.length : Int) (ys.length : Int) = (m : Int) := by omega
  have hmx : m ≤ xs.length := by omega
  have hmy : m ≤ ys.length := by omega
  refine callsIn_of_wp Try.func100 rfl trivial ?_ rfl
  simp only [Try.ntmps100, List.size_toArray, List.length_cons, List.length_nil, Nat.reduceAdd, Nat.reduceSub, Array.replicate_succ, Array.replicate_zero, List.push_toArray, List.append_toArray, List.nil_append, List.cons_append]
  gi_wp2
  gi_loopw [10] (fun i wr => ∃ k : Nat, k ≤ m ∧ i = .int .i64 k ∧ J ((List.finRange (min xs.length ys.length)).take k) wr ∧ KeepP b b2 (.slice a xs.length c) (.slice a2 ys.length c2) W wr)
    (fun i _ => m - (intOf i).toNat)
  case atStart => exact ⟨0, Nat.zero_le _, rfl, h0, KeepP.refl _ _ _ _ _⟩
  case round =>
    obtain ⟨k, hk, rfl, hJs, hnx⟩ := hrel
    by_cases hlt : k < m
    · have hkx : k < xs.length := by omega
      have hky : k < ys.length := by omega
      rcases hx with e | ⟨g, off, rfl, hg, hcells⟩
      · subst e; simp at hkx
      rcases hx2 with e | ⟨g2, off2, rfl, hg2, hcells2⟩
      · subst e; simp at hky
      have hcell : wr.cell? ⟨g, off + k, none⟩ = some xs[k] := ((hnx.1.2 g (rowOf_at hkx)).cell).trans (hcells k hkx)
      have hcell2 : wr.cell? ⟨g2, off2 + k, none⟩ = some ys[k] := ((hnx.2.2 g2 (rowOf_at hky)).cell).trans (hcells2 k hky)
      have hkm : k < min xs.length ys.length := by omega
      have hY1 := fun q => hY _ ⟨k, hkm⟩ (wr.drewN q) (hJ _ _ q hJs) (by simp; omega)
      have hcb : wr.cell? ⟨b, 0, none⟩ = some (.slice (some ⟨g, off, none⟩) xs.length c) := hnx.1.1.cell.trans hc
      have hcb2 : wr.cell? ⟨b2, 0, none⟩ = some (.slice (some ⟨g2, off2, none⟩) ys.length c2) := hnx.2.1.cell.trans hc2
      have htk : (List.finRange (min xs.length ys.length)).take (k + 1) = (List.finRange (min xs.length ys.length)).take k ++ [⟨k, hkm⟩] := finRange_take_succ _
      have HTK := Lib.hid htk; clear htk
      have HM := Lib.hid hm
      unfold pairV at hY1
      generalize xs[k] = sv at *
      generalize ys[k] = tv at *
      clear hcells hcells2 hm hmi
      gi_wp2
      refine wpIn_region_tail 9 rfl follows_mixed (by kernel_rfl) ?_
      simp only [List.take_succ_cons, List.take_zero, List.drop_succ_cons, List.drop_zero]
      repeat (quiet_step_in (fail))
      refine wpQuietIn_nil ?_
      intro _ hw'
      obtain ⟨nq, hw''⟩ := hw'
      subst hw''
      obtain ⟨fn, tmps, assign, body, hy, hR⟩ := hY1 nq
      clear hY1
      gi_wp2
      refine hR.mono ?_
      rintro e W3 (⟨rfl, hJ3, hk3⟩ | ⟨rfl, hJx3⟩)
      · gi_wp2
        go_roundw
        case rel => exact ⟨k + 1, by omega, by simp, by rw [HTK.out]; exact hJ3, hnx.trans ((KeepP.drewN _ _).trans hk3)⟩
        case measure => simp [intOf]; omega
      · gi_wp2
        refine bodyPost_ret (results_none rfl _ _ _) rfl ?_
        exact ⟨⟨_, rfl⟩, .inr ⟨_, by rw [← HTK.out]; exact List.take_prefix _ _, hJx3⟩⟩
    · obtain rfl : k = m := by omega
      gi_wp2
      go_end0
      exact ⟨⟨_, rfl⟩, .inl ⟨_, by rw [List.take_of_length_le (by simp; omega)], hJs⟩⟩

theorem pairs_stopsU32 (n : Nat) (hn : 1 ≤ n) (b b2 : Nat) (v u : Value) (xs ys : List Value) (hs : xs.length ≤ maxLen) (hs2 : ys.length ≤ maxLen) (w : World) (hb : b < w.heap.size) (hb2 : b2 < w.heap.size)
    (hc : w.cell? ⟨b, 0, none⟩ = some v) (hc2 : w.cell? ⟨b2, 0, none⟩ = some u) (hA : SlAt w v xs) (hU : SlAt w u ys) :
    SeqStopsK Fence.wide n Try.prog 100 #[.pointer (some ⟨b, 0, none⟩), .pointer (some ⟨b2, 0, none⟩)] (pairV xs ys) (KeepP b b2 v u) (fun zs => zs = List.finRange (min xs.length ys.length)) (fun pre => pre <+: List.finRange (min xs.length ys.length)) (min xs.length ys.length) w := fun l J Jx W hW hJ _ hY h0 =>
  pairs1_inU32 n hn l b b2 v u xs ys hs hs2 J Jx (fun pre W' k h => hJ pre W' _ none h ⟨rfl, rfl, rfl, Nat.le_refl _, fun _ _ _ => rfl⟩ (fun _ e => by cases e)) hY W ((hW.cell (p := ⟨b, 0, none⟩) hb).trans hc) ((hW.cell (p := ⟨b2, 0, none⟩) hb2).trans hc2) (hA.below hW) (hU.below hW) h0
set_option maxHeartbeats 400000 in
theorem pairsU32 (a a2 : Option Addr) (n n2 c c2 : Nat) (w : World) :
    Calls Try.prog 93 #[.slice a n c, .slice a2 n2 c2] w fun e w' => e = .returned (.func (.func 100) #[] #[.pointer (some ⟨w.heap.size, 0, none⟩), .pointer (some ⟨w.heap.size + 1, 0, none⟩)]) ∧ w' = (w.alloc (.cells #[.slice a n c] 28)).alloc (.cells #[.slice a2 n2 c2] 28) := by
  go_enter Try.func93, Try.ntmps93
  go_wp2
  go_ret
  exact ⟨rfl, rfl⟩

set_option maxRecDepth 100000 in
set_option maxHeartbeats 4000000 in
theorem listsU32 (v u : Value) (xs ys : List Value) (cs : Nat → Int) (w : World) (hA : SlAt w v xs) (hU : SlAt w u ys) (hs : xs.length ≤ 1048576) (hs2 : ys.length ≤ 1048576)
    (hC : ∀ W, Below w.heap.size w W → ∀ j (h1 : j < xs.length) (h2 : j < ys.length), Calls Try.prog 82 #[xs[j], ys[j]] W fun e W' => e = .returned (.int .i64 (cs j)) ∧ Below W.heap.size W W') :
    Calls Try.prog 81 #[v, u, .func (.func 82) #[] #[]] w fun e w' => (∃ r, e = .returned (.int .i64 r) ∧ FirstC cs xs.length ys.length r) ∧ Below w.heap.size w w' := by
  obtain ⟨a, c, rfl, _⟩ := id hA
  obtain ⟨a2, c2, rfl, _⟩ := id hU
  refine (callsIn_wide (n := 5)).1 ?_
  refine callsIn_of_wp_marks Try.func81 rfl trivial ?_ rfl
  simp only [Try.ntmps81, List.size_toArray, List.length_cons, List.length_nil, Nat.reduceAdd, Nat.reduceSub, Array.replicate_succ, Array.replicate_zero, List.push_toArray, List.append_toArray, List.nil_append, List.cons_append]
  gi_wp2_with (refine ⟨trivial, ?_⟩; gi_at_call 93; refine (callsIn_wide.2 (pairsU32 _ _ _ _ _ _ _)).mono ?_; rintro e w' ⟨rfl, rfl⟩)
  obtain ⟨W0, hW0⟩ : ∃ W0, ((((w.alloc (.cells #[.func (.func 82) #[] #[]] 126)).alloc (.cells #[.int .i64 0] 3)).alloc (.cells #[.slice a xs.length c] 28)).alloc (.cells #[.slice a2 ys.length c2] 28)) = W0 := ⟨_, rfl⟩
  have bF : Boxed W0 w.heap.size 126 (.func (.func 82) #[] #[]) := by rw [← hW0]; exact (((Boxed.new w _ _).alloc _).alloc _).alloc _
  have bI : Boxed W0 (w.heap.size + 1) 3 (.int .i64 0) := by
    have := Boxed.new (w.alloc (.cells #[.func (.func 82) #[] #[]] 126)) 3 (.int .i64 0)
    rw [World.size_alloc] at this
    rw [← hW0]; exact (this.alloc _).alloc _
  have bV : Boxed W0 (w.heap.size + 1 + 1) 28 (.slice a xs.length c) := by
    have := Boxed.new ((w.alloc (.cells #[.func (.func 82) #[] #[]] 126)).alloc (.cells #[.int .i64 0] 3)) 28 (.slice a xs.length c)
    rw [World.size_alloc, World.size_alloc] at this
    rw [← hW0]; exact this.alloc _
  have bU : Boxed W0 (w.heap.size + 1 + 1 + 1) 28 (.slice a2 ys.length c2) := by
    have := Boxed.new (((w.alloc (.cells #[.func (.func 82) #[] #[]] 126)).alloc (.cells #[.int .i64 0] 3)).alloc (.cells #[.slice a xs.length c] 28)) 28 (.slice a2 ys.length c2)
    rw [World.size_alloc, World.size_alloc, World.size_alloc] at this
    rw [← hW0]; exact this
  have hsz : W0.heap.size = w.heap.size + 4 := by rw [← hW0]; simp
  have hB0 : Below w.heap.size w W0 := by rw [← hW0]; exact ((((Below.refl _ w).alloc (Nat.le_refl _) _).alloc (by simp) _).alloc (by simp; omega) _).alloc (by simp; omega) _
  have hrow := hA.row_lt
  have hrow2 := hU.row_lt
  rw [hW0]
  have HZ := Lib.hid hsz; clear hsz hW0
  refine wpIn_rangeFunc_ownG rfl (by omega) (gf := 100) (lb := #[.pointer (some ⟨w.heap.size + 1 + 1, 0, none⟩), .pointer (some ⟨w.heap.size + 1 + 1 + 1, 0, none⟩)]) rfl trivial (enters_of Try.func100 (by kernel_rfl) rfl)
    (pairs_stopsU32 _ (by omega) (w.heap.size + 1 + 1) (w.heap.size + 1 + 1 + 1) (.slice a xs.length c) (.slice a2 ys.length c2) xs ys (by unfold maxLen; omega) (by unfold maxLen; omega) W0 (by rw [HZ.out]; omega) (by rw [HZ.out]; omega) bV.cell bU.cell (hA.below hB0) (hU.below hB0)) keepP_t
    (fun W l o o' hl h h1 h2 => ⟨keepN_b (by rw [HZ.out]; omega) (fun g e => by have := hrow g e; rw [HZ.out]; omega) W l o o' hl h h1 h2, keepN_b (by rw [HZ.out]; omega) (fun g e => by have := hrow2 g e; rw [HZ.out]; omega) W l o o' hl h h1 h2⟩) (Below.refl _ _) (fun _ => rfl)
    (fun pre W => Below W0.heap.size W0 W ∧ ∀ j ∈ pre, cs j.val = 0)
    (fun k pre W => k = .ret ∧ Boxed W (w.heap.size + 1) 3 (.int .i64 (lastC cs pre)) ∧ Below w.heap.size w W ∧ ∃ p x, pre = p ++ [x] ∧ (∀ j ∈ p, cs j.val = 0) ∧ cs x.val ≠ 0)
    (OwnFrom.and (ownFrom_below (Nat.le_refl _) (Nat.le_refl _)) (ownFrom_pure _ _))
    (fun _ => OwnFrom.and (ownFrom_pure _ _) (OwnFrom.and (Own.from (boxed_own _ _ _) _) (OwnFrom.and (ownFrom_below (Nat.le_refl _) (by rw [HZ.out]; omega)) (ownFrom_pure _ _))))
    ⟨Below.refl _ _, by simp⟩
    (fun j => { tmps := #[.slice a xs.length c, .slice a2 ys.length c2, .func (.func 82) #[] #[], undef, undef, .pointer (some ⟨w.heap.size, 0, none⟩), .pointer (some ⟨w.heap.size + 1, 0, none⟩), xs[j.val]'(by have := j.isLt; omega), ys[j.val]'(by have := j.isLt; omega), undef, .slice a xs.length c, .slice a2 ys.length c2, .func (.func 100) #[] #[.pointer (some ⟨w.heap.size + 1 + 1, 0, none⟩), .pointer (some ⟨w.heap.size + 1 + 1 + 1, 0, none⟩)], xs[j.val]'(by have := j.isLt; omega), ys[j.val]'(by have := j.isLt; omega), undef, undef, undef, undef, undef, undef, undef, undef, undef, undef, undef, undef], defers := [] }) ?assign ?body ?done ?stop
  case assign =>
    intro l x W K hK
    unfold pairV
    gi_wp2
    exact hK
  case body =>
    rintro l pre x W ⟨hB, hC0⟩ hlt
    have hxl := x.isLt
    have hx1 : x.val < xs.length := by omega
    have hx2 : x.val < ys.length := by omega
    have hBw : Below w.heap.size w W := hB0.trans (hB.mono (by rw [HZ.out]; omega))
    have hCk := hC W hBw x.val hx1 hx2
    have hFw : Boxed W w.heap.size 126 (.func (.func 82) #[] #[]) := (hB.block _ bF.lt).trans bF
    have hIw : Boxed W (w.heap.size + 1) 3 (.int .i64 0) := (hB.block _ bI.lt).trans bI
    have cF := hFw.cell
    have hsz1 := hB.size
    have hls := lastC_snoc cs pre x
    generalize xs[x.val] = sv at *
    generalize ys[x.val] = tv at *
    generalize hq : cs x.val = q at *
    have HL := Lib.hid hls
    have HQ := Lib.hid hq
    clear hls hq
    by_cases hq0 : (q != 0) = true
    · have hn : q ≠ 0 := by simpa using hq0
      have HN := Lib.hid hn; clear hn
      gi_wp2_with (refine ⟨trivial, ?_⟩; gi_at_call 82; refine (CallsIn.inRound l (callsIn_wide.2 hCk)).mono ?_; rintro e w2 ⟨rfl, hb2⟩; have hI2 : Boxed w2 (w.heap.size + 1) 3 (.int .i64 0) := (hb2.block _ hIw.lt).trans hIw; have c2 := hI2.cell; have f2 := hI2.frozen)
      have ko : KeepsOthers W w2 := ⟨hb2.size, fun k o hk _ => (hb2.block k (Array.getElem?_eq_some_iff.1 hk).1).trans hk⟩
      exact ⟨(ko.trans (KeepsOthers.setCell _ _ _)).from _, rfl, by rw [HL.out]; exact hI2.set _, (hBw.trans (hb2.mono hBw.size)).setCell (p := ⟨w.heap.size + 1, 0, none⟩) (by simp) _, pre, x, rfl, hC0, by rw [HQ.out]; exact HN.out⟩
    · have hn : (q != 0) = false := by simpa using hq0
      have HN := Lib.hid hn
      clear hq0
      gi_wp2_with (refine ⟨trivial, ?_⟩; gi_at_call 82; refine (CallsIn.inRound l (callsIn_wide.2 hCk)).mono ?_; rintro e w2 ⟨rfl, hb2⟩)
      have ko : KeepsOthers W w2 := ⟨hb2.size, fun k o hk _ => (hb2.block k (Array.getElem?_eq_some_iff.1 hk).1).trans hk⟩
      refine ⟨ko.from _, ⟨KeepN.below hb2 (by have := HZ.out; omega) (fun g e => by have := hrow g e; have := HZ.out; omega), KeepN.below hb2 (by have := HZ.out; omega) (fun g e => by have := hrow2 g e; have := HZ.out; omega)⟩, hB.trans (hb2.mono hB.size), ?_⟩
      intro j hj
      rcases List.mem_append.1 hj with hj | hj
      · exact hC0 j hj
      · obtain rfl := List.mem_singleton.1 hj
        rw [HQ.out]; simpa using HN.out
  case done =>
    rintro D zs W hD rfl ⟨hB, hC0⟩ hK
    have hIw : Boxed W (w.heap.size + 1) 3 (.int .i64 0) := (hB.block _ bI.lt).trans bI
    have c0 := hIw.cell; have f0 := hIw.frozen
    have hBw : Below w.heap.size w W := hB0.trans (hB.mono (by rw [HZ.out]; omega))
    have hDn : w.heap.size + 1 ≠ D := by have := HZ.out; omega
    have HC0 := Lib.hid hC0; clear hC0
    gi_wp2_with (refine ⟨trivial, ?_⟩; gi_at_call 26; refine (callsIn_wide.2 (cmp_int _ _ _)).mono ?_; rintro e w2 ⟨rfl, rfl⟩)
    refine ⟨by simp, .inl ⟨_, _, rfl, run_takeDeferred (heap_setOther hK hDn.symm _), ?_⟩⟩
    refine ⟨_, results_cell rfl Try.underlying3 _ _ rfl (out_cell (hIw.set _) hDn _), ⟨_, rfl, .inr ⟨fun j h1 h2 => HC0.out ⟨j, by omega⟩ (List.mem_finRange _), rfl⟩⟩, ?_⟩
    exact below_putO (hBw.setCell (p := ⟨w.heap.size + 1, 0, none⟩) (by simp) _) (by have := HZ.out; omega) (Nat.le_refl _)
  case stop =>
    rintro D c3 pre W hD hp ⟨rfl, hI, hB, p, x, rfl, hC0, hne⟩ hK
    have hpf := pre_fin hp
    have hDn : w.heap.size + 1 ≠ D := by have := HZ.out; omega
    rw [lastC_snoc] at hI
    have hxl := x.isLt
    gi_wp2
    refine ⟨by simp, .inl ⟨_, _, rfl, run_takeDeferred hK, ?_⟩⟩
    refine ⟨_, results_cell rfl Try.underlying3 _ _ rfl (out_cell hI hDn _), ⟨_, rfl, .inl ⟨x.val, by omega, by omega, fun j hj => hC0 _ (hpf j hj), hne, rfl⟩⟩, ?_⟩
    exact below_putO hB (by have := HZ.out; omega) (Nat.le_refl _)

end
end Go.Proofs.Ytckammgnmgkieaa

