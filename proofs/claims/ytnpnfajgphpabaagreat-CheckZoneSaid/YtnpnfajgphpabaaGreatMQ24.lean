import Derived.Test.YtnpnfajgphpabaaGreatMQ18
namespace Go.Proofs.YtnpnfajgphpabaaGreat
set_option maxRecDepth 20000
set_option maxHeartbeats 2000000
open Go.RowKit Go.Shelf
theorem qld (a : Int) (w : World) : Calls Tryz.prog 121 #[.int .u32 a] w fun e w' => e = .returned (.bool false) ∧ w = w' := by
 go_enter Tryz.func121, Tryz.ntmps121
 go_wp2
 go_ret
 exact ⟨qbU (by simp), rfl⟩
theorem qlj (a b : Int) (w : World) : Calls Tryz.prog 105 #[.int .u32 a, .int .u32 b] w fun e w' => e = .returned (.int .i64 (cmpI a b)) ∧ w = w' := by
 go_enter Tryz.func105, Tryz.ntmps105
 go_wp2_with (go_at_call 121; refine (qld _ _).mono ?_; rintro e w' ⟨rfl, rfl⟩)
 all_goals go_ret
 all_goals refine ⟨qaE ?_, rfl⟩
 ·have h : a < b := by assumption
  show -1 = _; rw [cmpI, if_pos h]
 ·have h : b ≤ a := by assumption
  have h2 : b < a := by assumption
  show 1 = _; rw [cmpI, if_neg (by omega), if_pos h2]
 ·have h : b ≤ a := by assumption
  have h2 : a ≤ b := by assumption
  show 0 = _; rw [cmpI, if_neg (by omega), if_neg (by omega)]
theorem qe4 (a : ByteArray) (w : World) : Calls Tryz.prog 123 #[.string a] w fun e w' => e = .returned (.bool false) ∧ w = w' := by
 go_enter Tryz.func123, Tryz.ntmps123
 go_wp2
 go_ret
 exact ⟨qbU (by simp), rfl⟩
theorem qlp (a b : ByteArray) (w : World) : Calls Tryz.prog 107 #[.string a, .string b] w fun e w' => e = .returned (.int .i64 (orderM a.data.toList b.data.toList)) ∧ w = w' := by
 have hA := qaL a
 have hB := qaL b
 have HA := qH0 hA; have HB := qH0 hB; clear hA hB
 cases h1 : Op.bytesLess a.toList b.toList with
 | true =>
  have r : orderM a.data.toList b.data.toList = -1 := by unfold orderM; rw [← HA.out, ← HB.out, if_pos h1]
  have R := qH0 r; clear r
  go_enter Tryz.func107, Tryz.ntmps107
  go_wp2_with (go_at_call 123; refine (qe4 _ _).mono ?_; rintro e w' ⟨rfl, rfl⟩)
  go_ret
  exact ⟨qaE R.out.symm, rfl⟩
 | false =>
  have h1n : ¬ Op.bytesLess a.toList b.toList = true := by rw [h1]; simp
  by_cases h2 : (a.toList == b.toList) = true
  ·have r : orderM a.data.toList b.data.toList = 0 := by unfold orderM; rw [← HA.out, ← HB.out, if_neg h1n, if_pos (by simpa using h2)]
   have R := qH0 r; clear r h1n
   go_enter Tryz.func107, Tryz.ntmps107
   go_wp2_with (go_at_call 123; refine (qe4 _ _).mono ?_; rintro e w' ⟨rfl, rfl⟩)
   go_ret
   exact ⟨qaE R.out.symm, rfl⟩
  ·have h2f : (a.toList == b.toList) = false := by simpa using h2
   have r : orderM a.data.toList b.data.toList = 1 := by unfold orderM; rw [← HA.out, ← HB.out, if_neg h1n, if_neg (by simpa using h2)]
   have R := qH0 r; clear r h1n h2
   go_enter Tryz.func107, Tryz.ntmps107
   go_wp2_with (go_at_call 123; refine (qe4 _ _).mono ?_; rintro e w' ⟨rfl, rfl⟩)
   go_ret
   exact ⟨qaE R.out.symm, rfl⟩
def qbq : List Int → Int
 | [] => 0
 | x :: r => if x = 0 then qbq r else x
theorem qgI (l : List Int) (k : Nat) (h : k < l.length) : qbq (l.drop k) = if l[k] = 0 then qbq (l.drop (k + 1)) else l[k] := by
 rw [List.drop_eq_getElem_cons h]; rfl
theorem cmp_Or (g c : Nat) (l : List Int) (w : World) (hm : l.length ≤ 1048576) (hc : ∀ j (h : j < l.length), w.cell? ⟨g, j, none⟩ = some (.int .i64 l[j])) :
 Calls Tryz.prog 37 #[.slice (some ⟨g, 0, none⟩) l.length c] w fun e w' => e = .returned (.int .i64 (qbq l)) ∧ w = w' := by
 have HC := qH0 hc; clear hc
 go_enter Tryz.func37, Tryz.ntmps37
 go_wp2
 go_loopw [8] (fun i wr => ∃ k : Nat, i = .int .i64 k ∧ k ≤ l.length ∧ Hid (qbq (l.drop k) = qbq l) ∧ w = wr) (fun i _ => l.length - (intOf i).toNat)
 case atStart => exact ⟨0, rfl, Nat.zero_le _, qH0 rfl, rfl⟩
 case round =>
  obtain ⟨k, rfl, hk, HD, rfl⟩ := hrel
  by_cases hlt : k < l.length
  ·have hcell := HC.out k hlt
   have hst := qgI l k hlt
   generalize hx : l[k] = x at *
   have HS := qH0 hst
   clear hst hx
   by_cases h0 : (x != 0) = true
   ·have hn : x ≠ 0 := by simpa using h0
    have HN := qH0 hn; clear hn
    go_wp2
    go_ret
    exact ⟨qaE (by rw [← HD.out, HS.out, if_neg HN.out]), rfl⟩
   ·have hn : (x != 0) = false := by simpa using h0
    have hz : x = 0 := by simpa using hn
    have HZ := qH0 hz; clear hz h0
    go_wp2
    go_roundw
    case rel => exact ⟨k + 1, by go_num, by omega, qH0 (by rw [← HD.out, HS.out, if_pos HZ.out]), trivial⟩
    case measure => simp [intOf]; omega
  ·obtain rfl : k = l.length := by omega
   have HE := qH0 (show qbq l = 0 by rw [← HD.out, List.drop_of_length_le (qN0)]; rfl)
   go_wp2
   go_ret
   exact ⟨qaE HE.out.symm, rfl⟩
end Go.Proofs.YtnpnfajgphpabaaGreat
namespace Go.Proofs.YtnpnfajgphpabaaGreat
set_option maxRecDepth 100000
set_option maxHeartbeats 4000000
open Go.RowKit Go.Shelf
section
attribute [local go_sem] Oper.semAt_some
theorem qhi (n : Nat) (hn : 1 ≤ n) (l b b2 : Nat) (v u : Value) (xs ys : List Value) (hs : xs.length ≤ maxLen) (hs2 : ys.length ≤ maxLen) (J Jx : List (Fin (min xs.length ys.length)) → World → Prop)
 (hJ : ∀ pre W k, J pre W → J pre (W.drewN k))
 (hY : ∀ pre x W, J pre W → pre.length < min xs.length ys.length → YieldAt Fence.wide (n - 1) Tryz.prog l (pairV xs ys x) W fun e W' =>
   (e = .returned (.bool true) ∧ J (pre ++ [x]) W' ∧ KeepP b b2 v u W W') ∨ (e = .returned (.bool false) ∧ Jx (pre ++ [x]) W'))
 (W : World) (hc : W.cell? ⟨b, 0, none⟩ = some v) (hc2 : W.cell? ⟨b2, 0, none⟩ = some u) (hA : SlAt W v xs) (hU : SlAt W u ys) (h0 : J [] W) :
 CallsIn Fence.wide n Tryz.prog 126 #[.func (.yield l) #[] #[], .pointer (some ⟨b, 0, none⟩), .pointer (some ⟨b2, 0, none⟩)] W fun e W' => (∃ v, e = .returned v) ∧
  ((∃ zs, zs = List.finRange (min xs.length ys.length) ∧ J zs W') ∨ (∃ pre, pre <+: List.finRange (min xs.length ys.length) ∧ Jx pre W')) := by
 unfold maxLen at hs hs2
 obtain ⟨a, c, rfl, hle, hnn, hx⟩ := hA
 obtain ⟨a2, c2, rfl, hle2, hnn2, hx2⟩ := hU
 obtain ⟨m, hm⟩ : ∃ m, min xs.length ys.length = m := ⟨_, rfl⟩
 have hmi : min (xs.length : Int) (ys.length : Int) = (m : Int) := by omega
 have hmx : m ≤ xs.length := by omega
 have hmy : m ≤ ys.length := by omega
 refine callsIn_of_wp Tryz.func126 rfl trivial ?_ rfl
 simp only [Tryz.ntmps126, List.size_toArray, List.length_cons, List.length_nil, Nat.reduceAdd, Nat.reduceSub, Array.replicate_succ, Array.replicate_zero, List.push_toArray, List.append_toArray, List.nil_append, List.cons_append]
 gi_wp2
 gi_loopw [10] (fun i wr => ∃ k : Nat, k ≤ m ∧ i = .int .i64 k ∧ J ((List.finRange (min xs.length ys.length)).take k) wr ∧ KeepP b b2 (.slice a xs.length c) (.slice a2 ys.length c2) W wr)
  (fun i _ => m - (intOf i).toNat)
 case atStart => exact ⟨0, Nat.zero_le _, rfl, h0, KeepP.refl _ _ _ _ _⟩
 case round =>
  obtain ⟨k, hk, rfl, hJs, hnx⟩ := hrel
  by_cases hlt : k < m
  ·have hkx : k < xs.length := by omega
   have hky : k < ys.length := by omega
   rcases hx with e | ⟨g, off, rfl, hg, hcells⟩
   ·subst e; simp at hkx
   rcases hx2 with e | ⟨g2, off2, rfl, hg2, hcells2⟩
   ·subst e; simp at hky
   have hcell : wr.cell? ⟨g, off + k, none⟩ = some xs[k] := ((hnx.1.2 g (qa5 hkx)).cell).trans (hcells k hkx)
   have hcell2 : wr.cell? ⟨g2, off2 + k, none⟩ = some ys[k] := ((hnx.2.2 g2 (qa5 hky)).cell).trans (hcells2 k hky)
   have hkm : k < min xs.length ys.length := by omega
   have hY1 := fun q => hY _ ⟨k, hkm⟩ (wr.drewN q) (hJ _ _ q hJs) (by simp; omega)
   have hcb : wr.cell? ⟨b, 0, none⟩ = some (.slice (some ⟨g, off, none⟩) xs.length c) := hnx.1.1.cell.trans hc
   have hcb2 : wr.cell? ⟨b2, 0, none⟩ = some (.slice (some ⟨g2, off2, none⟩) ys.length c2) := hnx.2.1.cell.trans hc2
   have htk : (List.finRange (min xs.length ys.length)).take (k + 1) = (List.finRange (min xs.length ys.length)).take k ++ [⟨k, hkm⟩] := qan _
   have HTK := qH0 htk; clear htk
   have HM := qH0 hm
   unfold pairV at hY1
   generalize xs[k] = sv at *
   generalize ys[k] = tv at *
   clear hcells hcells2 hm hmi
   gi_wp2
   refine qbe 9 rfl qae (by kernel_rfl) ?_
   simp only [List.take_succ_cons, List.take_zero, List.drop_succ_cons, List.drop_zero]
   repeat (quiet_step_in (fail))
   refine wpQuietIn_nil ?_
   intro _ hw'
   obtain ⟨nq, hw''⟩ := hw'
   subst hw''
   obtain ⟨fn, tmps, assign, body, hy, hR⟩ := hY1 nq
   clear hY1
   gi_wp2
   refine hR.mono ?_
   rintro e W3 (⟨rfl, hJ3, hk3⟩ | ⟨rfl, hJx3⟩)
   ·gi_wp2
    go_roundw
    case rel => exact ⟨k + 1, by omega, by simp, by rw [HTK.out]; exact hJ3, hnx.trans ((KeepP.drewN _ _).trans hk3)⟩
    case measure => simp [intOf]; omega
   ·gi_wp2
    refine bodyPost_ret (results_none rfl _ _ _) rfl ?_
    exact ⟨⟨_, rfl⟩, .inr ⟨_, by rw [← HTK.out]; exact List.take_prefix _ _, hJx3⟩⟩
  ·obtain rfl : k = m := by omega
   gi_wp2
   go_end0
   exact ⟨⟨_, rfl⟩, .inl ⟨_, by rw [List.take_of_length_le (by simp; omega)], hJs⟩⟩
theorem qf6 (n : Nat) (hn : 1 ≤ n) (b b2 : Nat) (v u : Value) (xs ys : List Value) (hs : xs.length ≤ maxLen) (hs2 : ys.length ≤ maxLen) (w : World) (hb : b < w.heap.size) (hb2 : b2 < w.heap.size)
 (hc : w.cell? ⟨b, 0, none⟩ = some v) (hc2 : w.cell? ⟨b2, 0, none⟩ = some u) (hA : SlAt w v xs) (hU : SlAt w u ys) :
 SeqStopsK Fence.wide n Tryz.prog 126 #[.pointer (some ⟨b, 0, none⟩), .pointer (some ⟨b2, 0, none⟩)] (pairV xs ys) (KeepP b b2 v u) (fun zs => zs = List.finRange (min xs.length ys.length)) (fun pre => pre <+: List.finRange (min xs.length ys.length)) (min xs.length ys.length) w := fun l J Jx W hW hJ _ hY h0 =>
 qhi n hn l b b2 v u xs ys hs hs2 J Jx (fun pre W' k h => hJ pre W' _ none h ⟨rfl, rfl, rfl, qN0, fun _ _ _ => rfl⟩ (fun _ e => by cases e)) hY W ((hW.cell (p := ⟨b, 0, none⟩) hb).trans hc) ((hW.cell (p := ⟨b2, 0, none⟩) hb2).trans hc2) (hA.below hW) (hU.below hW) h0
theorem qlg (a a2 : Option Addr) (n n2 c c2 : Nat) (w : World) :
 Calls Tryz.prog 119 #[.slice a n c, .slice a2 n2 c2] w fun e w' => e = .returned (.func (.func 126) #[] #[.pointer (some ⟨w.heap.size, 0, none⟩), .pointer (some ⟨w.heap.size + 1, 0, none⟩)]) ∧ w' = (w.alloc (.cells #[.slice a n c] 40)).alloc (.cells #[.slice a2 n2 c2] 40) := by
 go_enter Tryz.func119, Tryz.ntmps119
 go_wp2
 go_ret
 exact ⟨rfl, rfl⟩
theorem qlu (v u : Value) (xs ys : List Value) (cs : Nat → Int) (w : World) (hA : SlAt w v xs) (hU : SlAt w u ys) (hs : xs.length ≤ 1048576) (hs2 : ys.length ≤ 1048576)
 (hC : ∀ W, Below w.heap.size w W → ∀ j (h1 : j < xs.length) (h2 : j < ys.length), Calls Tryz.prog 38 #[xs[j], ys[j]] W fun e W' => e = .returned (.int .i64 (cs j)) ∧ Below W.heap.size W W') :
 Calls Tryz.prog 103 #[v, u, .func (.func 38) #[] #[]] w fun e w' => (∃ r, e = .returned (.int .i64 r) ∧ FirstC cs xs.length ys.length r) ∧ Below w.heap.size w w' := by
 obtain ⟨a, c, rfl, _⟩ := id hA
 obtain ⟨a2, c2, rfl, _⟩ := id hU
 refine (callsIn_wide (n := 5)).1 ?_
 refine callsIn_of_wp_marks Tryz.func103 rfl trivial ?_ rfl
 simp only [Tryz.ntmps103, List.size_toArray, List.length_cons, List.length_nil, Nat.reduceAdd, Nat.reduceSub, Array.replicate_succ, Array.replicate_zero, List.push_toArray, List.append_toArray, List.nil_append, List.cons_append]
 gi_wp2_with (refine ⟨trivial, ?_⟩; gi_at_call 119; refine (callsIn_wide.2 (qlg _ _ _ _ _ _ _)).mono ?_; rintro e w' ⟨rfl, rfl⟩)
 obtain ⟨W0, hW0⟩ : ∃ W0, ((((w.alloc (.cells #[.func (.func 38) #[] #[]] 96)).alloc (.cells #[.int .i64 0] 3)).alloc (.cells #[.slice a xs.length c] 40)).alloc (.cells #[.slice a2 ys.length c2] 40)) = W0 := ⟨_, rfl⟩
 have bF : Boxed W0 w.heap.size 96 (.func (.func 38) #[] #[]) := by rw [← hW0]; exact (((Boxed.new w _ _).alloc _).alloc _).alloc _
 have bI : Boxed W0 (w.heap.size + 1) 3 (.int .i64 0) := by
  have := Boxed.new (w.alloc (.cells #[.func (.func 38) #[] #[]] 96)) 3 (.int .i64 0)
  rw [World.size_alloc] at this
  rw [← hW0]; exact (this.alloc _).alloc _
 have bV : Boxed W0 (w.heap.size + 1 + 1) 40 (.slice a xs.length c) := by
  have := Boxed.new ((w.alloc (.cells #[.func (.func 38) #[] #[]] 96)).alloc (.cells #[.int .i64 0] 3)) 40 (.slice a xs.length c)
  rw [World.size_alloc, World.size_alloc] at this
  rw [← hW0]; exact this.alloc _
 have bU : Boxed W0 (w.heap.size + 1 + 1 + 1) 40 (.slice a2 ys.length c2) := by
  have := Boxed.new (((w.alloc (.cells #[.func (.func 38) #[] #[]] 96)).alloc (.cells #[.int .i64 0] 3)).alloc (.cells #[.slice a xs.length c] 40)) 40 (.slice a2 ys.length c2)
  rw [World.size_alloc, World.size_alloc, World.size_alloc] at this
  rw [← hW0]; exact this
 have hsz : W0.heap.size = w.heap.size + 4 := by rw [← hW0]; simp
 have hB0 : Below w.heap.size w W0 := by rw [← hW0]; exact ((((Below.refl _ w).alloc (qN0) _).alloc (by simp) _).alloc (by simp; omega) _).alloc (by simp; omega) _
 have hrow := hA.row_lt
 have hrow2 := hU.row_lt
 rw [hW0]
 have HZ := qH0 hsz; clear hsz hW0
 refine wpIn_rangeFunc_ownG rfl (by omega) (gf := 126) (lb := #[.pointer (some ⟨w.heap.size + 1 + 1, 0, none⟩), .pointer (some ⟨w.heap.size + 1 + 1 + 1, 0, none⟩)]) rfl trivial (enters_of Tryz.func126 (by kernel_rfl) rfl)
  (qf6 _ (by omega) (w.heap.size + 1 + 1) (w.heap.size + 1 + 1 + 1) (.slice a xs.length c) (.slice a2 ys.length c2) xs ys (by unfold maxLen; omega) (by unfold maxLen; omega) W0 (by rw [HZ.out]; omega) (by rw [HZ.out]; omega) bV.cell bU.cell (hA.below hB0) (hU.below hB0)) qdR
  (fun W l o o' hl h h1 h2 => ⟨qa9 (by rw [HZ.out]; omega) (fun g e => by have := hrow g e; rw [HZ.out]; omega) W l o o' hl h h1 h2, qa9 (by rw [HZ.out]; omega) (fun g e => by have := hrow2 g e; rw [HZ.out]; omega) W l o o' hl h h1 h2⟩) (qL0) (fun _ => rfl)
  (fun pre W => Below W0.heap.size W0 W ∧ ∀ j ∈ pre, cs j.val = 0)
  (fun k pre W => k = .ret ∧ Boxed W (w.heap.size + 1) 3 (.int .i64 (lastC cs pre)) ∧ Below w.heap.size w W ∧ ∃ p x, pre = p ++ [x] ∧ (∀ j ∈ p, cs j.val = 0) ∧ cs x.val ≠ 0)
  (OwnFrom.and (ownFrom_below (qN0) (qN0)) (ownFrom_pure _ _))
  (fun _ => OwnFrom.and (ownFrom_pure _ _) (OwnFrom.and (Own.from (boxed_own _ _ _) _) (OwnFrom.and (ownFrom_below (qN0) (by rw [HZ.out]; omega)) (ownFrom_pure _ _))))
  ⟨qL0, by simp⟩
  (fun j => { tmps := #[.slice a xs.length c, .slice a2 ys.length c2, .func (.func 38) #[] #[], undef, undef, .pointer (some ⟨w.heap.size, 0, none⟩), .pointer (some ⟨w.heap.size + 1, 0, none⟩), xs[j.val]'(by have := j.isLt; omega), ys[j.val]'(by have := j.isLt; omega), undef, .slice a xs.length c, .slice a2 ys.length c2, .func (.func 126) #[] #[.pointer (some ⟨w.heap.size + 1 + 1, 0, none⟩), .pointer (some ⟨w.heap.size + 1 + 1 + 1, 0, none⟩)], xs[j.val]'(by have := j.isLt; omega), ys[j.val]'(by have := j.isLt; omega), undef, undef, undef, undef, undef, undef, undef, undef, undef, undef, undef, undef], defers := [] }) ?assign ?body ?done ?stop
 case assign =>
  intro l x W K hK
  unfold pairV
  gi_wp2
  exact hK
 case body =>
  rintro l pre x W ⟨hB, hC0⟩ hlt
  have hxl := x.isLt
  have hx1 : x.val < xs.length := by omega
  have hx2 : x.val < ys.length := by omega
  have hBw : Below w.heap.size w W := hB0.trans (hB.mono (by rw [HZ.out]; omega))
  have hCk := hC W hBw x.val hx1 hx2
  have hFw : Boxed W w.heap.size 96 (.func (.func 38) #[] #[]) := (hB.block _ bF.lt).trans bF
  have hIw : Boxed W (w.heap.size + 1) 3 (.int .i64 0) := (hB.block _ bI.lt).trans bI
  have cF := hFw.cell
  have hsz1 := hB.size
  have hls := qa4 cs pre x
  generalize xs[x.val] = sv at *
  generalize ys[x.val] = tv at *
  generalize hq : cs x.val = q at *
  have HL := qH0 hls
  have HQ := qH0 hq
  clear hls hq
  by_cases hq0 : (q != 0) = true
  ·have hn : q ≠ 0 := by simpa using hq0
   have HN := qH0 hn; clear hn
   gi_wp2_with (refine ⟨trivial, ?_⟩; gi_at_call 38; refine (CallsIn.inRound l (callsIn_wide.2 hCk)).mono ?_; rintro e w2 ⟨rfl, hb2⟩; have hI2 : Boxed w2 (w.heap.size + 1) 3 (.int .i64 0) := (hb2.block _ hIw.lt).trans hIw; have c2 := hI2.cell; have f2 := hI2.frozen)
   have ko : KeepsOthers W w2 := ⟨hb2.size, fun k o hk _ => (hb2.block k (Array.getElem?_eq_some_iff.1 hk).1).trans hk⟩
   exact ⟨(ko.trans (KeepsOthers.setCell _ _ _)).from _, rfl, by rw [HL.out]; exact hI2.set _, (qB0 hBw hb2).setCell (p := ⟨w.heap.size + 1, 0, none⟩) (by simp) _, pre, x, rfl, hC0, by rw [HQ.out]; exact HN.out⟩
  ·have hn : (q != 0) = false := by simpa using hq0
   have HN := qH0 hn
   clear hq0
   gi_wp2_with (refine ⟨trivial, ?_⟩; gi_at_call 38; refine (CallsIn.inRound l (callsIn_wide.2 hCk)).mono ?_; rintro e w2 ⟨rfl, hb2⟩)
   have ko : KeepsOthers W w2 := ⟨hb2.size, fun k o hk _ => (hb2.block k (Array.getElem?_eq_some_iff.1 hk).1).trans hk⟩
   refine ⟨ko.from _, ⟨KeepN.below hb2 (by have := HZ.out; omega) (fun g e => by have := hrow g e; have := HZ.out; omega), KeepN.below hb2 (by have := HZ.out; omega) (fun g e => by have := hrow2 g e; have := HZ.out; omega)⟩, qB0 hB hb2, ?_⟩
   intro j hj
   rcases List.mem_append.1 hj with hj | hj
   ·exact hC0 j hj
   ·obtain rfl := List.mem_singleton.1 hj
    rw [HQ.out]; simpa using HN.out
 case done =>
  rintro D zs W hD rfl ⟨hB, hC0⟩ hK
  have hIw : Boxed W (w.heap.size + 1) 3 (.int .i64 0) := (hB.block _ bI.lt).trans bI
  have c0 := hIw.cell; have f0 := hIw.frozen
  have hBw : Below w.heap.size w W := hB0.trans (hB.mono (by rw [HZ.out]; omega))
  have hDn : w.heap.size + 1 ≠ D := by have := HZ.out; omega
  have HC0 := qH0 hC0; clear hC0
  gi_wp2_with (refine ⟨trivial, ?_⟩; gi_at_call 39; refine (callsIn_wide.2 (qa8 _ _ _)).mono ?_; rintro e w2 ⟨rfl, rfl⟩)
  refine ⟨by simp, .inl ⟨_, _, rfl, run_takeDeferred (qaw hK hDn.symm _), ?_⟩⟩
  refine ⟨_, qaC rfl Tryz.underlying3 _ _ rfl (qaq (hIw.set _) hDn _), ⟨_, rfl, .inr ⟨fun j h1 h2 => HC0.out ⟨j, by omega⟩ (List.mem_finRange _), rfl⟩⟩, ?_⟩
  exact qal (hBw.setCell (p := ⟨w.heap.size + 1, 0, none⟩) (by simp) _) (by have := HZ.out; omega) (qN0)
 case stop =>
  rintro D c3 pre W hD hp ⟨rfl, hI, hB, p, x, rfl, hC0, hne⟩ hK
  have hpf := qdQ hp
  have hDn : w.heap.size + 1 ≠ D := by have := HZ.out; omega
  rw [qa4] at hI
  have hxl := x.isLt
  gi_wp2
  refine ⟨by simp, .inl ⟨_, _, rfl, run_takeDeferred hK, ?_⟩⟩
  refine ⟨_, qaC rfl Tryz.underlying3 _ _ rfl (qaq hI hDn _), ⟨_, rfl, .inl ⟨x.val, by omega, by omega, fun j hj => hC0 _ (hpf j hj), hne, rfl⟩⟩, ?_⟩
  exact qal hB (by have := HZ.out; omega) (qN0)
end
end Go.Proofs.YtnpnfajgphpabaaGreat
namespace Go.Proofs.YtnpnfajgphpabaaGreat
set_option maxRecDepth 100000
set_option maxHeartbeats 4000000
open Go.RowKit Go.Shelf
section
attribute [local go_sem] Oper.semAt_some
theorem qhg (n : Nat) (hn : 1 ≤ n) (l b b2 : Nat) (v u : Value) (xs ys : List Value) (hs : xs.length ≤ maxLen) (hs2 : ys.length ≤ maxLen) (J Jx : List (Fin (min xs.length ys.length)) → World → Prop)
 (hJ : ∀ pre W k, J pre W → J pre (W.drewN k))
 (hY : ∀ pre x W, J pre W → pre.length < min xs.length ys.length → YieldAt Fence.wide (n - 1) Tryz.prog l (pairV xs ys x) W fun e W' =>
   (e = .returned (.bool true) ∧ J (pre ++ [x]) W' ∧ KeepP b b2 v u W W') ∨ (e = .returned (.bool false) ∧ Jx (pre ++ [x]) W'))
 (W : World) (hc : W.cell? ⟨b, 0, none⟩ = some v) (hc2 : W.cell? ⟨b2, 0, none⟩ = some u) (hA : SlAt W v xs) (hU : SlAt W u ys) (h0 : J [] W) :
 CallsIn Fence.wide n Tryz.prog 129 #[.func (.yield l) #[] #[], .pointer (some ⟨b, 0, none⟩), .pointer (some ⟨b2, 0, none⟩)] W fun e W' => (∃ v, e = .returned v) ∧
  ((∃ zs, zs = List.finRange (min xs.length ys.length) ∧ J zs W') ∨ (∃ pre, pre <+: List.finRange (min xs.length ys.length) ∧ Jx pre W')) := by
 unfold maxLen at hs hs2
 obtain ⟨a, c, rfl, hle, hnn, hx⟩ := hA
 obtain ⟨a2, c2, rfl, hle2, hnn2, hx2⟩ := hU
 obtain ⟨m, hm⟩ : ∃ m, min xs.length ys.length = m := ⟨_, rfl⟩
 have hmi : min (xs.length : Int) (ys.length : Int) = (m : Int) := by omega
 have hmx : m ≤ xs.length := by omega
 have hmy : m ≤ ys.length := by omega
 refine callsIn_of_wp Tryz.func129 rfl trivial ?_ rfl
 simp only [Tryz.ntmps129, List.size_toArray, List.length_cons, List.length_nil, Nat.reduceAdd, Nat.reduceSub, Array.replicate_succ, Array.replicate_zero, List.push_toArray, List.append_toArray, List.nil_append, List.cons_append]
 gi_wp2
 gi_loopw [10] (fun i wr => ∃ k : Nat, k ≤ m ∧ i = .int .i64 k ∧ J ((List.finRange (min xs.length ys.length)).take k) wr ∧ KeepP b b2 (.slice a xs.length c) (.slice a2 ys.length c2) W wr)
  (fun i _ => m - (intOf i).toNat)
 case atStart => exact ⟨0, Nat.zero_le _, rfl, h0, KeepP.refl _ _ _ _ _⟩
 case round =>
  obtain ⟨k, hk, rfl, hJs, hnx⟩ := hrel
  by_cases hlt : k < m
  ·have hkx : k < xs.length := by omega
   have hky : k < ys.length := by omega
   rcases hx with e | ⟨g, off, rfl, hg, hcells⟩
   ·subst e; simp at hkx
   rcases hx2 with e | ⟨g2, off2, rfl, hg2, hcells2⟩
   ·subst e; simp at hky
   have hcell : wr.cell? ⟨g, off + k, none⟩ = some xs[k] := ((hnx.1.2 g (qa5 hkx)).cell).trans (hcells k hkx)
   have hcell2 : wr.cell? ⟨g2, off2 + k, none⟩ = some ys[k] := ((hnx.2.2 g2 (qa5 hky)).cell).trans (hcells2 k hky)
   have hkm : k < min xs.length ys.length := by omega
   have hY1 := fun q => hY _ ⟨k, hkm⟩ (wr.drewN q) (hJ _ _ q hJs) (by simp; omega)
   have hcb : wr.cell? ⟨b, 0, none⟩ = some (.slice (some ⟨g, off, none⟩) xs.length c) := hnx.1.1.cell.trans hc
   have hcb2 : wr.cell? ⟨b2, 0, none⟩ = some (.slice (some ⟨g2, off2, none⟩) ys.length c2) := hnx.2.1.cell.trans hc2
   have htk : (List.finRange (min xs.length ys.length)).take (k + 1) = (List.finRange (min xs.length ys.length)).take k ++ [⟨k, hkm⟩] := qan _
   have HTK := qH0 htk; clear htk
   have HM := qH0 hm
   unfold pairV at hY1
   generalize xs[k] = sv at *
   generalize ys[k] = tv at *
   clear hcells hcells2 hm hmi
   gi_wp2
   refine qbe 9 rfl qae (by kernel_rfl) ?_
   simp only [List.take_succ_cons, List.take_zero, List.drop_succ_cons, List.drop_zero]
   repeat (quiet_step_in (fail))
   refine wpQuietIn_nil ?_
   intro _ hw'
   obtain ⟨nq, hw''⟩ := hw'
   subst hw''
   obtain ⟨fn, tmps, assign, body, hy, hR⟩ := hY1 nq
   clear hY1
   gi_wp2
   refine hR.mono ?_
   rintro e W3 (⟨rfl, hJ3, hk3⟩ | ⟨rfl, hJx3⟩)
   ·gi_wp2
    go_roundw
    case rel => exact ⟨k + 1, by omega, by simp, by rw [HTK.out]; exact hJ3, hnx.trans ((KeepP.drewN _ _).trans hk3)⟩
    case measure => simp [intOf]; omega
   ·gi_wp2
    refine bodyPost_ret (results_none rfl _ _ _) rfl ?_
    exact ⟨⟨_, rfl⟩, .inr ⟨_, by rw [← HTK.out]; exact List.take_prefix _ _, hJx3⟩⟩
  ·obtain rfl : k = m := by omega
   gi_wp2
   go_end0
   exact ⟨⟨_, rfl⟩, .inl ⟨_, by rw [List.take_of_length_le (by simp; omega)], hJs⟩⟩
theorem qgf (n : Nat) (hn : 1 ≤ n) (b b2 : Nat) (v u : Value) (xs ys : List Value) (hs : xs.length ≤ maxLen) (hs2 : ys.length ≤ maxLen) (w : World) (hb : b < w.heap.size) (hb2 : b2 < w.heap.size)
 (hc : w.cell? ⟨b, 0, none⟩ = some v) (hc2 : w.cell? ⟨b2, 0, none⟩ = some u) (hA : SlAt w v xs) (hU : SlAt w u ys) :
 SeqStopsK Fence.wide n Tryz.prog 129 #[.pointer (some ⟨b, 0, none⟩), .pointer (some ⟨b2, 0, none⟩)] (pairV xs ys) (KeepP b b2 v u) (fun zs => zs = List.finRange (min xs.length ys.length)) (fun pre => pre <+: List.finRange (min xs.length ys.length)) (min xs.length ys.length) w := fun l J Jx W hW hJ _ hY h0 =>
 qhg n hn l b b2 v u xs ys hs hs2 J Jx (fun pre W' k h => hJ pre W' _ none h ⟨rfl, rfl, rfl, qN0, fun _ _ _ => rfl⟩ (fun _ e => by cases e)) hY W ((hW.cell (p := ⟨b, 0, none⟩) hb).trans hc) ((hW.cell (p := ⟨b2, 0, none⟩) hb2).trans hc2) (hA.below hW) (hU.below hW) h0
theorem qkS (a a2 : Option Addr) (n n2 c c2 : Nat) (w : World) :
 Calls Tryz.prog 124 #[.slice a n c, .slice a2 n2 c2] w fun e w' => e = .returned (.func (.func 129) #[] #[.pointer (some ⟨w.heap.size, 0, none⟩), .pointer (some ⟨w.heap.size + 1, 0, none⟩)]) ∧ w' = (w.alloc (.cells #[.slice a n c] 42)).alloc (.cells #[.slice a2 n2 c2] 42) := by
 go_enter Tryz.func124, Tryz.ntmps124
 go_wp2
 go_ret
 exact ⟨rfl, rfl⟩
theorem qkR (v u : Value) (xs ys : List Value) (cs : Nat → Int) (w : World) (hA : SlAt w v xs) (hU : SlAt w u ys) (hs : xs.length ≤ 1048576) (hs2 : ys.length ≤ 1048576)
 (hC : ∀ W, Below w.heap.size w W → ∀ j (h1 : j < xs.length) (h2 : j < ys.length), Calls Tryz.prog 93 #[xs[j], ys[j]] W fun e W' => e = .returned (.int .i64 (cs j)) ∧ Below W.heap.size W W') :
 Calls Tryz.prog 108 #[v, u, .func (.func 93) #[] #[]] w fun e w' => (∃ r, e = .returned (.int .i64 r) ∧ FirstC cs xs.length ys.length r) ∧ Below w.heap.size w w' := by
 obtain ⟨a, c, rfl, _⟩ := id hA
 obtain ⟨a2, c2, rfl, _⟩ := id hU
 refine (callsIn_wide (n := 5)).1 ?_
 refine callsIn_of_wp_marks Tryz.func108 rfl trivial ?_ rfl
 simp only [Tryz.ntmps108, List.size_toArray, List.length_cons, List.length_nil, Nat.reduceAdd, Nat.reduceSub, Array.replicate_succ, Array.replicate_zero, List.push_toArray, List.append_toArray, List.nil_append, List.cons_append]
 gi_wp2_with (refine ⟨trivial, ?_⟩; gi_at_call 124; refine (callsIn_wide.2 (qkS _ _ _ _ _ _ _)).mono ?_; rintro e w' ⟨rfl, rfl⟩)
 obtain ⟨W0, hW0⟩ : ∃ W0, ((((w.alloc (.cells #[.func (.func 93) #[] #[]] 144)).alloc (.cells #[.int .i64 0] 3)).alloc (.cells #[.slice a xs.length c] 42)).alloc (.cells #[.slice a2 ys.length c2] 42)) = W0 := ⟨_, rfl⟩
 have bF : Boxed W0 w.heap.size 144 (.func (.func 93) #[] #[]) := by rw [← hW0]; exact (((Boxed.new w _ _).alloc _).alloc _).alloc _
 have bI : Boxed W0 (w.heap.size + 1) 3 (.int .i64 0) := by
  have := Boxed.new (w.alloc (.cells #[.func (.func 93) #[] #[]] 144)) 3 (.int .i64 0)
  rw [World.size_alloc] at this
  rw [← hW0]; exact (this.alloc _).alloc _
 have bV : Boxed W0 (w.heap.size + 1 + 1) 42 (.slice a xs.length c) := by
  have := Boxed.new ((w.alloc (.cells #[.func (.func 93) #[] #[]] 144)).alloc (.cells #[.int .i64 0] 3)) 42 (.slice a xs.length c)
  rw [World.size_alloc, World.size_alloc] at this
  rw [← hW0]; exact this.alloc _
 have bU : Boxed W0 (w.heap.size + 1 + 1 + 1) 42 (.slice a2 ys.length c2) := by
  have := Boxed.new (((w.alloc (.cells #[.func (.func 93) #[] #[]] 144)).alloc (.cells #[.int .i64 0] 3)).alloc (.cells #[.slice a xs.length c] 42)) 42 (.slice a2 ys.length c2)
  rw [World.size_alloc, World.size_alloc, World.size_alloc] at this
  rw [← hW0]; exact this
 have hsz : W0.heap.size = w.heap.size + 4 := by rw [← hW0]; simp
 have hB0 : Below w.heap.size w W0 := by rw [← hW0]; exact ((((Below.refl _ w).alloc (qN0) _).alloc (by simp) _).alloc (by simp; omega) _).alloc (by simp; omega) _
 have hrow := hA.row_lt
 have hrow2 := hU.row_lt
 rw [hW0]
 have HZ := qH0 hsz; clear hsz hW0
 refine wpIn_rangeFunc_ownG rfl (by omega) (gf := 129) (lb := #[.pointer (some ⟨w.heap.size + 1 + 1, 0, none⟩), .pointer (some ⟨w.heap.size + 1 + 1 + 1, 0, none⟩)]) rfl trivial (enters_of Tryz.func129 (by kernel_rfl) rfl)
  (qgf _ (by omega) (w.heap.size + 1 + 1) (w.heap.size + 1 + 1 + 1) (.slice a xs.length c) (.slice a2 ys.length c2) xs ys (by unfold maxLen; omega) (by unfold maxLen; omega) W0 (by rw [HZ.out]; omega) (by rw [HZ.out]; omega) bV.cell bU.cell (hA.below hB0) (hU.below hB0)) qdR
  (fun W l o o' hl h h1 h2 => ⟨qa9 (by rw [HZ.out]; omega) (fun g e => by have := hrow g e; rw [HZ.out]; omega) W l o o' hl h h1 h2, qa9 (by rw [HZ.out]; omega) (fun g e => by have := hrow2 g e; rw [HZ.out]; omega) W l o o' hl h h1 h2⟩) (qL0) (fun _ => rfl)
  (fun pre W => Below W0.heap.size W0 W ∧ ∀ j ∈ pre, cs j.val = 0)
  (fun k pre W => k = .ret ∧ Boxed W (w.heap.size + 1) 3 (.int .i64 (lastC cs pre)) ∧ Below w.heap.size w W ∧ ∃ p x, pre = p ++ [x] ∧ (∀ j ∈ p, cs j.val = 0) ∧ cs x.val ≠ 0)
  (OwnFrom.and (ownFrom_below (qN0) (qN0)) (ownFrom_pure _ _))
  (fun _ => OwnFrom.and (ownFrom_pure _ _) (OwnFrom.and (Own.from (boxed_own _ _ _) _) (OwnFrom.and (ownFrom_below (qN0) (by rw [HZ.out]; omega)) (ownFrom_pure _ _))))
  ⟨qL0, by simp⟩
  (fun j => { tmps := #[.slice a xs.length c, .slice a2 ys.length c2, .func (.func 93) #[] #[], undef, undef, .pointer (some ⟨w.heap.size, 0, none⟩), .pointer (some ⟨w.heap.size + 1, 0, none⟩), xs[j.val]'(by have := j.isLt; omega), ys[j.val]'(by have := j.isLt; omega), undef, .slice a xs.length c, .slice a2 ys.length c2, .func (.func 129) #[] #[.pointer (some ⟨w.heap.size + 1 + 1, 0, none⟩), .pointer (some ⟨w.heap.size + 1 + 1 + 1, 0, none⟩)], xs[j.val]'(by have := j.isLt; omega), ys[j.val]'(by have := j.isLt; omega), undef, undef, undef, undef, undef, undef, undef, undef, undef, undef, undef, undef], defers := [] }) ?assign ?body ?done ?stop
 case assign =>
  intro l x W K hK
  unfold pairV
  gi_wp2
  exact hK
 case body =>
  rintro l pre x W ⟨hB, hC0⟩ hlt
  have hxl := x.isLt
  have hx1 : x.val < xs.length := by omega
  have hx2 : x.val < ys.length := by omega
  have hBw : Below w.heap.size w W := hB0.trans (hB.mono (by rw [HZ.out]; omega))
  have hCk := hC W hBw x.val hx1 hx2
  have hFw : Boxed W w.heap.size 144 (.func (.func 93) #[] #[]) := (hB.block _ bF.lt).trans bF
  have hIw : Boxed W (w.heap.size + 1) 3 (.int .i64 0) := (hB.block _ bI.lt).trans bI
  have cF := hFw.cell
  have hsz1 := hB.size
  have hls := qa4 cs pre x
  generalize xs[x.val] = sv at *
  generalize ys[x.val] = tv at *
  generalize hq : cs x.val = q at *
  have HL := qH0 hls
  have HQ := qH0 hq
  clear hls hq
  by_cases hq0 : (q != 0) = true
  ·have hn : q ≠ 0 := by simpa using hq0
   have HN := qH0 hn; clear hn
   gi_wp2_with (refine ⟨trivial, ?_⟩; gi_at_call 93; refine (CallsIn.inRound l (callsIn_wide.2 hCk)).mono ?_; rintro e w2 ⟨rfl, hb2⟩; have hI2 : Boxed w2 (w.heap.size + 1) 3 (.int .i64 0) := (hb2.block _ hIw.lt).trans hIw; have c2 := hI2.cell; have f2 := hI2.frozen)
   have ko : KeepsOthers W w2 := ⟨hb2.size, fun k o hk _ => (hb2.block k (Array.getElem?_eq_some_iff.1 hk).1).trans hk⟩
   exact ⟨(ko.trans (KeepsOthers.setCell _ _ _)).from _, rfl, by rw [HL.out]; exact hI2.set _, (qB0 hBw hb2).setCell (p := ⟨w.heap.size + 1, 0, none⟩) (by simp) _, pre, x, rfl, hC0, by rw [HQ.out]; exact HN.out⟩
  ·have hn : (q != 0) = false := by simpa using hq0
   have HN := qH0 hn
   clear hq0
   gi_wp2_with (refine ⟨trivial, ?_⟩; gi_at_call 93; refine (CallsIn.inRound l (callsIn_wide.2 hCk)).mono ?_; rintro e w2 ⟨rfl, hb2⟩)
   have ko : KeepsOthers W w2 := ⟨hb2.size, fun k o hk _ => (hb2.block k (Array.getElem?_eq_some_iff.1 hk).1).trans hk⟩
   refine ⟨ko.from _, ⟨KeepN.below hb2 (by have := HZ.out; omega) (fun g e => by have := hrow g e; have := HZ.out; omega), KeepN.below hb2 (by have := HZ.out; omega) (fun g e => by have := hrow2 g e; have := HZ.out; omega)⟩, qB0 hB hb2, ?_⟩
   intro j hj
   rcases List.mem_append.1 hj with hj | hj
   ·exact hC0 j hj
   ·obtain rfl := List.mem_singleton.1 hj
    rw [HQ.out]; simpa using HN.out
 case done =>
  rintro D zs W hD rfl ⟨hB, hC0⟩ hK
  have hIw : Boxed W (w.heap.size + 1) 3 (.int .i64 0) := (hB.block _ bI.lt).trans bI
  have c0 := hIw.cell; have f0 := hIw.frozen
  have hBw : Below w.heap.size w W := hB0.trans (hB.mono (by rw [HZ.out]; omega))
  have hDn : w.heap.size + 1 ≠ D := by have := HZ.out; omega
  have HC0 := qH0 hC0; clear hC0
  gi_wp2_with (refine ⟨trivial, ?_⟩; gi_at_call 39; refine (callsIn_wide.2 (qa8 _ _ _)).mono ?_; rintro e w2 ⟨rfl, rfl⟩)
  refine ⟨by simp, .inl ⟨_, _, rfl, run_takeDeferred (qaw hK hDn.symm _), ?_⟩⟩
  refine ⟨_, qaC rfl Tryz.underlying3 _ _ rfl (qaq (hIw.set _) hDn _), ⟨_, rfl, .inr ⟨fun j h1 h2 => HC0.out ⟨j, by omega⟩ (List.mem_finRange _), rfl⟩⟩, ?_⟩
  exact qal (hBw.setCell (p := ⟨w.heap.size + 1, 0, none⟩) (by simp) _) (by have := HZ.out; omega) (qN0)
 case stop =>
  rintro D c3 pre W hD hp ⟨rfl, hI, hB, p, x, rfl, hC0, hne⟩ hK
  have hpf := qdQ hp
  have hDn : w.heap.size + 1 ≠ D := by have := HZ.out; omega
  rw [qa4] at hI
  have hxl := x.isLt
  gi_wp2
  refine ⟨by simp, .inl ⟨_, _, rfl, run_takeDeferred hK, ?_⟩⟩
  refine ⟨_, qaC rfl Tryz.underlying3 _ _ rfl (qaq hI hDn _), ⟨_, rfl, .inl ⟨x.val, by omega, by omega, fun j hj => hC0 _ (hpf j hj), hne, rfl⟩⟩, ?_⟩
  exact qal hB (by have := HZ.out; omega) (qN0)
end
end Go.Proofs.YtnpnfajgphpabaaGreat
