/-
  text.each at its four types, with a loop's body behind it. (Written by wip/tools/genrepe.py.)
-/
import Derived.Test.YtbnkecmhmcligaaDoorMQ28
import Derived.RangeFuncKeeps
import Derived.RangeFuncNested
namespace Go.Proofs.YtbnkecmhmcligaaDoor
set_option linter.unusedVariables false
set_option linter.unusedSimpArgs false
open Go.RowKit Go.Shelf
set_option maxRecDepth 20000
def txV (s : List UInt8) : Array Value := #[strV s]
theorem eRow_len {f : Ft} (hk : FtOK f) : (eRow f).length ≤ 10000000 := by
  have l0 := hk.path; have l1 := itoa_len f.line hk.line.1 hk.line.2; have l2 := wR_len f.err.toNat
  unfold eRow faultW; simp only [List.length_append, List.length_cons, List.length_nil]; omega
theorem fRow_len {f : Fw} (hk : FwOK f) : (fRow f).length ≤ 10000000 := by
  have l1 := wF_len f.kind.toNat; have l2 := hk.owner.2; have l3 := tyText_len f.ty hk.ty
  unfold fRow; simp only [List.length_append, List.length_cons, List.length_nil]; omega
theorem dRow_len {f : Ed} (hk : EdOK f) : (dRow f).length ≤ 10000000 := by
  have l1 := wE_len f.kind.toNat; have l2 := hk.par.2; have l3 := hk.chi.2; have l4 := hostW_len f.host hk.host; have l5 := itoa_len f.srv hk.srv.1 hk.srv.2
  unfold dRow; simp only [List.length_append, List.length_cons, List.length_nil]; omega
theorem sRow_len {f : Sn} (hk : SnOK f) : (sRow f).length ≤ 10000000 := by
  have l1 := wS_len f.kind.toNat; have l2 := hk.nm.2; have l3 := tyText_len f.ty hk.ty; have l4 := picksW_len f.picks hk.picks hk.pick
  unfold sRow; simp only [List.length_append, List.length_cons, List.length_nil]; omega
section
attribute [local go_sem] Oper.semAt_some
set_option maxRecDepth 100000 in
set_option maxHeartbeats 8000000 in
theorem each_E (nf : Nat) (hnf : 2 ≤ nf) (l : Nat) (vl : Value) (xs : List Ft) (hx : xs.length ≤ 1000) (hOK : ∀ f ∈ xs, FtOK f) (N : Nat) (R : World → Prop) (hA : ∀ W, R W → RowsAt FtAt W vl xs) (hTab : ∀ W, R W → Tab W) (hRb : ∀ W W', R W → Below W.heap.size W W' → R W') (Kp : World → World → Prop) (hkp : ∀ W W', R W → Kp W W' → R W')
    (J Jx : List (List UInt8) → World → Prop) (hJ : ∀ pre W W', J pre W → Below W.heap.size W W' → J pre W')
    (hY : ∀ pre s W, J pre W → pre.length < N → s.length ≤ 10000000 → YieldAt Fence.wide (nf - 1) Tryd.prog l (txV s) W fun e W' =>
      (e = .returned (.bool true) ∧ J (pre ++ [s]) W' ∧ Kp W W') ∨ (e = .returned (.bool false) ∧ Jx (pre ++ [s]) W'))
    (p0 : List (List UInt8)) (hN : p0.length + xs.length ≤ N) (W : World) (hR : R W) (h0 : J p0 W) :
    CallsIn Fence.wide nf Tryd.prog 19 #[vl, .func (.func 20) #[] #[], .func (.yield l) #[] #[]] W fun e W' =>
      (e = .returned (.bool true) ∧ J (p0 ++ xs.map eRow) W' ∧ R W') ∨ (e = .returned (.bool false) ∧ ∃ pre, Jx pre W') := by
  have hn1' : 1 ≤ nf := by omega
  obtain ⟨a, c, rfl, hnc⟩ := (hA W hR).shape
  obtain ⟨n, hn⟩ : ∃ n, xs.length = n := ⟨_, rfl⟩
  rw [hn] at hx hnc hN hA ⊢
  have HA := Lib.hid hA; have HTab := Lib.hid hTab; have HJJ := Lib.hid hJ; have HOK := Lib.hid hOK; have HNN := Lib.hid hN; have HN := Lib.hid hn; have HRB := Lib.hid hRb; have HKP := Lib.hid hkp; have HYY := Lib.hid hY
  have HR0 := Lib.hid hR; have HJ0 := Lib.hid h0
  clear hA hTab hJ hOK hN hn hRb hkp hY hR h0
  refine callsIn_of_wp Tryd.func19 rfl trivial ?_ rfl
  simp only [Tryd.ntmps19, List.size_toArray, List.length_cons, List.length_nil, Nat.reduceAdd, Nat.reduceSub, Array.replicate_succ, Array.replicate_zero, List.push_toArray, List.append_toArray, List.nil_append, List.cons_append]
  gi_wp2
  gi_loopw [11] (fun v wr => ∃ (k : Nat), v = .int .i64 k ∧ k ≤ n ∧ Hid (R wr) ∧ Hid (J (p0 ++ (xs.take k).map eRow) wr)) (fun v _ => n - (intOf v).toNat)
  case atStart => exact ⟨0, rfl, Nat.zero_le _, HR0, Lib.hid (by simpa using HJ0.out)⟩
  case round =>
    obtain ⟨k, rfl, hk, HR, HJ⟩ := hrel
    by_cases hlt : k < n
    · have hkl : k < xs.length := by rw [HN.out]; exact hlt
      have hltz : (k : Int) < (n : Int) := by omega
      obtain ⟨g, off, cs, rfl, hg, hat, hck, hcl⟩ := (HA.out wr HR.out).get FtAt.len hkl
      have hok := HOK.out _ (List.getElem_mem hkl)
      have hmap : p0 ++ (xs.take (k + 1)).map eRow = (p0 ++ (xs.take k).map eRow) ++ [eRow xs[k]] := by rw [List.take_succ_eq_append_getElem hkl, List.map_append, ← List.append_assoc]; rfl
      have hlen : (p0 ++ (xs.take k).map eRow).length < N := by have := HNN.out; simp only [List.length_append, List.length_map, List.length_take]; omega
      have hrl := eRow_len hok
      have HMAP := Lib.hid hmap; have HLEN := Lib.hid hlen
      generalize xs[k] = f at *
      have hrow : ∀ W', Below wr.heap.size wr W' → Calls Tryd.prog 20 #[cs.headD undef] W' fun e w' => e = .returned (.string ⟨(eRow f).toArray⟩) ∧ Below W'.heap.size W' w' := fun W' hb => by
        obtain ⟨b, rfl, hr⟩ := hat
        exact text_errorRow _ f W' (FtAt.below ⟨b, rfl, hr⟩ hb) hok ((HTab.out wr HR.out).below hb) _ rfl
      obtain ⟨b, rfl, -⟩ := id hat
      simp only [List.headD_cons] at hrow
      have c0 := hcl 0 _ rfl
      simp only [Nat.add_zero, Nat.mul_one] at c0
      have hB1 : Below wr.heap.size wr wr := Below.refl _ _
      have hcall := hrow _ hB1
      have HB1 := Lib.hid hB1
      generalize eRow f = sr at *
      have HRL := Lib.hid hrl
      clear hrow hat hok hck hcl hmap hlen hB1 hg hrl 
      gi_wp2_with (refine ⟨trivial, ?_⟩; gi_at_call 20; refine (callsIn_wide.2 hcall).mono ?_; rintro e w2 ⟨rfl, hb2⟩; have hb := HB1.out.trans (hb2.mono HB1.out.size); obtain ⟨fn, tmps, assign, body, hy, hRd⟩ := HYY.out _ sr w2 (HJJ.out _ _ _ HJ.out hb) HLEN.out HRL.out; unfold txV strV at hy; have HRR := Lib.hid hRd; have HR2 := Lib.hid (HRB.out _ _ HR.out hb); clear hRd hb hb2 hcall)
      refine HRR.out.mono ?_
      rintro e' W3 (⟨rfl, hJ3, hk3⟩ | ⟨rfl, hJx3⟩)
      · have HR3 := Lib.hid (HKP.out _ _ HR2.out hk3)
        have HJ3 := Lib.hid hJ3
        clear hJ3 hk3 HRR
        gi_wp2
        go_roundw
        case measure => simp [intOf]; omega
        case rel => exact ⟨k + 1, by go_num, by omega, HR3, Lib.hid (by rw [HMAP.out]; exact HJ3.out)⟩
      · gi_wp2
        refine bodyPost_ret (results_tmp rfl _ _ _) rfl ?_
        exact .inr ⟨rfl, _, hJx3⟩
    · obtain rfl : k = n := by omega
      have HM : Hid (p0 ++ (xs.take k).map eRow = p0 ++ xs.map eRow) := Lib.hid (by rw [List.take_of_length_le (by rw [HN.out]; exact Nat.le_refl _)])
      gi_wp2
      refine bodyPost_ret (results_tmp rfl _ _ _) rfl ?_
      exact .inl ⟨rfl, by rw [← HM.out]; exact HJ.out, HR.out⟩
set_option maxRecDepth 100000 in
set_option maxHeartbeats 8000000 in
theorem each_F (nf : Nat) (hnf : 2 ≤ nf) (l : Nat) (vl : Value) (xs : List Fw) (hx : xs.length ≤ 1000) (hOK : ∀ f ∈ xs, FwOK f) (N : Nat) (R : World → Prop) (hA : ∀ W, R W → RowsAt FwAt W vl xs) (hTab : ∀ W, R W → Tab W) (hRb : ∀ W W', R W → Below W.heap.size W W' → R W') (Kp : World → World → Prop) (hkp : ∀ W W', R W → Kp W W' → R W')
    (J Jx : List (List UInt8) → World → Prop) (hJ : ∀ pre W W', J pre W → Below W.heap.size W W' → J pre W')
    (hY : ∀ pre s W, J pre W → pre.length < N → s.length ≤ 10000000 → YieldAt Fence.wide (nf - 1) Tryd.prog l (txV s) W fun e W' =>
      (e = .returned (.bool true) ∧ J (pre ++ [s]) W' ∧ Kp W W') ∨ (e = .returned (.bool false) ∧ Jx (pre ++ [s]) W'))
    (p0 : List (List UInt8)) (hN : p0.length + xs.length ≤ N) (W : World) (hR : R W) (h0 : J p0 W) :
    CallsIn Fence.wide nf Tryd.prog 21 #[vl, .func (.func 22) #[] #[], .func (.yield l) #[] #[]] W fun e W' =>
      (e = .returned (.bool true) ∧ J (p0 ++ xs.map fRow) W' ∧ R W') ∨ (e = .returned (.bool false) ∧ ∃ pre, Jx pre W') := by
  have hn1' : 1 ≤ nf := by omega
  obtain ⟨a, c, rfl, hnc⟩ := (hA W hR).shape
  obtain ⟨n, hn⟩ : ∃ n, xs.length = n := ⟨_, rfl⟩
  rw [hn] at hx hnc hN hA ⊢
  have HA := Lib.hid hA; have HTab := Lib.hid hTab; have HJJ := Lib.hid hJ; have HOK := Lib.hid hOK; have HNN := Lib.hid hN; have HN := Lib.hid hn; have HRB := Lib.hid hRb; have HKP := Lib.hid hkp; have HYY := Lib.hid hY
  have HR0 := Lib.hid hR; have HJ0 := Lib.hid h0
  clear hA hTab hJ hOK hN hn hRb hkp hY hR h0
  refine callsIn_of_wp Tryd.func21 rfl trivial ?_ rfl
  simp only [Tryd.ntmps21, List.size_toArray, List.length_cons, List.length_nil, Nat.reduceAdd, Nat.reduceSub, Array.replicate_succ, Array.replicate_zero, List.push_toArray, List.append_toArray, List.nil_append, List.cons_append]
  gi_wp2
  gi_loopw [11] (fun v wr => ∃ (k : Nat), v = .int .i64 k ∧ k ≤ n ∧ Hid (R wr) ∧ Hid (J (p0 ++ (xs.take k).map fRow) wr)) (fun v _ => n - (intOf v).toNat)
  case atStart => exact ⟨0, rfl, Nat.zero_le _, HR0, Lib.hid (by simpa using HJ0.out)⟩
  case round =>
    obtain ⟨k, rfl, hk, HR, HJ⟩ := hrel
    by_cases hlt : k < n
    · have hkl : k < xs.length := by rw [HN.out]; exact hlt
      have hltz : (k : Int) < (n : Int) := by omega
      obtain ⟨g, off, cs, rfl, hg, hat, hck, hcl⟩ := (HA.out wr HR.out).get FwAt.len hkl
      have hok := HOK.out _ (List.getElem_mem hkl)
      have hmap : p0 ++ (xs.take (k + 1)).map fRow = (p0 ++ (xs.take k).map fRow) ++ [fRow xs[k]] := by rw [List.take_succ_eq_append_getElem hkl, List.map_append, ← List.append_assoc]; rfl
      have hlen : (p0 ++ (xs.take k).map fRow).length < N := by have := HNN.out; simp only [List.length_append, List.length_map, List.length_take]; omega
      have hrl := fRow_len hok
      have HMAP := Lib.hid hmap; have HLEN := Lib.hid hlen
      generalize xs[k] = f at *
      have hrow : ∀ W', Below wr.heap.size wr W' → Calls Tryd.prog 22 #[.agg cs.toArray] W' fun e w' => e = .returned (.string ⟨(fRow f).toArray⟩) ∧ Below W'.heap.size W' w' := fun W' hb => text_flawRow cs f W' (hat.below hb) hok ((HTab.out wr HR.out).below hb)
      obtain ⟨vo, rfl, a1⟩ := id hat
      generalize f.kind = kd at *
      generalize f.ty = ty at *
      obtain ⟨⟨q1, d1, rfl, -⟩, -⟩ := id a1
      generalize f.owner.length = n1 at *
      have c0 := hcl 0 _ rfl
      have c1 := hcl 1 _ rfl
      have c2 := hcl 2 _ rfl
      simp only [Nat.add_zero, Nat.mul_one] at c0
      have hB1 : Below wr.heap.size wr (wr.alloc (.cells #[.int .i64 kd, .slice q1 n1 d1, .int .i64 ty] 41)) := (Below.refl wr.heap.size wr).alloc (Nat.le_refl _) _
      have hcall := hrow _ hB1
      have HB1 := Lib.hid hB1
      generalize fRow f = sr at *
      have HRL := Lib.hid hrl
      clear hrow hat hok hck hcl hmap hlen hB1 hg hrl a1
      gi_wp2_with (refine ⟨trivial, ?_⟩; gi_at_call 22; refine (callsIn_wide.2 hcall).mono ?_; rintro e w2 ⟨rfl, hb2⟩; have hb := HB1.out.trans (hb2.mono HB1.out.size); obtain ⟨fn, tmps, assign, body, hy, hRd⟩ := HYY.out _ sr w2 (HJJ.out _ _ _ HJ.out hb) HLEN.out HRL.out; unfold txV strV at hy; have HRR := Lib.hid hRd; have HR2 := Lib.hid (HRB.out _ _ HR.out hb); clear hRd hb hb2 hcall)
      refine HRR.out.mono ?_
      rintro e' W3 (⟨rfl, hJ3, hk3⟩ | ⟨rfl, hJx3⟩)
      · have HR3 := Lib.hid (HKP.out _ _ HR2.out hk3)
        have HJ3 := Lib.hid hJ3
        clear hJ3 hk3 HRR
        gi_wp2
        go_roundw
        case measure => simp [intOf]; omega
        case rel => exact ⟨k + 1, by go_num, by omega, HR3, Lib.hid (by rw [HMAP.out]; exact HJ3.out)⟩
      · gi_wp2
        refine bodyPost_ret (results_tmp rfl _ _ _) rfl ?_
        exact .inr ⟨rfl, _, hJx3⟩
    · obtain rfl : k = n := by omega
      have HM : Hid (p0 ++ (xs.take k).map fRow = p0 ++ xs.map fRow) := Lib.hid (by rw [List.take_of_length_le (by rw [HN.out]; exact Nat.le_refl _)])
      gi_wp2
      refine bodyPost_ret (results_tmp rfl _ _ _) rfl ?_
      exact .inl ⟨rfl, by rw [← HM.out]; exact HJ.out, HR.out⟩
set_option maxRecDepth 100000 in
set_option maxHeartbeats 8000000 in
theorem each_D (nf : Nat) (hnf : 2 ≤ nf) (l : Nat) (vl : Value) (xs : List Ed) (hx : xs.length ≤ 1000) (hOK : ∀ f ∈ xs, EdOK f) (N : Nat) (R : World → Prop) (hA : ∀ W, R W → RowsAt EdAt W vl xs) (hTab : ∀ W, R W → Tab W) (hRb : ∀ W W', R W → Below W.heap.size W W' → R W') (Kp : World → World → Prop) (hkp : ∀ W W', R W → Kp W W' → R W')
    (J Jx : List (List UInt8) → World → Prop) (hJ : ∀ pre W W', J pre W → Below W.heap.size W W' → J pre W')
    (hY : ∀ pre s W, J pre W → pre.length < N → s.length ≤ 10000000 → YieldAt Fence.wide (nf - 1) Tryd.prog l (txV s) W fun e W' =>
      (e = .returned (.bool true) ∧ J (pre ++ [s]) W' ∧ Kp W W') ∨ (e = .returned (.bool false) ∧ Jx (pre ++ [s]) W'))
    (p0 : List (List UInt8)) (hN : p0.length + xs.length ≤ N) (W : World) (hR : R W) (h0 : J p0 W) :
    CallsIn Fence.wide nf Tryd.prog 23 #[vl, .func (.func 24) #[] #[], .func (.yield l) #[] #[]] W fun e W' =>
      (e = .returned (.bool true) ∧ J (p0 ++ xs.map dRow) W' ∧ R W') ∨ (e = .returned (.bool false) ∧ ∃ pre, Jx pre W') := by
  have hn1' : 1 ≤ nf := by omega
  obtain ⟨a, c, rfl, hnc⟩ := (hA W hR).shape
  obtain ⟨n, hn⟩ : ∃ n, xs.length = n := ⟨_, rfl⟩
  rw [hn] at hx hnc hN hA ⊢
  have HA := Lib.hid hA; have HTab := Lib.hid hTab; have HJJ := Lib.hid hJ; have HOK := Lib.hid hOK; have HNN := Lib.hid hN; have HN := Lib.hid hn; have HRB := Lib.hid hRb; have HKP := Lib.hid hkp; have HYY := Lib.hid hY
  have HR0 := Lib.hid hR; have HJ0 := Lib.hid h0
  clear hA hTab hJ hOK hN hn hRb hkp hY hR h0
  refine callsIn_of_wp Tryd.func23 rfl trivial ?_ rfl
  simp only [Tryd.ntmps23, List.size_toArray, List.length_cons, List.length_nil, Nat.reduceAdd, Nat.reduceSub, Array.replicate_succ, Array.replicate_zero, List.push_toArray, List.append_toArray, List.nil_append, List.cons_append]
  gi_wp2
  gi_loopw [11] (fun v wr => ∃ (k : Nat), v = .int .i64 k ∧ k ≤ n ∧ Hid (R wr) ∧ Hid (J (p0 ++ (xs.take k).map dRow) wr)) (fun v _ => n - (intOf v).toNat)
  case atStart => exact ⟨0, rfl, Nat.zero_le _, HR0, Lib.hid (by simpa using HJ0.out)⟩
  case round =>
    obtain ⟨k, rfl, hk, HR, HJ⟩ := hrel
    by_cases hlt : k < n
    · have hkl : k < xs.length := by rw [HN.out]; exact hlt
      have hltz : (k : Int) < (n : Int) := by omega
      obtain ⟨g, off, cs, rfl, hg, hat, hck, hcl⟩ := (HA.out wr HR.out).get EdAt.len hkl
      have hok := HOK.out _ (List.getElem_mem hkl)
      have hmap : p0 ++ (xs.take (k + 1)).map dRow = (p0 ++ (xs.take k).map dRow) ++ [dRow xs[k]] := by rw [List.take_succ_eq_append_getElem hkl, List.map_append, ← List.append_assoc]; rfl
      have hlen : (p0 ++ (xs.take k).map dRow).length < N := by have := HNN.out; simp only [List.length_append, List.length_map, List.length_take]; omega
      have hrl := dRow_len hok
      have HMAP := Lib.hid hmap; have HLEN := Lib.hid hlen
      generalize xs[k] = f at *
      have hrow : ∀ W', Below wr.heap.size wr W' → Calls Tryd.prog 24 #[.agg cs.toArray] W' fun e w' => e = .returned (.string ⟨(dRow f).toArray⟩) ∧ Below W'.heap.size W' w' := fun W' hb => text_edgeRow cs f W' (hat.below hb) hok ((HTab.out wr HR.out).below hb)
      obtain ⟨v1, v2, v3, rfl, a1, a2, a3⟩ := id hat
      generalize f.kind = kd at *
      generalize f.srv = sv at *
      obtain ⟨⟨q1, d1, rfl, -⟩, -⟩ := id a1
      obtain ⟨⟨q2, d2, rfl, -⟩, -⟩ := id a2
      obtain ⟨⟨q3, d3, rfl, -⟩, -⟩ := id a3
      generalize f.par.length = n1 at *
      generalize f.chi.length = n2 at *
      generalize f.host.length = n3 at *
      have c0 := hcl 0 _ rfl
      have c1 := hcl 1 _ rfl
      have c2 := hcl 2 _ rfl
      have c3 := hcl 3 _ rfl
      have c4 := hcl 4 _ rfl
      simp only [Nat.add_zero, Nat.mul_one] at c0
      have hB1 : Below wr.heap.size wr (wr.alloc (.cells #[.int .i64 kd, .slice q1 n1 d1, .slice q2 n2 d2, .slice q3 n3 d3, .int .i64 sv] 47)) := (Below.refl wr.heap.size wr).alloc (Nat.le_refl _) _
      have hcall := hrow _ hB1
      have HB1 := Lib.hid hB1
      generalize dRow f = sr at *
      have HRL := Lib.hid hrl
      clear hrow hat hok hck hcl hmap hlen hB1 hg hrl a1 a2 a3
      gi_wp2_with (refine ⟨trivial, ?_⟩; gi_at_call 24; refine (callsIn_wide.2 hcall).mono ?_; rintro e w2 ⟨rfl, hb2⟩; have hb := HB1.out.trans (hb2.mono HB1.out.size); obtain ⟨fn, tmps, assign, body, hy, hRd⟩ := HYY.out _ sr w2 (HJJ.out _ _ _ HJ.out hb) HLEN.out HRL.out; unfold txV strV at hy; have HRR := Lib.hid hRd; have HR2 := Lib.hid (HRB.out _ _ HR.out hb); clear hRd hb hb2 hcall)
      refine HRR.out.mono ?_
      rintro e' W3 (⟨rfl, hJ3, hk3⟩ | ⟨rfl, hJx3⟩)
      · have HR3 := Lib.hid (HKP.out _ _ HR2.out hk3)
        have HJ3 := Lib.hid hJ3
        clear hJ3 hk3 HRR
        gi_wp2
        go_roundw
        case measure => simp [intOf]; omega
        case rel => exact ⟨k + 1, by go_num, by omega, HR3, Lib.hid (by rw [HMAP.out]; exact HJ3.out)⟩
      · gi_wp2
        refine bodyPost_ret (results_tmp rfl _ _ _) rfl ?_
        exact .inr ⟨rfl, _, hJx3⟩
    · obtain rfl : k = n := by omega
      have HM : Hid (p0 ++ (xs.take k).map dRow = p0 ++ xs.map dRow) := Lib.hid (by rw [List.take_of_length_le (by rw [HN.out]; exact Nat.le_refl _)])
      gi_wp2
      refine bodyPost_ret (results_tmp rfl _ _ _) rfl ?_
      exact .inl ⟨rfl, by rw [← HM.out]; exact HJ.out, HR.out⟩
set_option maxRecDepth 100000 in
set_option maxHeartbeats 8000000 in
theorem each_S (nf : Nat) (hnf : 2 ≤ nf) (l : Nat) (vl : Value) (xs : List Sn) (hx : xs.length ≤ 1000) (hOK : ∀ f ∈ xs, SnOK f) (N : Nat) (R : World → Prop) (hA : ∀ W, R W → RowsAt SnAt W vl xs) (hTab : ∀ W, R W → Tab W) (hRb : ∀ W W', R W → Below W.heap.size W W' → R W') (Kp : World → World → Prop) (hkp : ∀ W W', R W → Kp W W' → R W')
    (J Jx : List (List UInt8) → World → Prop) (hJ : ∀ pre W W', J pre W → Below W.heap.size W W' → J pre W')
    (hY : ∀ pre s W, J pre W → pre.length < N → s.length ≤ 10000000 → YieldAt Fence.wide (nf - 1) Tryd.prog l (txV s) W fun e W' =>
      (e = .returned (.bool true) ∧ J (pre ++ [s]) W' ∧ Kp W W') ∨ (e = .returned (.bool false) ∧ Jx (pre ++ [s]) W'))
    (p0 : List (List UInt8)) (hN : p0.length + xs.length ≤ N) (W : World) (hR : R W) (h0 : J p0 W) :
    CallsIn Fence.wide nf Tryd.prog 25 #[vl, .func (.func 26) #[] #[], .func (.yield l) #[] #[]] W fun e W' =>
      (e = .returned (.bool true) ∧ J (p0 ++ xs.map sRow) W' ∧ R W') ∨ (e = .returned (.bool false) ∧ ∃ pre, Jx pre W') := by
  have hn1' : 1 ≤ nf := by omega
  obtain ⟨a, c, rfl, hnc⟩ := (hA W hR).shape
  obtain ⟨n, hn⟩ : ∃ n, xs.length = n := ⟨_, rfl⟩
  rw [hn] at hx hnc hN hA ⊢
  have HA := Lib.hid hA; have HTab := Lib.hid hTab; have HJJ := Lib.hid hJ; have HOK := Lib.hid hOK; have HNN := Lib.hid hN; have HN := Lib.hid hn; have HRB := Lib.hid hRb; have HKP := Lib.hid hkp; have HYY := Lib.hid hY
  have HR0 := Lib.hid hR; have HJ0 := Lib.hid h0
  clear hA hTab hJ hOK hN hn hRb hkp hY hR h0
  refine callsIn_of_wp Tryd.func25 rfl trivial ?_ rfl
  simp only [Tryd.ntmps25, List.size_toArray, List.length_cons, List.length_nil, Nat.reduceAdd, Nat.reduceSub, Array.replicate_succ, Array.replicate_zero, List.push_toArray, List.append_toArray, List.nil_append, List.cons_append]
  gi_wp2
  gi_loopw [11] (fun v wr => ∃ (k : Nat), v = .int .i64 k ∧ k ≤ n ∧ Hid (R wr) ∧ Hid (J (p0 ++ (xs.take k).map sRow) wr)) (fun v _ => n - (intOf v).toNat)
  case atStart => exact ⟨0, rfl, Nat.zero_le _, HR0, Lib.hid (by simpa using HJ0.out)⟩
  case round =>
    obtain ⟨k, rfl, hk, HR, HJ⟩ := hrel
    by_cases hlt : k < n
    · have hkl : k < xs.length := by rw [HN.out]; exact hlt
      have hltz : (k : Int) < (n : Int) := by omega
      obtain ⟨g, off, cs, rfl, hg, hat, hck, hcl⟩ := (HA.out wr HR.out).get SnAt.len hkl
      have hok := HOK.out _ (List.getElem_mem hkl)
      have hmap : p0 ++ (xs.take (k + 1)).map sRow = (p0 ++ (xs.take k).map sRow) ++ [sRow xs[k]] := by rw [List.take_succ_eq_append_getElem hkl, List.map_append, ← List.append_assoc]; rfl
      have hlen : (p0 ++ (xs.take k).map sRow).length < N := by have := HNN.out; simp only [List.length_append, List.length_map, List.length_take]; omega
      have hrl := sRow_len hok
      have HMAP := Lib.hid hmap; have HLEN := Lib.hid hlen
      generalize xs[k] = f at *
      have hrow : ∀ W', Below wr.heap.size wr W' → Calls Tryd.prog 26 #[.agg cs.toArray] W' fun e w' => e = .returned (.string ⟨(sRow f).toArray⟩) ∧ Below W'.heap.size W' w' := fun W' hb => text_seenRow cs f W' (hat.below hb) hok ((HTab.out wr HR.out).below hb)
      obtain ⟨v1, v2, rfl, a1, a2⟩ := id hat
      generalize f.kind = kd at *
      generalize f.ty = ty at *
      obtain ⟨⟨q1, d1, rfl, -⟩, -⟩ := id a1
      obtain ⟨q2, d2, rfl, -⟩ := id a2
      generalize f.nm.length = n1 at *
      generalize (List.map (fun p => Value.int IntKind.i64 p) f.picks).length = n2 at *
      have c0 := hcl 0 _ rfl
      have c1 := hcl 1 _ rfl
      have c2 := hcl 2 _ rfl
      have c3 := hcl 3 _ rfl
      simp only [Nat.add_zero, Nat.mul_one] at c0
      have hB1 : Below wr.heap.size wr (wr.alloc (.cells #[.int .i64 kd, .slice q1 n1 d1, .int .i64 ty, .slice q2 n2 d2] 44)) := (Below.refl wr.heap.size wr).alloc (Nat.le_refl _) _
      have hcall := hrow _ hB1
      have HB1 := Lib.hid hB1
      generalize sRow f = sr at *
      have HRL := Lib.hid hrl
      clear hrow hat hok hck hcl hmap hlen hB1 hg hrl a1 a2
      gi_wp2_with (refine ⟨trivial, ?_⟩; gi_at_call 26; refine (callsIn_wide.2 hcall).mono ?_; rintro e w2 ⟨rfl, hb2⟩; have hb := HB1.out.trans (hb2.mono HB1.out.size); obtain ⟨fn, tmps, assign, body, hy, hRd⟩ := HYY.out _ sr w2 (HJJ.out _ _ _ HJ.out hb) HLEN.out HRL.out; unfold txV strV at hy; have HRR := Lib.hid hRd; have HR2 := Lib.hid (HRB.out _ _ HR.out hb); clear hRd hb hb2 hcall)
      refine HRR.out.mono ?_
      rintro e' W3 (⟨rfl, hJ3, hk3⟩ | ⟨rfl, hJx3⟩)
      · have HR3 := Lib.hid (HKP.out _ _ HR2.out hk3)
        have HJ3 := Lib.hid hJ3
        clear hJ3 hk3 HRR
        gi_wp2
        go_roundw
        case measure => simp [intOf]; omega
        case rel => exact ⟨k + 1, by go_num, by omega, HR3, Lib.hid (by rw [HMAP.out]; exact HJ3.out)⟩
      · gi_wp2
        refine bodyPost_ret (results_tmp rfl _ _ _) rfl ?_
        exact .inr ⟨rfl, _, hJx3⟩
    · obtain rfl : k = n := by omega
      have HM : Hid (p0 ++ (xs.take k).map sRow = p0 ++ xs.map sRow) := Lib.hid (by rw [List.take_of_length_le (by rw [HN.out]; exact Nat.le_refl _)])
      gi_wp2
      refine bodyPost_ret (results_tmp rfl _ _ _) rfl ?_
      exact .inl ⟨rfl, by rw [← HM.out]; exact HJ.out, HR.out⟩
end
end Go.Proofs.YtbnkecmhmcligaaDoor

