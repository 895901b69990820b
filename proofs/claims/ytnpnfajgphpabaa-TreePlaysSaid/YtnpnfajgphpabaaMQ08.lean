/-
  Contract of name.Check.
-/
import Derived.Test.YtnpnfajgphpabaaMQ28
namespace Go.Proofs.Ytnpnfajgphpabaa
set_option linter.unusedVariables false
set_option linter.unusedSimpArgs false
set_option maxRecDepth 20000
open Go.RowKit Go.Shelf

/-- The labels of the indexes. -/
def atN (xs : Nm) (pre : List (Fin xs.length)) : Nm := pre.map fun j => xs[j]
theorem atN_snoc (xs : Nm) (pre : List (Fin xs.length)) (j : Fin xs.length) : atN xs (pre ++ [j]) = atN xs pre ++ [xs[j]] := by simp [atN]
theorem atN_all (xs : Nm) : atN xs (List.finRange xs.length) = xs := map_fin xs
theorem atN_prefix {xs : Nm} {pre : List (Fin xs.length)} (h : pre <+: List.finRange xs.length) : atN xs pre <+: xs := by
  have := h.map fun j => xs[j]; rwa [map_fin] at this

section
attribute [local go_sem] Oper.semAt_some
end
end Go.Proofs.Ytnpnfajgphpabaa

/-
  Contract of name.Same.
-/
namespace Go.Proofs.Ytnpnfajgphpabaa
set_option linter.unusedVariables false
set_option linter.unusedSimpArgs false
set_option maxRecDepth 20000
open Go.RowKit Go.Shelf

theorem KeepN.drewN {b : Nat} {v : Value} (W : World) (n : Nat) : KeepN b v W (W.drewN n) := ⟨rfl, fun _ _ => rfl⟩
theorem keepsOthers_drewN (W : World) (n : Nat) : KeepsOthers W (W.drewN n) := ⟨Nat.le_refl _, fun _ _ h _ => h⟩
theorem below_drewQ {B : Nat} {a w : World} (h : Below B a w) (n : Nat) : Below B a (w.drewN n) := h.trans ⟨rfl, rfl, rfl, Nat.le_refl _, fun _ _ => rfl⟩
/-- The cell of a label. -/
theorem StrsAt.cell {W W' : World} {a : Option Addr} {c : Nat} {xs : Nm} (h : StrsAt W (.slice a xs.length c) xs) (hb : Below W.heap.size W W') (j : Nat) (hj : j < xs.length) :
    ∃ g off, a = some ⟨g, off, none⟩ ∧ g < W.heap.size ∧ W'.cell? ⟨g, off + j, none⟩ = some (strV xs[j]) := by
  obtain ⟨a', c', e, hx⟩ := h
  cases e
  rcases hx with e | ⟨g, off, rfl, hg, hc⟩
  · subst e; simp at hj
  · exact ⟨g, off, rfl, hg, (hb.cell (p := ⟨g, off + j, none⟩) hg).trans (hc j hj)⟩
theorem str_at {l : List UInt8} {s : ByteArray} (h : strV l = .string s) : (⟨l.toArray⟩ : ByteArray) = s := by unfold strV at h; cases h; rfl

section
attribute [local go_sem] Oper.semAt_some
end
end Go.Proofs.Ytnpnfajgphpabaa

/-
  Contract of name.Under.
-/
namespace Go.Proofs.Ytnpnfajgphpabaa
set_option linter.unusedVariables false
set_option linter.unusedSimpArgs false
set_option maxRecDepth 20000
open Go.RowKit Go.Shelf

theorem underN_of_get {xs zs : Nm} {d : Nat} (h : xs.length = d + zs.length) (hs : ∀ j (h1 : d + j < xs.length) (h2 : j < zs.length), sameM xs[d + j] zs[j] = true) : underN xs zs = true := by
  unfold underN
  rw [decide_eq_true (by omega), Bool.true_and, show xs.length - zs.length = d by omega]
  refine sameN_of_get (by simp; omega) (fun j h1 h2 => ?_)
  rw [List.getElem_drop]
  exact hs j _ h2
theorem underN_not_get {xs zs : Nm} {d : Nat} (h : xs.length = d + zs.length) (j : Nat) (h1 : d + j < xs.length) (h2 : j < zs.length) (hs : sameM xs[d + j] zs[j] = false) : underN xs zs = false := by
  unfold underN
  rw [decide_eq_true (by omega), Bool.true_and, show xs.length - zs.length = d by omega]
  refine sameN_not_get j (by simp; omega) h2 ?_
  rw [List.getElem_drop]; exact hs
theorem underN_short {xs zs : Nm} (h : xs.length < zs.length) : underN xs zs = false := by
  unfold underN; rw [decide_eq_false (by omega), Bool.false_and]

section
attribute [local go_sem] Oper.semAt_some
set_option maxRecDepth 100000 in
set_option maxHeartbeats 2000000 in
theorem name_Under (v u : Value) (xs zs : Nm) (w : World) (hA : StrsAt w v xs) (hU : StrsAt w u zs) (hk : NmOK xs) (hk2 : NmOK zs) :
    Calls Try.prog 29 #[v, u] w fun e w' => e = .returned (.bool (underN xs zs)) ∧ Below w.heap.size w w' := by
  obtain ⟨a, c, rfl, _⟩ := id hA
  obtain ⟨a2, c2, rfl, _⟩ := id hU
  have hl1 := hk.1
  have hl2 := hk2.1
  refine (callsIn_wide (n := 5)).1 ?_
  refine callsIn_of_wp_marks Try.func29 rfl trivial ?_ rfl
  simp only [Try.ntmps29, List.size_toArray, List.length_cons, List.length_nil, Nat.reduceAdd, Nat.reduceSub, Array.replicate_succ, Array.replicate_zero, List.push_toArray, List.append_toArray, List.nil_append, List.cons_append]
  by_cases hlt : xs.length < zs.length
  · have h0 : underN xs zs = false := underN_short hlt
    have H0 := Lib.hid h0; clear h0
    have hlt' : (xs.length : Int) - (zs.length : Int) < 0 := by omega
    gi_wp2
    have hI : Boxed ((w.alloc (.cells #[.slice a xs.length c] 24)).alloc (.cells #[.bool false] 4)) (w.heap.size + 1) 4 (.bool false) := by
      have := Boxed.new (w.alloc (.cells #[.slice a xs.length c] 24)) 4 (.bool false)
      rwa [World.size_alloc] at this
    refine ⟨_, results_cellB rfl Try.underlying4 _ _ rfl (hI.alloc _).cell, by rw [H0.out], ?_⟩
    exact (((Below.refl _ w).alloc (Nat.le_refl _) _).alloc (by simp) _).alloc (by simp; omega) _
  obtain ⟨d, hd⟩ : ∃ d, xs.length = d + zs.length := ⟨xs.length - zs.length, by omega⟩
  have hsub : (xs.length : Int) - (zs.length : Int) = (d : Int) := by omega
  have HD := Lib.hid hd; clear hd
  have HS := Lib.hid hsub; clear hsub
  have hge : ¬ (xs.length : Int) - (zs.length : Int) < 0 := by omega
  clear hlt
  gi_wp2_with (refine ⟨trivial, ?_⟩; gi_at_call 46; refine (callsIn_wide.2 (name_upward _ _ _ _)).mono ?_; rintro e w' ⟨rfl, rfl⟩)
  rw [HS.out]
  obtain ⟨W0, hW0⟩ : ∃ W0, ((((w.alloc (.cells #[.slice a xs.length c] 24)).alloc (.cells #[.bool false] 4)).alloc (.cells #[.int .i64 d] 3)).alloc (.cells #[.slice a2 zs.length c2] 24)) = W0 := ⟨_, rfl⟩
  have bN : Boxed W0 w.heap.size 24 (.slice a xs.length c) := by rw [← hW0]; exact (((Boxed.new w _ _).alloc _).alloc _).alloc _
  have bI : Boxed W0 (w.heap.size + 1) 4 (.bool false) := by
    have := Boxed.new (w.alloc (.cells #[.slice a xs.length c] 24)) 4 (.bool false)
    rw [World.size_alloc] at this
    rw [← hW0]; exact (this.alloc _).alloc _
  have bD : Boxed W0 (w.heap.size + 1 + 1) 3 (.int .i64 d) := by
    have := Boxed.new ((w.alloc (.cells #[.slice a xs.length c] 24)).alloc (.cells #[.bool false] 4)) 3 (.int .i64 d)
    rw [World.size_alloc, World.size_alloc] at this
    rw [← hW0]; exact this.alloc _
  have bV : Boxed W0 (w.heap.size + 1 + 1 + 1) 24 (.slice a2 zs.length c2) := by
    have := Boxed.new (((w.alloc (.cells #[.slice a xs.length c] 24)).alloc (.cells #[.bool false] 4)).alloc (.cells #[.int .i64 d] 3)) 24 (.slice a2 zs.length c2)
    rw [World.size_alloc, World.size_alloc, World.size_alloc] at this
    rw [← hW0]; exact this
  have hsz : W0.heap.size = w.heap.size + 4 := by rw [← hW0]; simp
  have hB0 : Below w.heap.size w W0 := by rw [← hW0]; exact ((((Below.refl _ w).alloc (Nat.le_refl _) _).alloc (by simp) _).alloc (by simp; omega) _).alloc (by simp; omega) _
  have hrow := hU.row_lt
  rw [hW0]
  have HZ := Lib.hid hsz; clear hsz hW0
  refine wpIn_rangeFunc_ownG rfl (by omega) (gf := 60) (lb := #[.pointer (some ⟨w.heap.size + 1 + 1 + 1, 0, none⟩)]) rfl trivial (enters_of Try.func60 (by kernel_rfl) rfl)
    (upward_stops _ (by omega) (w.heap.size + 1 + 1 + 1) (.slice a2 zs.length c2) zs (by unfold maxLen; omega) W0 (by rw [HZ.out]; omega) bV.cell (hU.below hB0)) keepN_t (keepN_b (by rw [HZ.out]; omega) (fun g e => by have := hrow g e; rw [HZ.out]; omega)) (Below.refl _ _) (fun _ => rfl)
    (fun pre W => Boxed W w.heap.size 24 (.slice a xs.length c) ∧ Boxed W (w.heap.size + 1) 4 (.bool false) ∧ Boxed W (w.heap.size + 1 + 1) 3 (.int .i64 d) ∧ Below w.heap.size w W ∧ ∀ j ∈ pre, ∀ h : d + j.val < xs.length, sameM xs[d + j.val] zs[j] = true)
    (fun k _ W => k = .ret ∧ Boxed W (w.heap.size + 1) 4 (.bool false) ∧ Below w.heap.size w W ∧ underN xs zs = false)
    (OwnFrom.and (Own.from (boxed_own _ _ _) _) (OwnFrom.and (Own.from (boxed_own _ _ _) _) (OwnFrom.and (Own.from (boxed_own _ _ _) _) (OwnFrom.and (ownFrom_below (Nat.le_refl _) (by rw [HZ.out]; omega)) (ownFrom_pure _ _)))))
    (fun _ => OwnFrom.and (ownFrom_pure _ _) (OwnFrom.and (Own.from (boxed_own _ _ _) _) (OwnFrom.and (ownFrom_below (Nat.le_refl _) (by rw [HZ.out]; omega)) (ownFrom_pure _ _))))
    ⟨bN, bI, bD, hB0, by simp⟩
    (fun j => { tmps := #[.slice a xs.length c, .slice a2 zs.length c2, .pointer (some ⟨w.heap.size, 0, none⟩), undef, .pointer (some ⟨w.heap.size + 1, 0, none⟩), .pointer (some ⟨w.heap.size + 1 + 1, 0, none⟩), .int .i64 (j.val : Int), .string ⟨zs[j].toArray⟩, .slice a xs.length c, .int .i64 xs.length, .slice a2 zs.length c2, .int .i64 zs.length, .int .i64 d, .int .i64 d, .bool false, .slice a2 zs.length c2, .func (.func 60) #[] #[.pointer (some ⟨w.heap.size + 1 + 1 + 1, 0, none⟩)], .int .i64 (j.val : Int), .string ⟨zs[j].toArray⟩, undef, undef, undef, undef, undef, undef, undef, undef, undef], defers := [] }) ?assign ?body ?done ?stop
  case assign =>
    intro l x W K hK
    unfold idxV strV
    gi_wp2
    exact hK
  case body =>
    rintro l pre x W ⟨hN, hI, hD2, hB, hC⟩ hlt
    have cn := hN.cell
    have cd := hD2.cell
    have c0 := hI.cell; have f0 := hI.frozen
    have hzi : x.val < zs.length := x.isLt
    have hxi : d + x.val < xs.length := by have := HD.out; omega
    obtain ⟨g, off, rfl, hg, hcell⟩ := hA.cell hB (d + x.val) hxi
    have hz1 : zs[x].length ≤ 1048576 := hk2.get x.val x.isLt
    have hx1 : xs[d + x.val].length ≤ 1048576 := hk.get (d + x.val) hxi
    obtain ⟨sz, hsz0, hszz, hszv⟩ := str_of zs[x]
    obtain ⟨sx, hsx0, hsxz, hsxv⟩ := str_of xs[d + x.val]
    have hS := fun W => label_Same sx sz W (by unfold maxLen; omega) (by unfold maxLen; omega)
    rw [hsz0, hsx0] at hS
    rw [str_at hszv]
    rw [hsxv] at hcell
    generalize hq : sameM xs[d + x.val] zs[x] = q at *
    have HQ := Lib.hid hq
    clear hsz0 hszz hszv hsx0 hsxz hsxv hx1 hz1 hq
    cases q with
    | true =>
      gi_wp2_with (refine ⟨trivial, ?_⟩; gi_at_call 47; refine (CallsIn.inRound l (callsIn_wide.2 (hS _))).mono ?_; rintro e w' ⟨rfl, n, rfl⟩)
      refine ⟨(keepsOthers_drewN _ _).from _, KeepN.drewN _ _, hN, hI, hD2, below_drewQ hB _, ?_⟩
      intro j hj h
      rcases List.mem_append.1 hj with hj | hj
      · exact hC j hj h
      · obtain rfl := List.mem_singleton.1 hj; exact HQ.out
    | false =>
      have H0 : Hid (underN xs zs = false) := Lib.hid (underN_not_get HD.out x.val hxi hzi HQ.out)
      gi_wp2_with (refine ⟨trivial, ?_⟩; gi_at_call 47; refine (CallsIn.inRound l (callsIn_wide.2 (hS _))).mono ?_; rintro e w' ⟨rfl, n, rfl⟩)
      refine ⟨((keepsOthers_drewN _ _).trans (KeepsOthers.setCell _ _ _)).from _, rfl, ?_, ?_, H0.out⟩
      · exact Boxed.set (.bool false) (show Boxed (W.drewN n) (w.heap.size + 1) 4 (.bool false) from hI)
      · exact (below_drewQ hB _).setCell (p := ⟨w.heap.size + 1, 0, none⟩) (by simp) _
  case done =>
    rintro D ys W hD rfl ⟨hN, hI, hD2, hB, hC⟩ hK
    have c0 := hI.cell; have f0 := hI.frozen
    have hDn : w.heap.size + 1 ≠ D := by have := HZ.out; omega
    have hS : underN xs zs = true := underN_of_get HD.out (fun j h1 h2 => hC ⟨j, h2⟩ (by simp) h1)
    have HT := Lib.hid hS; clear hS hC
    gi_wp2
    refine ⟨by simp, .inl ⟨_, _, rfl, run_takeDeferred (heap_setOther hK hDn.symm _), ?_⟩⟩
    refine ⟨_, results_cellB rfl Try.underlying4 _ _ rfl (out_cell (hI.set _) hDn _), by rw [HT.out], ?_⟩
    exact below_putO (hB.setCell (p := ⟨w.heap.size + 1, 0, none⟩) (by simp) _) (by have := HZ.out; omega) (Nat.le_refl _)
  case stop =>
    rintro D c pre W hD hp ⟨rfl, hI, hB, hC⟩ hK
    have hDn : w.heap.size + 1 ≠ D := by have := HZ.out; omega
    have HC := Lib.hid hC; clear hC
    gi_wp2
    refine ⟨by simp, .inl ⟨_, _, rfl, run_takeDeferred hK, ?_⟩⟩
    refine ⟨_, results_cellB rfl Try.underlying4 _ _ rfl (out_cell hI hDn _), by rw [HC.out], ?_⟩
    exact below_putO hB (by have := HZ.out; omega) (Nat.le_refl _)
end
end Go.Proofs.Ytnpnfajgphpabaa

