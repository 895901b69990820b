/-
  gen.Numbers; the document's Numbers.
-/
import Derived.Test.YtgalihmmlcnahaaDoorGenA
import Derived.RangeFuncBound
import Derived.RangeFuncCalls
import Derived.RangeFuncLeaves
import Derived.Deep.CutBlock
import Derived.Deep.DeepCutAuto
namespace Go.Proofs.YtgalihmmlcnahaaDoor
open Go.RowKit Go.Shelf
set_option maxRecDepth 20000
set_option linter.unusedVariables false
set_option linter.unusedSimpArgs false

theorem elemNI : ElemT 3 31 8 := ⟨Tryd.underlying31, _, _, rfl, rfl, rfl, rfl, rfl⟩
def nV (n : Nat) : Value := .int .i64 (n : Int)
/-- The numbers of a range, and the Errno. -/
def numsM (f t st : Int) : List Nat × Int :=
  if f < 0 ∨ t < f ∨ st < 1 ∨ 2147483647 < t then ([], 1)
  else if 4096 ≤ (t.toNat - f.toNat) / st.toNat then ([], 11)
  else ((List.range ((t.toNat - f.toNat) / st.toNat + 1)).map (fun i => f.toNat + i * st.toNat), 0)
/-- A slice of ints that is read. -/
def NumsAt (W : World) (v : Value) (l : List Nat) : Prop := ∃ a c, v = .slice a l.length c ∧ l.length ≤ 4096 ∧ (l = [] ∨ ∃ g, a = some ⟨g, 0, none⟩ ∧ g < W.heap.size ∧ ∀ j (hj : j < l.length), W.cell? ⟨g, j, none⟩ = some (nV l[j]))
theorem NumsAt.below {W W' : World} {v : Value} {l : List Nat} (h : NumsAt W v l) (hb : Below W.heap.size W W') : NumsAt W' v l := by
  obtain ⟨a, c, e, hl, h⟩ := h
  refine ⟨a, c, e, hl, ?_⟩
  rcases h with h | ⟨g, e, hg, hc⟩
  · exact .inl h
  · exact .inr ⟨g, e, Nat.lt_of_lt_of_le hg hb.size, fun j hj => (hb.cell (p := ⟨g, j, none⟩) hg).trans (hc j hj)⟩
theorem NumsAt.own {W : World} {base : Nat} {v : Value} {l : List Nat} (h : OwnG 3 nV W base v l) (hl : l.length ≤ 4096) : NumsAt W v l := by
  obtain ⟨a, c, rfl⟩ := h.shape
  refine ⟨a, c, rfl, hl, ?_⟩
  by_cases hne : l = []
  · exact .inl hne
  · obtain ⟨g, rfl, _, hg, hc⟩ := h.cells hne
    exact .inr ⟨g, rfl, hg, hc⟩
def NumsPost (r : List Nat × Int) (w : World) (e : Ending) (w' : World) : Prop := ∃ v, e = .returned (.tuple #[v, .int .i64 r.2]) ∧ NumsAt w' v r.1 ∧ Below w.heap.size w w'
theorem numsAt_nil (W : World) : NumsAt W (.slice none 0 0) [] := ⟨none, 0, rfl, Nat.zero_le _, .inl rfl⟩
theorem numsM_arg {f t st : Int} (h : f < 0 ∨ t < f ∨ st < 1 ∨ 2147483647 < t) : numsM f t st = ([], 1) := by unfold numsM; rw [if_pos h]
section
attribute [local go_sem] Oper.semAt_some
set_option maxRecDepth 100000 in
set_option maxHeartbeats 8000000 in
theorem gen_Numbers (f t st : Int) (w : World) (hf : -9223372036854775808 ≤ f ∧ f ≤ 9223372036854775807) (ht : -9223372036854775808 ≤ t ∧ t ≤ 9223372036854775807) (hs : -9223372036854775808 ≤ st ∧ st ≤ 9223372036854775807) :
    Calls Tryd.prog 9 #[.agg #[.int .i64 f, .int .i64 t, .int .i64 st]] w (NumsPost (numsM f t st) w) := by
  obtain ⟨hf1, hf2⟩ := hf
  obtain ⟨ht1, ht2⟩ := ht
  obtain ⟨hs1, hs2⟩ := hs
  by_cases harg : f < 0 ∨ t < f ∨ st < 1 ∨ 2147483647 < t
  · rw [numsM_arg harg]
    have hd : f < 0 ∨ (¬ f < 0 ∧ t < f) ∨ (¬ f < 0 ∧ ¬ t < f ∧ st < 1) ∨ (¬ f < 0 ∧ ¬ t < f ∧ ¬ st < 1 ∧ 2147483647 < t) := by omega
    clear harg
    rcases hd with h1 | ⟨h1, h2⟩ | ⟨h1, h2, h3⟩ | ⟨h1, h2, h3, h4⟩
    all_goals
      refine (callsIn_wide (n := 5)).1 ?_
      refine callsIn_of_wp_marks Tryd.func9 rfl trivial ?_ rfl
      simp only [Tryd.ntmps9, List.size_toArray, List.length_cons, List.length_nil, Nat.reduceAdd, Nat.reduceSub, Array.replicate_succ, Array.replicate_zero, List.push_toArray, List.append_toArray, List.nil_append, List.cons_append]
      gi_wp2
      refine ⟨_, results_tmp2 rfl _ _ _, _, rfl, numsAt_nil _, (Below.refl _ w).alloc (Nat.le_refl _) _⟩
  have h1 : ¬ f < 0 := by omega
  have h2 : ¬ t < f := by omega
  have h3 : ¬ st < 1 := by omega
  have h4 : ¬ 2147483647 < t := by omega
  obtain ⟨F, rfl⟩ : ∃ F : Nat, f = (F : Int) := ⟨f.toNat, by omega⟩
  obtain ⟨T, rfl⟩ : ∃ T : Nat, t = (T : Int) := ⟨t.toNat, by omega⟩
  obtain ⟨S, rfl⟩ : ∃ S : Nat, st = (S : Int) := ⟨st.toNat, by omega⟩
  have hFT : F ≤ T := by omega
  have hS0 : 0 < S := by omega
  have hT : T ≤ 2147483647 := by omega
  have hS63 : S ≤ 9223372036854775807 := by omega
  have hq : ((T : Int) - (F : Int)) / (S : Int) = (((T - F) / S : Nat) : Int) := by
    rw [Int.natCast_ediv]; congr 1; omega
  have hM : numsM (F : Int) (T : Int) (S : Int) = if 4096 ≤ (T - F) / S then ([], 11) else ((List.range ((T - F) / S + 1)).map (fun i => F + i * S), 0) := by
    unfold numsM
    rw [if_neg (by omega)]
    rfl
  have hnn : (0 : Int) ≤ (T : Int) - (F : Int) := by omega
  have hS0i : (0 : Int) < (S : Int) := by omega
  have hSne : ¬ (S : Int) = 0 := by omega
  by_cases hmany : 4096 ≤ (T - F) / S
  · rw [hM, if_pos hmany]
    have hqi : (4096 : Int) ≤ (((T - F) / S : Nat) : Int) := by omega
    clear hM harg hmany
    refine (callsIn_wide (n := 5)).1 ?_
    refine callsIn_of_wp_marks Tryd.func9 rfl trivial ?_ rfl
    simp only [Tryd.ntmps9, List.size_toArray, List.length_cons, List.length_nil, Nat.reduceAdd, Nat.reduceSub, Array.replicate_succ, Array.replicate_zero, List.push_toArray, List.append_toArray, List.nil_append, List.cons_append]
    generalize (T - F) / S = q at *
    gi_wp2
    refine ⟨_, results_tmp2 rfl _ _ _, _, rfl, numsAt_nil _, (Below.refl _ w).alloc (Nat.le_refl _) _⟩
  have HM := Lib.hid (show numsM (F : Int) (T : Int) (S : Int) = ((List.range ((T - F) / S + 1)).map (fun i => F + i * S), 0) by rw [hM, if_neg hmany])
  have hqi : ¬ (4096 : Int) ≤ (((T - F) / S : Nat) : Int) := by omega
  have HQ := Lib.hid hmany
  clear hM harg hmany
  obtain ⟨q, hqq⟩ : ∃ q, (T - F) / S = q := ⟨_, rfl⟩
  have HQQ := Lib.hid hqq
  rw [hqq] at hq hqi
  clear hqq
  refine (callsIn_wide (n := 5)).1 ?_
  refine callsIn_of_wp_marks Tryd.func9 rfl trivial ?_ rfl
  simp only [Tryd.ntmps9, List.size_toArray, List.length_cons, List.length_nil, Nat.reduceAdd, Nat.reduceSub, Array.replicate_succ, Array.replicate_zero, List.push_toArray, List.append_toArray, List.nil_append, List.cons_append]
  gi_wp2_with (refine ⟨trivial, ?_⟩; gi_at_call 17; refine (callsIn_wide.2 (gen_numbers _ _ _ _)).mono ?_; rintro e w' ⟨rfl, rfl⟩)
  obtain ⟨n, hn⟩ : ∃ n, w.heap.size = n := ⟨_, rfl⟩
  obtain ⟨W0, hW0⟩ : ∃ W0, (((w.alloc (.cells #[.int .i64 (F : Int), .int .i64 (T : Int), .int .i64 (S : Int)] 23)).alloc (.cells #[.slice none 0 0] 31)).alloc (.cells #[.int .i64 (F : Int), .int .i64 (T : Int), .int .i64 (S : Int)] 23)) = W0 := ⟨_, rfl⟩
  have bO : Boxed W0 (n + 1) 31 (.slice none 0 0) := by
    have := Boxed.new (w.alloc (.cells #[.int .i64 (F : Int), .int .i64 (T : Int), .int .i64 (S : Int)] 23)) 31 (.slice none 0 0)
    rw [World.size_alloc] at this
    rw [← hW0, ← hn]; exact this.alloc _
  have bR : W0.heap[n + 1 + 1]? = some (.cells (rngC F T S) 23) := by
    have := knew ((w.alloc (.cells #[.int .i64 (F : Int), .int .i64 (T : Int), .int .i64 (S : Int)] 23)).alloc (.cells #[.slice none 0 0] 31)) (.cells #[.int .i64 (F : Int), .int .i64 (T : Int), .int .i64 (S : Int)] 23)
    rw [World.size_alloc, World.size_alloc] at this
    rw [← hW0, ← hn]; exact this
  have hsz : W0.heap.size = n + 3 := by rw [← hW0, ← hn]; simp
  have hB0 : Below n w W0 := by rw [← hW0, ← hn]; exact (((Below.refl _ w).alloc (Nat.le_refl _) _).alloc (by simp) _).alloc (by simp; omega) _
  have hnw : n ≤ w.heap.size := Nat.le_of_eq hn.symm
  rw [hn]
  rw [hW0]
  have HZ := Lib.hid hsz; have HN := Lib.hid hn
  clear hsz hW0 hn
  refine wpIn_rangeFunc_ownG rfl (by omega) (gf := 24) (lb := #[.pointer (some ⟨n + 1 + 1, 0, none⟩)]) rfl trivial (enters_of Tryd.func24 (by kernel_rfl) rfl)
    (numbers_stops _ (by omega) (n + 1 + 1) F T S hS0 hFT hT hS63 W0 (by rw [HZ.out]; omega) bR) (fun h k => h.trans k) (keepB_b (by rw [HZ.out]; omega)) (Below.refl _ _) (fun _ => rfl)
    (fun pre W => GBox 3 31 nV (n + 1) W0.heap.size (List.map (fun i : Nat => F + i * S) pre) W ∧ Below n w W ∧ W0.heap.size ≤ W.heap.size)
    (fun _ _ _ => False)
    (OwnFrom.and (Own.from (gBox_own (n + 1) W0.heap.size (fun pre : List Nat => List.map (fun i : Nat => F + i * S) pre)) _) (OwnFrom.and (ownFrom_below hnw (by rw [HZ.out]; omega)) (fun _ _ _ _ hs hg _ => Nat.le_trans hs hg.size)))
    (fun _ _ _ _ _ hs _ _ => hs)
    ⟨⟨_, bO, OwnG.nil _ _⟩, hB0, Nat.le_refl _⟩
    (fun j => { tmps := #[.agg #[.int .i64 (F : Int), .int .i64 (T : Int), .int .i64 (S : Int)], .pointer (some ⟨n, 0, none⟩), .slice none 0 0, .int .i64 0, .pointer (some ⟨n + 1, 0, none⟩), nV (F + j * S),
          .pointer (some ⟨n, 0, none⟩), .int .i64 (F : Int), .bool false,
          .bool false, .pointer (some ⟨n, 1, none⟩), .int .i64 (T : Int),
          .pointer (some ⟨n, 0, none⟩), .int .i64 (F : Int), .bool false,
          .bool false, .bool false, .pointer (some ⟨n, 2, none⟩),
          .int .i64 (S : Int), .bool false, .bool false, .bool false,
          .pointer (some ⟨n, 1, none⟩), .int .i64 (T : Int), .bool false,
          .bool false, .pointer (some ⟨n, 1, none⟩), .int .i64 (T : Int),
          .pointer (some ⟨n, 0, none⟩), .int .i64 (F : Int),
          .int .i64 ((T : Int) - (F : Int)), .pointer (some ⟨n, 2, none⟩),
          .int .i64 (S : Int), .int .i64 (q : Int), .bool false,
          .agg #[.int .i64 (F : Int), .int .i64 (T : Int), .int .i64 (S : Int)],
          .func (.func 24) #[] #[.pointer (some ⟨n + 1 + 1, 0, none⟩)], nV (F + j * S), undef,
          undef, undef, undef, undef], defers := [] }) ?assign ?body ?done ?stop
  case assign =>
    intro l x W K hK
    unfold numE
    unfold nV at hK
    gi_wp2
    exact hK
  case body =>
    rintro l pre x W ⟨⟨u, hv, hown⟩, hB, hWs⟩ hlt
    have hc := hv.cell; have hf := hv.frozen
    have hple : (pre.map fun i : Nat => F + i * S).length = pre.length := by simp
    have hplt : pre.length ≤ 4096 := by have := HQ.out; omega
    have hsn : ((pre ++ [x]).map fun i : Nat => F + i * S) = (pre.map fun i : Nat => F + i * S) ++ [F + x * S] := by simp
    have HSN := Lib.hid hsn; have HP := Lib.hid hple
    clear hsn hple hlt
    generalize (pre.map fun i : Nat => F + i * S) = fs at *
    generalize F + x * S = tx at *
    unfold nV
    obtain ⟨ua, uc, rfl⟩ := hown.shape
    gi_wp2_with (gi_at_builtin; refine wplIn_append_g W rfl (.tmp 38) (.tmp 40) elemNI rfl (fun _ => rfl) W0.heap.size _ fs rfl hown [.int .i64 (tx : Int)] [tx] rfl 1 1 rfl rfl hWs (by have := HP.out; unfold maxLen; simp; omega) (by have := HP.out; simp; omega) ?_; intro v' w1' hown' hg'; obtain ⟨a', n', c', rfl⟩ : ∃ a n c, v' = .slice a n c := (by obtain ⟨a, c, e⟩ := hown'.shape; exact ⟨_, _, _, e⟩); obtain ⟨hv1, ho2, hk2, hbb2, hs2⟩ := gboxed_appends2 (n₀ := n) (by decide) hv hown (by rw [HZ.out]; omega) (by omega) hWs hown' hg'; have hc1 := hv1.cell; have hf1 := hv1.frozen)
    exact ⟨hk2.from _, hs2 (n + 1 + 1) (by rw [HZ.out]; omega) (by omega), by rw [HSN.out]; exact ho2, hB.trans hbb2, Nat.le_trans hWs hbb2.size⟩
  case done =>
    rintro D ys W hD rfl ⟨⟨u, hv, hown⟩, hB, hWs⟩ hK
    have hDn : n + 3 ≤ D := by have := HZ.out; omega
    have hc := hv.cell; have hf := hv.frozen
    rw [HQQ.out] at hown
    have hll : (List.map (fun i : Nat => F + i * S) (List.range (q + 1))).length ≤ 4096 := by
      have h := HQ.out
      rw [HQQ.out] at h
      simp
      omega
    have HOW := Lib.hid hown; have HLL := Lib.hid hll
    obtain ⟨ua, uc, rfl⟩ := hown.shape
    obtain ⟨m, hm⟩ : ∃ m, (List.map (fun i : Nat => F + i * S) (List.range (q + 1))).length = m := ⟨_, rfl⟩
    have HM2 := Lib.hid hm
    rw [hm] at hc
    clear hown hll hm hv
    gi_wp2
    refine ⟨by simp, .inl ⟨_, _, rfl, run_takeDeferred hK, ?_⟩⟩
    refine ⟨_, results_tmp2 rfl _ _ _, ?_⟩
    rw [HM.out, HQQ.out]
    refine ⟨_, rfl, ?_, ?_⟩
    · have h := HOW.out
      rw [HM2.out] at h
      exact NumsAt.own (h.putObj _ hK rfl) HLL.out
    · rw [HN.out]
      exact below_putO hB (by omega) hnw
  case stop =>
    rintro D c pre W _ _ h _
    exact h.elim
end
theorem gn_end {f t st i : Nat} (hst : 0 < st) (hn : f + i * st ≤ t) (h : t < f + (i + 1) * st) : i = (t - f) / st := by
  have e : (i + 1) * st = i * st + st := Nat.succ_mul i st
  exact gn_last (f := f) (t := t) (st := st) (i := i) hst hn (by omega)
theorem gn_in {f t st i : Nat} (hst : 0 < st) (hn : f + i * st ≤ t) : i ≤ (t - f) / st := by rw [Nat.le_div_iff_mul_le hst]; omega
set_option maxRecDepth 100000 in
set_option maxHeartbeats 8000000 in
theorem ref_Numbers (f t st : Int) (w : World) (hf : -9223372036854775808 ≤ f ∧ f ≤ 9223372036854775807) (ht : -9223372036854775808 ≤ t ∧ t ≤ 9223372036854775807) (hs : -9223372036854775808 ≤ st ∧ st ≤ 9223372036854775807) :
    Calls Tryd.prog 10 #[.agg #[.int .i64 f, .int .i64 t, .int .i64 st]] w (NumsPost (numsM f t st) w) := by
  obtain ⟨hf1, hf2⟩ := hf
  obtain ⟨ht1, ht2⟩ := ht
  obtain ⟨hs1, hs2⟩ := hs
  by_cases harg : f < 0 ∨ t < f ∨ st < 1 ∨ 2147483647 < t
  · rw [numsM_arg harg]
    have hd : f < 0 ∨ (¬ f < 0 ∧ t < f) ∨ (¬ f < 0 ∧ ¬ t < f ∧ st < 1) ∨ (¬ f < 0 ∧ ¬ t < f ∧ ¬ st < 1 ∧ 2147483647 < t) := by omega
    clear harg
    rcases hd with h1 | ⟨h1, h2⟩ | ⟨h1, h2, h3⟩ | ⟨h1, h2, h3, h4⟩
    all_goals
      go_enter Tryd.func10, Tryd.ntmps10
      go_wp2
      go_ret2
      exact ⟨_, rfl, numsAt_nil _, (Below.refl _ w).alloc (Nat.le_refl _) _⟩
  have h1 : ¬ f < 0 := by omega
  have h2 : ¬ t < f := by omega
  have h3 : ¬ st < 1 := by omega
  have h4 : ¬ 2147483647 < t := by omega
  obtain ⟨F, rfl⟩ : ∃ F : Nat, f = (F : Int) := ⟨f.toNat, by omega⟩
  obtain ⟨T, rfl⟩ : ∃ T : Nat, t = (T : Int) := ⟨t.toNat, by omega⟩
  obtain ⟨S, rfl⟩ : ∃ S : Nat, st = (S : Int) := ⟨st.toNat, by omega⟩
  have hFT : F ≤ T := by omega
  have hS0 : 0 < S := by omega
  have hT : T ≤ 2147483647 := by omega
  have hS63 : S ≤ 9223372036854775807 := by omega
  have hq : ((T : Int) - (F : Int)) / (S : Int) = (((T - F) / S : Nat) : Int) := by
    rw [Int.natCast_ediv]; congr 1; omega
  have hM : numsM (F : Int) (T : Int) (S : Int) = if 4096 ≤ (T - F) / S then ([], 11) else ((List.range ((T - F) / S + 1)).map (fun i => F + i * S), 0) := by
    unfold numsM
    rw [if_neg (by omega)]
    rfl
  have hnn : (0 : Int) ≤ (T : Int) - (F : Int) := by omega
  have hS0i : (0 : Int) < (S : Int) := by omega
  have hSne : ¬ (S : Int) = 0 := by omega
  by_cases hmany : 4096 ≤ (T - F) / S
  · rw [hM, if_pos hmany]
    have hqi : (4096 : Int) ≤ (((T - F) / S : Nat) : Int) := by omega
    clear hM harg hmany
    generalize (T - F) / S = q at *
    go_enter Tryd.func10, Tryd.ntmps10
    go_wp2
    go_ret2
    exact ⟨_, rfl, numsAt_nil _, (Below.refl _ w).alloc (Nat.le_refl _) _⟩
  have HM := Lib.hid (show numsM (F : Int) (T : Int) (S : Int) = ((List.range ((T - F) / S + 1)).map (fun i => F + i * S), 0) by rw [hM, if_neg hmany])
  have hqi : ¬ (4096 : Int) ≤ (((T - F) / S : Nat) : Int) := by omega
  have HQ := Lib.hid hmany
  clear hM harg hmany
  obtain ⟨q, hqq⟩ : ∃ q, (T - F) / S = q := ⟨_, rfl⟩
  have HQQ := Lib.hid hqq
  rw [hqq] at hq hqi
  clear hqq
  go_enter Tryd.func10, Tryd.ntmps10
  go_wp2
  obtain ⟨W0, hW0⟩ : ∃ W0, w.alloc (.cells #[.int .i64 (F : Int), .int .i64 (T : Int), .int .i64 (S : Int)] 28) = W0 := ⟨_, rfl⟩
  have bR : W0.heap[w.heap.size]? = some (.cells (rngC F T S) 28) := by rw [← hW0]; exact knew w _
  have hB0 : Below w.heap.size w W0 := by rw [← hW0]; exact (Below.refl _ w).alloc (Nat.le_refl _) _
  have hwlt : w.heap.size < W0.heap.size := by rw [← hW0]; simp
  rw [hW0]
  clear hW0
  have HBR := Lib.hid bR; have HB0 := Lib.hid hB0
  clear bR hB0
  go_loopw [4, 5] (fun o a wr => ∃ (i v : Nat), a = .int .i64 v ∧ Hid (v = F + i * S) ∧ v ≤ 4294967294 ∧ (i = 0 ∨ S ≤ T) ∧ OwnG 3 nV wr W0.heap.size o (List.map (fun i : Nat => F + i * S) (List.range i)) ∧ Below W0.heap.size W0 wr ∧ Hid (i = 0 ∨ F + (i - 1) * S ≤ T)) (fun _ a _ => T + 1 - (intOf a).toNat)
  case atStart => exact ⟨0, F, rfl, Lib.hid (by omega), by omega, .inl rfl, OwnG.nil _ _, Below.refl _ _, Lib.hid (.inl rfl)⟩
  case round =>
    obtain ⟨i, v, rfl, HV, hv, hor, hown, hbw, HI⟩ := hrel
    have bx := (hbw.block w.heap.size hwlt).trans HBR.out
    have c0 := kcell bx 0 (.int .i64 (F : Int)) rfl
    have c1 := kcell bx 1 (.int .i64 (T : Int)) rfl
    have c2 := kcell bx 2 (.int .i64 (S : Int)) rfl
    have hzw := hbw.size
    have HBX := Lib.hid bx
    clear bx
    by_cases hle : v ≤ T
    · have hin : i ≤ q := by
        have := gn_in (f := F) (t := T) (st := S) (i := i) hS0 (by rw [← HV.out]; exact hle)
        rw [HQQ.out] at this; exact this
      have hq4 : q < 4096 := by have := HQ.out; rw [HQQ.out] at this; omega
      have hlei : (v : Int) ≤ (T : Int) := by omega
      have hlen : (List.map (fun i : Nat => F + i * S) (List.range i)).length = i := by simp
      have HSN : Hid (List.map (fun i : Nat => F + i * S) (List.range (i + 1)) = List.map (fun i : Nat => F + i * S) (List.range i) ++ [v]) := Lib.hid (by rw [List.range_succ, List.map_append, HV.out]; rfl)
      have HLEN := Lib.hid hlen
      have HW := Lib.hid hbw
      have HIN := Lib.hid hin; have HQ4 := Lib.hid hq4
      have HOR := Lib.hid hor
      generalize List.map (fun i : Nat => F + i * S) (List.range i) = fs at *
      obtain ⟨ua, uc, rfl⟩ := hown.shape
      clear hlen hin hq4 hor hbw
      by_cases hST : T < S
      · have hSTi : (T : Int) < (S : Int) := by omega
        have HE : Hid (i = 0) := Lib.hid (by have := HOR.out; omega)
        have HQ0 : Hid (q = 0) := Lib.hid (by rw [← HQQ.out, Nat.div_eq_of_lt (by omega)])
        go_wp2_with (at_builtin; refine wpl_append_g wr rfl (.tmp 45) (.tmp 47) elemNI rfl (fun _ => rfl) W0.heap.size _ fs rfl hown [.int .i64 (v : Int)] [v] rfl 1 1 rfl rfl hzw (by have := HLEN.out; have := HIN.out; have := HQ4.out; unfold maxLen; simp; omega) (by have := HLEN.out; have := HIN.out; have := HQ4.out; simp; omega) ?_; intro v' w1 hown' hg'; have HO := Lib.hid hown'; have bx1 := (hg'.block w.heap.size (by omega) (by intro e; have := hown.base_le _ e.symm; omega)).trans HBX.out; have d1 := kcell bx1 1 (.int .i64 (T : Int)) rfl; have d2 := kcell bx1 2 (.int .i64 (S : Int)) rfl; have HG := Lib.hid (HW.out.grown hg' hzw hown.base_le); clear bx1 hown')
        go_ret2
        rw [HM.out, HQQ.out, HQ0.out]
        have h := HO.out
        rw [← HSN.out, HE.out] at h
        exact ⟨_, rfl, NumsAt.own h (by simp), HB0.out.trans (HG.out.mono (Nat.le_of_lt hwlt))⟩
      · have hSTi : ¬ (T : Int) < (S : Int) := by omega
        go_wp2_with (at_builtin; refine wpl_append_g wr rfl (.tmp 45) (.tmp 47) elemNI rfl (fun _ => rfl) W0.heap.size _ fs rfl hown [.int .i64 (v : Int)] [v] rfl 1 1 rfl rfl hzw (by have := HLEN.out; have := HIN.out; have := HQ4.out; unfold maxLen; simp; omega) (by have := HLEN.out; have := HIN.out; have := HQ4.out; simp; omega) ?_; intro v' w1 hown' hg'; have HO := Lib.hid hown'; have bx1 := (hg'.block w.heap.size (by omega) (by intro e; have := hown.base_le _ e.symm; omega)).trans HBX.out; have d1 := kcell bx1 1 (.int .i64 (T : Int)) rfl; have d2 := kcell bx1 2 (.int .i64 (S : Int)) rfl; have HG := Lib.hid (HW.out.grown hg' hzw hown.base_le); clear bx1 hown')
        go_roundw
        case rel => exact ⟨i + 1, v + S, by go_num, Lib.hid (by rw [HV.out, Nat.succ_mul]; omega), by omega, .inr (by omega), by have h := HO.out; rw [← HSN.out] at h; exact h, HG.out, Lib.hid (.inr (by rw [Nat.add_sub_cancel, ← HV.out]; exact hle))⟩
        case measure => simp [intOf]; omega
    · have hlei : ¬ (v : Int) ≤ (T : Int) := by omega
      have HE : Hid (i = q + 1) := Lib.hid (by
        have hv2 := HV.out
        rcases HI.out with h | h
        · subst h; simp at hv2; omega
        · obtain ⟨j, rfl⟩ : ∃ j, i = j + 1 := by
            cases i with
            | zero => simp at hv2; omega
            | succ j => exact ⟨j, rfl⟩
          rw [Nat.add_sub_cancel] at h
          have := gn_end (f := F) (t := T) (st := S) (i := j) hS0 h (by rw [← hv2]; omega)
          rw [HQQ.out] at this
          rw [this])
      have hq4 : q < 4096 := by have := HQ.out; rw [HQQ.out] at this; omega
      have HO := Lib.hid hown
      clear hown
      go_wp2
      go_ret2
      rw [HM.out, HQQ.out]
      have h := HO.out
      rw [HE.out] at h
      exact ⟨_, rfl, NumsAt.own h (by simp; omega), HB0.out.trans (hbw.mono (Nat.le_of_lt hwlt))⟩
end Go.Proofs.YtgalihmmlcnahaaDoor
