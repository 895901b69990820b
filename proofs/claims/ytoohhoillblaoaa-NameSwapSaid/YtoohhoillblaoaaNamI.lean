/-
  Contract of name.Common.
-/
import Derived.Test.YtoohhoillblaoaaNamH
import Derived.Test.YtoohhoillblaoaaNamF
namespace Go.Proofs.Ytoohhoillblaoaa
open Go.RowKit Go.Shelf

section
attribute [local go_sem] Oper.semAt_some
set_option maxRecDepth 100000 in
set_option maxHeartbeats 4000000 in
theorem name_Common (v u : Value) (xs ys : Nm) (w : World) (hA : StrsAt w v xs) (hU : StrsAt w u ys) (hO : SlOK v) (hk : NmOK xs) (hk2 : NmOK ys) :
    Calls Try.prog 32 #[v, u] w fun e w' => ∃ v', e = .returned v' ∧ OwnG 9 strV w' w.heap.size v' (commonN xs ys) ∧ Below w.heap.size w w' := by
  obtain ⟨a, c, rfl, _⟩ := id hA
  obtain ⟨a2, c2, rfl, _⟩ := id hU
  have hl1 := hk.1
  have hl2 := hk2.1
  refine (callsIn_wide (n := 5)).1 ?_
  refine callsIn_of_wp_marks Try.func32 rfl trivial ?_ rfl
  simp only [Try.ntmps32, List.size_toArray, List.length_cons, List.length_nil, Nat.reduceAdd, Nat.reduceSub, Array.replicate_succ, Array.replicate_zero, List.push_toArray, List.append_toArray, List.nil_append, List.cons_append]
  gi_wp2_with (refine ⟨trivial, ?_⟩; gi_at_call 56; refine (callsIn_wide.2 (name_upward _ _ _ _)).mono ?_; rintro e w' ⟨rfl, rfl⟩)
  obtain ⟨W0, hW0⟩ : ∃ W0, ((((w.alloc (.cells #[.slice a xs.length c] 23)).alloc (.cells #[.slice a2 ys.length c2] 23)).alloc (.cells #[.int .i64 0] 3)).alloc (.cells #[.slice a xs.length c] 23)) = W0 := ⟨_, rfl⟩
  have bA : Boxed W0 w.heap.size 23 (.slice a xs.length c) := by rw [← hW0]; exact (((Boxed.new w _ _).alloc _).alloc _).alloc _
  have bB : Boxed W0 (w.heap.size + 1) 23 (.slice a2 ys.length c2) := by
    have := Boxed.new (w.alloc (.cells #[.slice a xs.length c] 23)) 23 (.slice a2 ys.length c2)
    rw [World.size_alloc] at this
    rw [← hW0]; exact (this.alloc _).alloc _
  have bI : Boxed W0 (w.heap.size + 1 + 1) 3 (.int .i64 0) := by
    have := Boxed.new ((w.alloc (.cells #[.slice a xs.length c] 23)).alloc (.cells #[.slice a2 ys.length c2] 23)) 3 (.int .i64 0)
    rw [World.size_alloc, World.size_alloc] at this
    rw [← hW0]; exact this.alloc _
  have bV : Boxed W0 (w.heap.size + 1 + 1 + 1) 23 (.slice a xs.length c) := by
    have := Boxed.new (((w.alloc (.cells #[.slice a xs.length c] 23)).alloc (.cells #[.slice a2 ys.length c2] 23)).alloc (.cells #[.int .i64 0] 3)) 23 (.slice a xs.length c)
    rw [World.size_alloc, World.size_alloc, World.size_alloc] at this
    rw [← hW0]; exact this
  have hsz : W0.heap.size = w.heap.size + 4 := by rw [← hW0]; simp
  have hB0 : Below w.heap.size w W0 := by rw [← hW0]; exact ((((Below.refl _ w).alloc (Nat.le_refl _) _).alloc (by simp) _).alloc (by simp; omega) _).alloc (by simp; omega) _
  have hrow := hA.row_lt
  rw [hW0]
  have HZ := Lib.hid hsz; clear hsz hW0
  refine wpIn_rangeFunc_ownG rfl (by omega) (gf := 68) (lb := #[.pointer (some ⟨w.heap.size + 1 + 1 + 1, 0, none⟩)]) rfl trivial (enters_of Try.func68 (by kernel_rfl) rfl)
    (upward_stops _ (by omega) (w.heap.size + 1 + 1 + 1) (.slice a xs.length c) xs (by unfold maxLen; omega) W0 (by rw [HZ.out]; omega) bV.cell (hA.below hB0)) keepN_t (keepN_b (by rw [HZ.out]; omega) (fun g e => by have := hrow g e; rw [HZ.out]; omega)) (Below.refl _ _) (fun _ => rfl)
    (fun pre W => Boxed W w.heap.size 23 (.slice a xs.length c) ∧ Boxed W (w.heap.size + 1) 23 (.slice a2 ys.length c2) ∧ Boxed W (w.heap.size + 1 + 1) 3 (.int .i64 (pre.length : Int)) ∧ Below w.heap.size w W ∧ ∀ j ∈ pre, AlikeAt xs ys j)
    (fun k pre W => k = .exit 0 ∧ Boxed W w.heap.size 23 (.slice a xs.length c) ∧ Below w.heap.size w W ∧ Boxed W (w.heap.size + 1 + 1) 3 (.int .i64 ((pre.length - 1 : Nat) : Int)) ∧ ∃ p x, pre = p ++ [x] ∧ (∀ j ∈ p, AlikeAt xs ys j) ∧ ∀ d (h : d < ys.length), x.val + ys.length = d + xs.length → compareM xs[x] ys[d] ≠ 0)
    (OwnFrom.and (Own.from (boxed_own _ _ _) _) (OwnFrom.and (Own.from (boxed_own _ _ _) _) (OwnFrom.and (Own.from (boxed_own _ _ _) _) (OwnFrom.and (ownFrom_below (Nat.le_refl _) (by rw [HZ.out]; omega)) (ownFrom_pure _ _)))))
    (fun _ => OwnFrom.and (ownFrom_pure _ _) (OwnFrom.and (Own.from (boxed_own _ _ _) _) (OwnFrom.and (ownFrom_below (Nat.le_refl _) (by rw [HZ.out]; omega)) (OwnFrom.and (Own.from (boxed_own _ _ _) _) (ownFrom_pure _ _)))))
    ⟨bA, bB, bI, hB0, by simp⟩
    (fun j => { tmps := #[.slice a xs.length c, .slice a2 ys.length c2, .pointer (some ⟨w.heap.size, 0, none⟩), .pointer (some ⟨w.heap.size + 1, 0, none⟩), .slice none 0 0, .pointer (some ⟨w.heap.size + 1 + 1, 0, none⟩), .int .i64 (j.val : Int), .string ⟨xs[j].toArray⟩, undef, .slice a xs.length c, .func (.func 68) #[] #[.pointer (some ⟨w.heap.size + 1 + 1 + 1, 0, none⟩)], .int .i64 (j.val : Int), .string ⟨xs[j].toArray⟩, undef, undef, undef, undef, undef, undef, undef, undef, undef, undef, undef, undef, undef, undef, undef, undef, undef, undef, undef, undef, undef, undef, undef, undef, undef, undef, undef], defers := [] }) ?assign ?body ?done ?stop
  case assign =>
    intro l x W K hK
    unfold idxV strV
    gi_wp2
    exact hK
  case body =>
    rintro l pre x W ⟨hN, hM, hI, hB, hC⟩ hlt
    have cn := hN.cell
    have cm := hM.cell
    have c0 := hI.cell; have f0 := hI.frozen
    have hxi : x.val < xs.length := x.isLt
    by_cases hge : xs.length ≤ x.val + ys.length
    · obtain ⟨d, hd⟩ : ∃ d, x.val + ys.length = d + xs.length := ⟨x.val + ys.length - xs.length, by omega⟩
      have hdy : d < ys.length := by omega
      obtain ⟨g, off, rfl, hg, hcell⟩ := hU.cell hB d hdy
      have hz1 : ys[d].length ≤ 1048576 := hk2.get d hdy
      have hx1 : xs[x].length ≤ 1048576 := hk.get x.val hxi
      obtain ⟨sx, hsx0, hsxz, hsxv⟩ := str_of xs[x]
      obtain ⟨sy, hsy0, hsyz, hsyv⟩ := str_of ys[d]
      have hS := fun W => label_Same sx sy W (by unfold maxLen; omega) (by unfold maxLen; omega)
      rw [hsx0, hsy0] at hS
      rw [str_at hsxv]
      rw [hsyv] at hcell
      have hsub : (x.val : Int) + (ys.length : Int) - (xs.length : Int) = (d : Int) := by omega
      generalize hq : sameM xs[x] ys[d] = q at *
      have HQ := Lib.hid hq
      have HDD := Lib.hid hd
      clear hsx0 hsxz hsxv hsy0 hsyz hsyv hx1 hz1 hq hd
      cases q with
      | true =>
        gi_wp2_with (refine ⟨trivial, ?_⟩; gi_at_call 55; refine (CallsIn.inRound l (callsIn_wide.2 (hS _))).mono ?_; rintro e w' ⟨rfl, n, rfl⟩)
        refine ⟨((keepsOthers_drewN _ _).trans (KeepsOthers.setCell _ _ _)).from _, (KeepN.drewN _ _).trans (KeepN.setCell _ _ (by omega) (fun g e => by have := hrow g e; omega)), hN.other (by omega) _, hM.other (by omega) _, ?_, (below_drewQ hB _).setCell (p := ⟨w.heap.size + 1 + 1, 0, none⟩) (by simp; omega) _, ?_⟩
        · have := Boxed.set (.int .i64 ((pre.length : Int) + 1)) (show Boxed (W.drewN n) (w.heap.size + 1 + 1) 3 (.int .i64 pre.length) from hI)
          simpa using this
        · intro j hj
          rcases List.mem_append.1 hj with hj | hj
          · exact hC j hj
          · obtain rfl := List.mem_singleton.1 hj; exact ⟨d, hdy, HDD.out, of_compareM.1 HQ.out⟩
      | false =>
        gi_wp2_with (refine ⟨trivial, ?_⟩; gi_at_call 55; refine (CallsIn.inRound l (callsIn_wide.2 (hS _))).mono ?_; rintro e w' ⟨rfl, n, rfl⟩)
        refine ⟨(keepsOthers_drewN _ _).from _, rfl, hN, below_drewQ hB _, by have h : Boxed (W.drewN n) (w.heap.size + 1 + 1) 3 (.int .i64 (pre.length : Int)) := hI; simpa using h, pre, x, rfl, hC, ?_⟩
        intro d2 h2 e2
        have := HDD.out
        obtain rfl : d2 = d := by omega
        intro e0
        have := of_compareM.2 e0
        rw [HQ.out] at this; cases this
    · have hneg : (x.val : Int) + (ys.length : Int) - (xs.length : Int) < 0 := by omega
      gi_wp2
      refine ⟨trivial, ?_⟩
      gi_wp2
      exact ⟨(KeepsOthers.refl _).from _, rfl, hN, hB, by simpa using hI, pre, x, rfl, hC, fun d h e => by omega⟩
  case done =>
    rintro D zs W hD rfl ⟨hN, hM, hI, hB, hC⟩ hK
    have hxy : xs.length ≤ ys.length := by
      by_cases h0 : xs.length = 0
      · omega
      · have := (hC ⟨0, by omega⟩ (by simp)).eq.1
        simpa using this
    have hE : sharedR xs.reverse ys.reverse = xs.length := shared_all hxy (fun j h1 h2 => (hC ⟨j, h1⟩ (by simp)).eq.2 (by omega))
    rw [show (List.finRange xs.length).reverse.length = xs.length by simp] at hI
    obtain ⟨m, hmE⟩ : ∃ m, m = xs.length := ⟨_, rfl⟩
    rw [← hmE] at hI hE
    have hm : m ≤ xs.length := by omega
    clear hC hM hmE hxy
    have cn := hN.cell
    have c0 := hI.cell
    obtain ⟨a0, n0, c3, e3, hcap, hno⟩ := hO
    cases e3
    obtain ⟨k, hk0⟩ : ∃ k, xs.length = k + m := ⟨xs.length - m, by omega⟩
    have hsub : (xs.length : Int) - (m : Int) = (k : Int) := by omega
    have hEk : commonN xs ys = xs.drop k := by unfold commonN; rw [hE]; congr 1; omega
    have HE := Lib.hid hEk
    clear hE hEk
    have hDl := (Array.getElem?_eq_some_iff.1 hK).1
    have hBs := hB.size
    have hAW := hA.below hB
    have hkx : k ≤ xs.length := by omega
    by_cases hx0 : xs = []
    · have h0 : xs.length = 0 := by rw [hx0]; rfl
      have hm0 : m = 0 := by omega
      have hk00 : k = 0 := by omega
      have HX := Lib.hid hx0
      clear hx0
      subst hm0 hk00
      have hdrop : xs.drop 0 = [] := by rw [HX.out]; rfl
      rw [hdrop] at HE
      rw [h0] at cn ⊢
      clear hdrop hsub
      cases a with
      | none =>
        obtain rfl : c = 0 := hno rfl
        have hC := clone_Name (.slice none 0 0) [] W ⟨_, _, rfl, .inl rfl⟩ SlOK.nil (by simp)
        gi_wp2_with (refine ⟨trivial, ?_⟩; gi_at_call 48; refine (callsIn_wide.2 hC).mono ?_; rintro e w2 ⟨v', rfl, hown, hb⟩)
        all_goals refine ⟨by simp, .inl ⟨_, _, rfl, run_takeDeferred (heap_below hK hb), ?_⟩⟩
        all_goals exact ⟨_, results_tmp rfl _ _ _, v', rfl, by rw [HE.out]; exact (hown.weaken hBs).putObj _ (heap_below hK hb) rfl, below_putO (hB.trans (hb.mono hBs)) (by have := HZ.out; omega) (Nat.le_refl _)⟩
      | some ad =>
        have hC := clone_Name (.slice (some ad) 0 c) [] W ⟨_, _, rfl, .inl rfl⟩ ⟨_, _, _, rfl, Nat.zero_le _, fun e => by cases e⟩ (by simp)
        gi_wp2_with (refine ⟨trivial, ?_⟩; gi_at_call 48; refine (callsIn_wide.2 hC).mono ?_; rintro e w2 ⟨v', rfl, hown, hb⟩)
        all_goals refine ⟨by simp, .inl ⟨_, _, rfl, run_takeDeferred (heap_below hK hb), ?_⟩⟩
        all_goals exact ⟨_, results_tmp rfl _ _ _, v', rfl, by rw [HE.out]; exact (hown.weaken hBs).putObj _ (heap_below hK hb) rfl, below_putO (hB.trans (hb.mono hBs)) (by have := HZ.out; omega) (Nat.le_refl _)⟩
    · obtain ⟨g, off, rfl, hg, hcc⟩ := hA.cell (Below.refl _ w) 0 (by cases xs with | nil => exact absurd rfl hx0 | cons x r => simp)
      clear hcc
      have hC := clone_Name (.slice (if c = k then some ⟨g, off, none⟩ else some ⟨g, off + k, none⟩) (xs.length - k) (c - k)) (xs.drop k) W (strs_drop hAW hcap k hkx _) (drop_ok hcap) (by simp; omega)
      have HK := Lib.hid hk0
      clear hk0
      generalize hps : xs.drop k = ps at *
      clear hps
      gi_wp2_with (refine ⟨trivial, ?_⟩; gi_at_call 48; refine (callsIn_wide.2 hC).mono ?_; rintro e w2 ⟨v', rfl, hown, hb⟩)
      all_goals refine ⟨by simp, .inl ⟨_, _, rfl, run_takeDeferred (heap_below hK hb), ?_⟩⟩
      all_goals exact ⟨_, results_tmp rfl _ _ _, v', rfl, by rw [HE.out]; exact (hown.weaken hBs).putObj _ (heap_below hK hb) rfl, below_putO (hB.trans (hb.mono hBs)) (by have := HZ.out; omega) (Nat.le_refl _)⟩
  case stop =>
    rintro D k pre W hD hp ⟨rfl, hN, hB, hI, p, x, rfl, hp0, hx⟩ hK
    obtain ⟨hpl, hall⟩ := rev_prefix hp
    have hE : sharedR xs.reverse ys.reverse = xs.length - 1 - x.val := by
      refine shared_at x.val x.isLt ?_ (fun h2 => hx _ (by omega) (by omega)) (fun j h1 h2 h3 => (hp0 ⟨j, h1⟩ (hall _ h3)).eq.2 (by omega))
      by_cases h1 : x.val + 1 < xs.length
      · have := (hp0 ⟨x.val + 1, h1⟩ (hall _ (by simp))).eq.1; simpa using this
      · omega
    rw [show (p ++ [x]).length - 1 = p.length by simp] at hI
    obtain ⟨m, hmE⟩ : ∃ m, m = p.length := ⟨_, rfl⟩
    rw [show xs.length - 1 - x.val = m by omega] at hE
    rw [← hmE] at hI
    have hm : m ≤ xs.length := by omega
    clear hp0 hx hall hmE hpl hp
    have cn := hN.cell
    have c0 := hI.cell
    obtain ⟨a0, n0, c3, e3, hcap, hno⟩ := hO
    cases e3
    obtain ⟨k, hk0⟩ : ∃ k, xs.length = k + m := ⟨xs.length - m, by omega⟩
    have hsub : (xs.length : Int) - (m : Int) = (k : Int) := by omega
    have hEk : commonN xs ys = xs.drop k := by unfold commonN; rw [hE]; congr 1; omega
    have HE := Lib.hid hEk
    clear hE hEk
    have hDl := (Array.getElem?_eq_some_iff.1 hK).1
    have hBs := hB.size
    have hAW := hA.below hB
    have hkx : k ≤ xs.length := by omega
    by_cases hx0 : xs = []
    · have h0 : xs.length = 0 := by rw [hx0]; rfl
      have hm0 : m = 0 := by omega
      have hk00 : k = 0 := by omega
      have HX := Lib.hid hx0
      clear hx0
      subst hm0 hk00
      have hdrop : xs.drop 0 = [] := by rw [HX.out]; rfl
      rw [hdrop] at HE
      rw [h0] at cn ⊢
      clear hdrop hsub
      cases a with
      | none =>
        obtain rfl : c = 0 := hno rfl
        have hC := clone_Name (.slice none 0 0) [] W ⟨_, _, rfl, .inl rfl⟩ SlOK.nil (by simp)
        gi_wp2_with (refine ⟨trivial, ?_⟩; gi_at_call 48; refine (callsIn_wide.2 hC).mono ?_; rintro e w2 ⟨v', rfl, hown, hb⟩)
        all_goals refine ⟨by simp, .inl ⟨_, _, rfl, run_takeDeferred (heap_below hK hb), ?_⟩⟩
        all_goals exact ⟨_, results_tmp rfl _ _ _, v', rfl, by rw [HE.out]; exact (hown.weaken hBs).putObj _ (heap_below hK hb) rfl, below_putO (hB.trans (hb.mono hBs)) (by have := HZ.out; omega) (Nat.le_refl _)⟩
      | some ad =>
        have hC := clone_Name (.slice (some ad) 0 c) [] W ⟨_, _, rfl, .inl rfl⟩ ⟨_, _, _, rfl, Nat.zero_le _, fun e => by cases e⟩ (by simp)
        gi_wp2_with (refine ⟨trivial, ?_⟩; gi_at_call 48; refine (callsIn_wide.2 hC).mono ?_; rintro e w2 ⟨v', rfl, hown, hb⟩)
        all_goals refine ⟨by simp, .inl ⟨_, _, rfl, run_takeDeferred (heap_below hK hb), ?_⟩⟩
        all_goals exact ⟨_, results_tmp rfl _ _ _, v', rfl, by rw [HE.out]; exact (hown.weaken hBs).putObj _ (heap_below hK hb) rfl, below_putO (hB.trans (hb.mono hBs)) (by have := HZ.out; omega) (Nat.le_refl _)⟩
    · obtain ⟨g, off, rfl, hg, hcc⟩ := hA.cell (Below.refl _ w) 0 (by cases xs with | nil => exact absurd rfl hx0 | cons x r => simp)
      clear hcc
      have hC := clone_Name (.slice (if c = k then some ⟨g, off, none⟩ else some ⟨g, off + k, none⟩) (xs.length - k) (c - k)) (xs.drop k) W (strs_drop hAW hcap k hkx _) (drop_ok hcap) (by simp; omega)
      have HK := Lib.hid hk0
      clear hk0
      generalize hps : xs.drop k = ps at *
      clear hps
      gi_wp2_with (refine ⟨trivial, ?_⟩; gi_at_call 48; refine (callsIn_wide.2 hC).mono ?_; rintro e w2 ⟨v', rfl, hown, hb⟩)
      all_goals refine ⟨by simp, .inl ⟨_, _, rfl, run_takeDeferred (heap_below hK hb), ?_⟩⟩
      all_goals exact ⟨_, results_tmp rfl _ _ _, v', rfl, by rw [HE.out]; exact (hown.weaken hBs).putObj _ (heap_below hK hb) rfl, below_putO (hB.trans (hb.mono hBs)) (by have := HZ.out; omega) (Nat.le_refl _)⟩
end
end Go.Proofs.Ytoohhoillblaoaa
