/-
  (*Tree[int]).deepest.
-/
import Derived.Test.YtbnkecmhmcligaaMQ12
namespace Go.Proofs.Ytbnkecmhmcligaa
set_option linter.unusedVariables false
set_option linter.unusedSimpArgs false
set_option maxRecDepth 20000
open Go.RowKit Go.Shelf Go.Maps Go.WideMaps
set_option maxRecDepth 20000
def DeepPost (s : TreS) (p : Nm) (w : World) (e : Ending) (w' : World) : Prop := ∃ d, e = .returned (.tuple #[.pointer (some ⟨s.be (p.take d), 0, none⟩), .int .i64 (d : Int)]) ∧ DeepAt s.ks p d ∧ Below w.heap.size w w'
/-- Between two rounds of deepest. -/
def DeepI (NP : TypeId) (w : World) (s : TreS) (q : Nm) (W : World) : Prop := q ∈ s.ks ∧ Boxed W w.heap.size NP (.pointer (some ⟨s.be q, 0, none⟩)) ∧ Boxed W (w.heap.size + 1) 3 (.int .i64 (q.length : Int)) ∧ Below w.heap.size w W
theorem deepI_own {NP : TypeId} {w : World} {s : TreS} {β : Type} (f : β → Nm) {B : Nat} (hB : w.heap.size ≤ B) : OwnT B (fun pre W => DeepI NP w s (f pre) W) := by
  rintro pre W W' row ⟨h1, h2, h3, h4⟩ hg hr
  have hp : ∀ r, row = some r → ∃ o : Obj, W.heap[r]? = some o ∧ Plain o := fun r e => (hr r e).2
  exact ⟨h1, Boxed.plain h2 hg hp, Boxed.plain h3 hg hp, h4.grown hg h4.size (fun k e => by have := (hr k e).1; omega)⟩
theorem way_map (n m : Nm) (hm : foldN n = m) : wayN n = (List.finRange m.length).reverse.map (fun x => m[x]) := by
  unfold wayN
  rw [hm, List.map_reverse]
  congr 1
  apply List.ext_getElem (by simp)
  intro j h1 h2
  simp
section
attribute [local go_sem] Oper.semAt_some
set_option maxRecDepth 100000 in
set_option maxHeartbeats 8000000 in
theorem tree_deepest_i (s : TreS) (more : Nat) (vn : Value) (n m : Nm) (hm : foldN n = m) (w : World) (hT : TrM 62 60 (.int .i64 0) w s more) (hA : NmAt w vn n) (hk : NmOK n) :
    Calls Try.prog 27 #[.pointer (some ⟨s.be [], 0, none⟩), vn] w (DeepPost s (wayN n) w) := by
  have hw := way_map n m hm
  have hml : m.length = n.length := by rw [← hm, foldN_len]
  have hkl := hk.1
  have hmk : ∀ x ∈ m, x.length ≤ 1048576 ∧ foldL x = x := by
    rw [← hm]; intro x hx
    obtain ⟨y, hy, rfl⟩ := List.mem_map.1 hx
    exact ⟨by rw [foldL_len]; exact hk.2 y hy, foldL_idem y⟩
  obtain ⟨a, c, rfl, -⟩ := id hA.1
  obtain ⟨k1, hk1⟩ : ∃ k, n.length = k := ⟨_, rfl⟩
  rw [hk1] at hA ⊢
  obtain ⟨B, hB⟩ : ∃ B, s.be [] = B := ⟨_, rfl⟩
  obtain ⟨W0, hW0⟩ : ∃ W0, (w.alloc (.cells #[.pointer (some ⟨B, 0, none⟩)] 63)).alloc (.cells #[.int .i64 0] 3) = W0 := ⟨_, rfl⟩
  have hB0 : Below w.heap.size w W0 := by rw [← hW0]; exact ((Below.refl w.heap.size w).alloc (Nat.le_refl _) _).alloc (by simp) _
  have hz0 : W0.heap.size = w.heap.size + 2 := by rw [← hW0]; simp
  have b3 : Boxed W0 w.heap.size 63 (.pointer (some ⟨B, 0, none⟩)) := by rw [← hW0]; exact (Boxed.new w _ _).alloc _
  have b6 : Boxed W0 (w.heap.size + 1) 3 (.int .i64 0) := by
    have h := Boxed.new (w.alloc (.cells #[.pointer (some ⟨B, 0, none⟩)] 63)) 3 (.int .i64 0)
    rw [World.size_alloc] at h
    rw [← hW0]; exact h
  have HT := Lib.hid hT; have HA := Lib.hid hA; have HK := Lib.hid hk; have HM := Lib.hid hm; have HML := Lib.hid hml; have HMK := Lib.hid hmk; have HB := Lib.hid hB; have HB0 := Lib.hid hB0; have HZ0 := Lib.hid hz0; have HB3 := Lib.hid b3; have HB6 := Lib.hid b6; have HKL := Lib.hid hkl; have HW := Lib.hid hw
  rw [hB]
  clear hT hA hk hm hml hmk hB hB0 hz0 b3 b6 hkl hw
  refine (callsIn_wide (n := 9)).1 ?_
  refine callsIn_of_wp_marks Try.func27 rfl trivial ?_ rfl
  simp only [Try.ntmps27, List.size_toArray, List.length_cons, List.length_nil, Nat.reduceAdd, Nat.reduceSub, Array.replicate_succ, Array.replicate_zero, List.push_toArray, List.append_toArray, List.nil_append, List.cons_append]
  refine wpIn_wide.2 ?_
  have HW0 := Lib.hid hW0
  clear hW0
  go_wp2_with fail
  rw [HW0.out]
  clear HW0
  refine (tree_downward _ _ _ _).mono ?_
  rintro e w2 ⟨rfl, rfl⟩
  go_wp2
  refine (wpIn_wide (n := 9)).1 ?_
  obtain ⟨W2, hW2⟩ : ∃ W2, W0.alloc (.cells #[.slice a k1 c] 28) = W2 := ⟨_, rfl⟩
  have hb2 : Below W0.heap.size W0 W2 := by rw [← hW2]; exact (Below.refl _ W0).alloc (Nat.le_refl _) _
  have hz2 : W2.heap.size = w.heap.size + 3 := by rw [← hW2]; simp; exact HZ0.out
  have x4 : Boxed W2 W0.heap.size 28 (.slice a k1 c) := by rw [← hW2]; exact Boxed.new W0 _ _
  have hbw : Below w.heap.size w W2 := HB0.out.trans (hb2.mono HB0.out.size)
  have hA2 := HA.out.below hbw
  have hI0 : DeepI 63 w s [] W2 :=
    ⟨HT.out.ok.root, by rw [HB.out]; exact (hb2.block _ HB3.out.lt).trans HB3.out, (hb2.block _ HB6.out.lt).trans HB6.out, hbw⟩
  rw [hW2]
  have HZ2 := Lib.hid hz2
  clear hW2 hb2 hz2 hbw
  refine wpIn_rangeFunc_T rfl (by omega) (gf := 31) (lb := #[.pointer (some ⟨W0.heap.size, 0, none⟩)]) rfl trivial (enters_of Try.func31 (by kernel_rfl) rfl)
    (down_stops _ W0.heap.size (.slice a k1 c) n m HM.out HK.out W2 x4 hA2) keepTy_t keepTy_b (Below.refl _ _) (fun _ => rfl)
    (fun pre W => DeepI 63 w s (pre.map (fun x => m[x])) W)
    (fun k pre W => k = .exit 0 ∧ ∃ p x, pre = p ++ [x] ∧ p.map (fun x => m[x]) ++ [m[x]] ∉ s.ks ∧ DeepI 63 w s (p.map (fun x => m[x])) W)
    (deepI_own (B := W2.heap.size) (fun pre : List (Fin m.length) => pre.map (fun x => m[x])) (by rw [HZ2.out]; omega))
    (fun k s' W W' row h hg hr => by
      obtain ⟨h1, p, x, h2, h3, h4⟩ := h
      exact ⟨h1, p, x, h2, h3, deepI_own (B := W2.heap.size) (fun p : List (Fin m.length) => p.map (fun x => m[x])) (by rw [HZ2.out]; omega) p W W' row h4 hg hr⟩)
    hI0
    (fun x => { tmps := #[.pointer (some ⟨B, 0, none⟩), .slice a k1 c, undef, undef, .pointer none, .int .i64 0, .pointer (some ⟨w.heap.size, 0, none⟩), .pointer (some ⟨w.heap.size + 1, 0, none⟩), strV m[x], undef, .pointer (some ⟨B, 0, none⟩), .pointer (some ⟨B, 0, none⟩), .pointer (some ⟨B, 0, none⟩), .slice a k1 c, .func (.func 31) #[] #[.pointer (some ⟨W0.heap.size, 0, none⟩)], strV m[x], undef, undef, undef, undef, undef, undef, undef, undef, undef, undef, undef, undef, undef], defers := [] }) ?assign ?body ?done ?stop
  case assign =>
    intro l x W K hK
    unfold dwV
    gi_wp2
    exact hK
  case body =>
    rintro l' pre x W hl' ⟨rec, hrec⟩ ⟨hqm, h7, h8, hbw⟩ hlt
    obtain ⟨l, hl⟩ : ∃ l, m[x] = l := ⟨_, rfl⟩
    have hml := HMK.out l (hl ▸ List.getElem_mem x.isLt)
    have hsn : (pre ++ [x]).map (fun x => m[x]) = pre.map (fun x => m[x]) ++ [l] := by rw [List.map_append, ← hl]; rfl
    have hql : (pre.map (fun x => m[x])).length ≤ 1048576 := by rw [List.length_map]; have := HML.out; have := HKL.out; omega
    have HPR := Lib.hid (fun (h : pre.map (fun x => m[x]) ++ [l] ∉ s.ks) => (⟨rfl, pre, x, rfl, by rw [hl]; exact h, hqm, h7, h8, hbw⟩ : (Code.exit 0 = Code.exit 0) ∧ ∃ p y, pre ++ [x] = p ++ [y] ∧ p.map (fun x => m[x]) ++ [m[y]] ∉ s.ks ∧ DeepI 63 w s (p.map (fun x => m[x])) W))
    rw [hl]
    generalize pre.map (fun x => m[x]) = q at *
    have h1 := HT.out.below hbw
    have hlk := h1.look hqm l (by unfold maxLen; omega) Try.underlying58 zeroPtr_i
    have hnd := h1.node q hqm
    have c0 := kcell hnd 0 _ (cellsT_map _ _ _ _)
    have c6 := h7.cell; have f6 := h7.frozen; have c7 := h8.cell; have f7 := h8.frozen
    have HSN := Lib.hid hsn
    obtain ⟨sv, hsv⟩ : ∃ sv, strV l = sv := ⟨_, rfl⟩
    unfold kidV at hlk
    rw [hsv] at hlk ⊢
    obtain ⟨ql, hql2⟩ : ∃ k, q.length = k := ⟨_, rfl⟩
    rw [hql2] at c7 hql
    by_cases hin : q ++ [l] ∈ s.ks
    · rw [if_pos hin] at hlk
      have HF : Hid (DeepI 63 w s (q ++ [l]) ((W.setCell ⟨w.heap.size, 0, none⟩ (.pointer (some ⟨s.be (q ++ [l]), 0, none⟩))).setCell ⟨w.heap.size + 1, 0, none⟩ (.int .i64 ((ql : Int) + 1)))) := Lib.hid
        ⟨hin, (h7.set _).other (by omega) _, by
          rw [List.length_append, hql2]
          exact (h8.other (by omega) _).set _, (hbw.setCell (p := ⟨w.heap.size, 0, none⟩) (Nat.le_refl _) _).setCell (p := ⟨w.heap.size + 1, 0, none⟩) (by simp) _⟩
      have HY := Lib.hid ((setBox_ty (u := .pointer (some ⟨s.be (q ++ [l]), 0, none⟩)) h7 (by unfold KTy; decide)).trans (setBox_ty (u := .int .i64 ((ql : Int) + 1)) (h8.other (by omega) (.pointer (some ⟨s.be (q ++ [l]), 0, none⟩))) (by unfold KTy; decide)))
      clear h1 h7 h8 hbw hnd hrec hqm hsn hlt hml hsv hql2 HPR
      generalize s.be q = nb at *
      generalize s.be (q ++ [l]) = K1 at *
      generalize s.mb q = mo at *
      gi_wp2
      refine ⟨KeepsOthers.t ((KeepsOthers.setCell _ _ _).trans (KeepsOthers.setCell _ _ _)) _, HY.out, ?_⟩
      show DeepI _ _ _ (List.map (fun x => m[x]) (pre ++ [x])) _
      rw [HSN.out]; exact HF.out
    · rw [if_neg hin] at hlk
      have HP2 := Lib.hid (HPR.out hin)
      clear h1 h7 h8 hbw hnd hrec hqm hsn hlt hml hsv hql2 HPR hin
      generalize s.be q = nb at *
      generalize s.mb q = mo at *
      gi_wp2
      exact ⟨KeepsT.refl _ _, rfl, HP2.out.2⟩
  case done =>
    rintro D xs W hD rfl hI hKD
    have hI' : DeepI 63 w s (wayN n) W := by rw [HW.out]; exact hI
    obtain ⟨hqm, h7, h8, hbw⟩ := hI'
    have c6 := h7.cell; have c7 := h8.cell
    have HF : Hid (DeepPost s (wayN n) w (.returned (.tuple #[.pointer (some ⟨s.be (wayN n), 0, none⟩), .int .i64 ((wayN n).length : Int)])) (W.drew.putObj D (.deferred none))) := Lib.hid
      ⟨(wayN n).length, by rw [List.take_length], deepAt_all hqm, below_putO hbw.drew (by rw [HZ2.out] at hD; omega) (Nat.le_refl _)⟩
    have HKD := Lib.hid hKD
    clear hI h7 h8 hbw hKD hqm
    generalize s.be (wayN n) = nb at *
    generalize (wayN n).length = wl at *
    go_wp2
    go_region
    go_wp2
    refine ⟨by simp, .inl ⟨_, _, rfl, run_takeDeferred (w := W.drew) HKD.out, ?_⟩⟩
    refine ⟨_, results_tmp2 rfl _ _ _, ?_⟩
    exact HF.out
  case stop =>
    rintro D c2 pre W hD hp ⟨rfl, p, x, rfl, hno, hqm, h7, h8, hbw⟩ hKD
    have c6 := h7.cell; have c7 := h8.cell
    have hpre : p.map (fun x => m[x]) ++ [m[x]] <+: wayN n := by
      rw [HW.out]
      obtain ⟨t, ht⟩ := hp
      exact ⟨t.map (fun x => m[x]), by rw [← ht]; simp⟩
    have HF : Hid (DeepPost s (wayN n) w (.returned (.tuple #[.pointer (some ⟨s.be (p.map (fun x => m[x])), 0, none⟩), .int .i64 ((p.map (fun x => m[x])).length : Int)])) (W.drew.putObj D (.deferred none))) := Lib.hid (by
      obtain ⟨t, ht⟩ := hpre
      generalize p.map (fun x => m[x]) = q at *
      have e1 : (wayN n).take q.length = q := by rw [← ht, List.append_assoc]; simp
      have e2 : (wayN n).take (q.length + 1) = q ++ [m[x]] := by rw [← ht]; exact List.take_left' (by simp)
      exact ⟨q.length, by rw [e1], deepAt_stop HT.out.ok (by rw [← ht]; simp) (by rw [e1]; exact hqm) (by rw [e2]; exact hno), below_putO hbw.drew (by rw [HZ2.out] at hD; omega) (Nat.le_refl _)⟩)
    have HKD := Lib.hid hKD
    clear h7 h8 hbw hKD hqm hno hpre hp
    generalize s.be (p.map (fun x => m[x])) = nb at *
    generalize (p.map (fun x => m[x])).length = wl at *
    gi_wp2
    go_wp2
    go_region
    go_wp2
    refine ⟨by simp, .inl ⟨_, _, rfl, run_takeDeferred (w := W.drew) HKD.out, ?_⟩⟩
    refine ⟨_, results_tmp2 rfl _ _ _, ?_⟩
    exact HF.out
end
end Go.Proofs.Ytbnkecmhmcligaa

