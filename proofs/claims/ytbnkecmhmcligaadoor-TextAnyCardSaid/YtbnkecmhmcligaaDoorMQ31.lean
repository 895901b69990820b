/-
  text.Text.
-/
import Derived.Test.YtbnkecmhmcligaaDoorMQ30
import Derived.Test.YtbnkecmhmcligaaDoorMQ03
namespace Go.Proofs.YtbnkecmhmcligaaDoor
set_option linter.unusedVariables false
set_option linter.unusedSimpArgs false
open Go.RowKit Go.Shelf
set_option maxRecDepth 20000
def flatR (pre : List Ln) : List UInt8 := (pre.map (·.1)).flatMap fun s => s ++ [10]
theorem flatR_len : ∀ pre : List Ln, (flatR pre).length ≤ pre.length * 10000001
  | [] => by simp [flatR]
  | x :: r => by
    have := flatR_len r
    have h := x.2
    unfold flatR at *
    simp only [List.map_cons, List.flatMap_cons, List.length_append, List.length_cons, List.length_nil] at *
    rw [Nat.succ_mul]; omega
section
attribute [local go_sem] Oper.semAt_some
def TxtI (N B : Nat) (W0 : World) (pre : List Ln) (W : World) : Prop := KpR N B W0 W ∧ GBox 5 58 bv B N (flatR pre) W
theorem txtI_own {N B : Nat} {W0 : World} (hn : N ≤ W0.heap.size) : OwnFrom N (TxtI N B W0) := by
  rintro pre W W' row ⟨h1, h2⟩ hg hr
  exact ⟨h1.trans (KpR.grown (Nat.le_trans hn h1.size) hg (fun r e => .inl (hr r e).1)), gBox_own B N (fun pre : List Ln => flatR pre) pre W W' row h2 hg (fun r e => (hr r e).2)⟩
set_option maxRecDepth 100000 in
set_option maxHeartbeats 8000000 in
theorem text_Text (ve vf vd vs : Value) (r : Rp) (w : World) (hA : RpAt w ve vf vd vs r) (hk : RpOK r) (hT : Tab w) (er : Int) (her : r.err = er) :
    Calls Tryd.prog 9 #[.agg #[ve, vf, vd, vs, .int .i64 er]] w fun e w' => e = .returned (.string ⟨(textM r).toArray⟩) ∧ Below w.heap.size w w' := by
  obtain ⟨W2, hW2⟩ : ∃ W2, (w.alloc (.cells #[ve, vf, vd, vs, .int .i64 er] 30)).alloc (.cells #[.slice none 0 0] 58) = W2 := ⟨_, rfl⟩
  obtain ⟨W0, hW0⟩ : ∃ W0, W2.alloc (.cells #[ve, vf, vd, vs, .int .i64 er] 30) = W0 := ⟨_, rfl⟩
  have hz2 : W2.heap.size = w.heap.size + 2 := by rw [← hW2]; simp
  have hz0 : W0.heap.size = w.heap.size + 3 := by rw [← hW0]; simp [hz2]
  have hb2 : Below w.heap.size w W2 := by rw [← hW2]; exact ((Below.refl w.heap.size w).alloc (Nat.le_refl _) _).alloc (by simp) _
  have hb0 : Below w.heap.size w W0 := by rw [← hW0]; exact hb2.alloc hb2.size _
  have x0 : W2.heap[w.heap.size]? = some (.cells #[ve, vf, vd, vs, .int .i64 er] 30) := by
    rw [← hW2]; exact (((Below.refl (w.heap.size + 1) (w.alloc (.cells #[ve, vf, vd, vs, .int .i64 er] 30))).alloc (by simp) _).block _ (by omega)).trans (knew _ _)
  have x1 : Boxed W0 (w.heap.size + 1) 58 (.slice none 0 0) := by
    have h := Boxed.new (w.alloc (.cells #[ve, vf, vd, vs, .int .i64 er] 30)) 58 (.slice none 0 0)
    rw [World.size_alloc, hW2] at h
    rw [← hW0]; exact h.alloc _
  have x2 : W0.heap[w.heap.size + 2]? = some (.cells #[ve, vf, vd, vs, .int .i64 r.err] 30) := by
    rw [← hW0, ← hz2, her]; exact knew _ _
  have hseq := rows_stops (w.heap.size + 3) (w.heap.size + 1) w W0 (w.heap.size + 2) ve vf vd vs r hk hA hT hb0 (by omega) hz0.symm (by omega) (by omega) x2
  have HLL := Lib.hid (linesM_few r hk)
  have c0 := kcell x0 0 _ rfl; have c1 := kcell x0 1 _ rfl; have c2 := kcell x0 2 _ rfl; have c3 := kcell x0 3 _ rfl; have c4 := kcell x0 4 _ rfl
  have HSEQ := Lib.hid hseq; have HZ2 := Lib.hid hz2; have HZ0 := Lib.hid hz0; have HB0 := Lib.hid hb0; have HX1 := Lib.hid x1; have HW0 := Lib.hid hW0
  clear hseq hz0 hz2 hb0 hb2 x0 x1 x2 hW0 hA hk hT her
  refine (callsIn_wide (n := 8)).1 ?_
  refine callsIn_of_wp_marks Tryd.func9 rfl trivial ?_ rfl
  simp only [Tryd.ntmps9, List.size_toArray, List.length_cons, List.length_nil, Nat.reduceAdd, Nat.reduceSub, Array.replicate_succ, Array.replicate_zero, List.push_toArray, List.append_toArray, List.nil_append, List.cons_append]
  gi_wp2_with fail
  refine ⟨trivial, ?_⟩
  refine (callsIn_wide.2 (text_rows _ ⟨_, _, _, _, _, rfl⟩ _)).mono ?_
  rintro e w3 ⟨rfl, rfl⟩
  clear c0 c1 c2 c3 c4
  gi_wp2
  rw [HW0.out, HZ2.out]
  clear hW2 HW0
  refine wpIn_rangeFunc_ownG rfl (by omega) (gf := 18) (lb := #[.pointer (some ⟨w.heap.size + 2, 0, none⟩)]) rfl trivial (enters_of Tryd.func18 (by kernel_rfl) rfl)
    HSEQ.out (fun h k => h.trans k)
    (fun W l o o' hl h h1 h2 => ⟨rfl, rfl, rfl, by simp, fun k a b => World.putObj_heap_other (by have := HZ0.out; omega)⟩) (Below.refl _ _) (fun _ => rfl)
    (TxtI (w.heap.size + 3) (w.heap.size + 1) W0) (fun k pre W => False) (by rw [HZ0.out]; exact txtI_own (by rw [HZ0.out]; exact Nat.le_refl _)) (fun _ => ownFrom_pure _ _)
    ⟨KpR.refl _ _ _, .slice none 0 0, HX1.out, OwnG.nil _ _⟩
    (fun x => { tmps := #[.agg #[ve, vf, vd, vs, .int .i64 er], .pointer (some ⟨w.heap.size, 0, none⟩), .string ⟨#[]⟩, .pointer (some ⟨w.heap.size + 1, 0, none⟩), strV x.1, .agg #[ve, vf, vd, vs, .int .i64 er], .func (.func 18) #[] #[.pointer (some ⟨w.heap.size + 2, 0, none⟩)], strV x.1, undef, undef, undef, undef, undef, undef, undef, undef], defers := [] }) ?assign ?body ?done ?stop
  case assign =>
    intro l x W K hK
    unfold lnV
    gi_wp2
    exact hK
  case body =>
    rintro l pre x W ⟨hK, v, hv, hown⟩ hlt
    have hNW : w.heap.size + 3 ≤ W.heap.size := by rw [← HZ0.out]; exact hK.size
    obtain ⟨va, vc, rfl⟩ := hown.shape
    have hc := hv.cell
    obtain ⟨sx, hs0, hsz, hxv⟩ := str_of x.1
    have hpl := flatR_len pre
    have hp4 : pre.length ≤ 4001 := by have := HLL.out; omega
    have HPL : Hid ((flatR pre).length ≤ 40100000000) := Lib.hid (by have := Nat.mul_le_mul_right 10000001 hp4; omega)
    have HSZ : Hid (sx.size ≤ 10000000) := Lib.hid (by have := x.2; omega)
    have HK := Lib.hid hK; have HV := Lib.hid hv; have HO := Lib.hid hown; have HNW := Lib.hid hNW
    have HPX : Hid (flatR (pre ++ [x]) = flatR pre ++ sx.data.toList ++ [10]) := Lib.hid (by unfold flatR; rw [hs0]; simp)
    rw [hxv]
    generalize flatR pre = ps at *
    generalize hpn : ps.length = pn at *
    have HPN := Lib.hid hpn
    clear hK hv hown hNW hlt hpl hp4 hxv hpn hs0 hsz
    gi_wp2_with (first | (gi_at_builtin; refine wplIn_append_str W rfl (.tmp 8) (.tmp 9) rfl (w.heap.size + 3) (.slice va pn vc) ps rfl HO.out sx rfl HNW.out (by have := HPL.out; have := HPN.out; have := HSZ.out; omega) ?_; intro v' w1 hown' hg'; obtain ⟨a', n', c', rfl⟩ : ∃ a n c, v' = .slice a n c := (by obtain ⟨a, c, e⟩ := hown'.shape; exact ⟨_, _, _, e⟩); obtain ⟨hv1, ho2, hk2, hbb2, hs2⟩ := gboxed_appends2 (n₀ := w.heap.size + 1) (by decide) HV.out HO.out (by omega) (Nat.le_refl _) HNW.out hown' hg'; have hc1 := hv1.cell; have hf1 := hv1.frozen; have hv3 := hv1.set (.slice a' n' c'); have hown3 := OwnG.kept hown' (grownBy_setCell' w1 (w.heap.size + 1) (.slice a' n' c')) (.inr (hv1.not_row (by decide) hown').symm); have HV3 := Lib.hid hv3; have HO3 := Lib.hid hown3; have HK2 := Lib.hid hk2; have HKP := Lib.hid (KpR.appended (N := w.heap.size + 3) (B := w.heap.size + 1) hbb2 (fun b h1 h2 => hs2 b h1 h2)); have HZ3 := Lib.hid (Nat.le_trans HNW.out hk2.size); have hc3 := hv3.cell; have hca3 := (hv3.alloc (.cells #[.int .u8 10] 5)).cell; clear hown' hg' hv1 ho2 hk2 hbb2 hs2 hown3 hv3) | (gi_at_builtin; refine wplIn_append_u8 (w1.setCell ⟨w.heap.size + 1, 0, none⟩ (.slice a' n' c')) rfl (.tmp 11) (.tmp 12) rfl (w.heap.size + 3) (.slice a' n' c') (ps ++ sx.data.toList) rfl HO3.out [.int .u8 10] [10] rfl 1 1 (by simp [Act.eval]) rfl HZ3.out (by have := HPL.out; have := HPN.out; have := HSZ.out; rw [List.length_append, size_data]; simp; omega) ?_; intro v4 w4 hown4 hg4; obtain ⟨a4, n4, c4, rfl⟩ := hown4.shape; obtain ⟨hv5, ho5, hk5, hbb5, hs5⟩ := gboxed_appends2 (enc := bv) (n₀ := w.heap.size + 1) (by decide) HV3.out HO3.out (by omega) (Nat.le_refl _) HZ3.out hown4 hg4; have hc5 := hv5.cell; have hf5 := hv5.frozen))
    have hkp : KpR (w.heap.size + 3) (w.heap.size + 1) W _ := HKP.out.trans (KpR.appended hbb5 (fun b h1 h2 => hs5 b h1 h2))
    exact ⟨(HK2.out.trans hk5).from _, hkp, HK.out.trans hkp, by rw [HPX.out]; exact ho5⟩
  case done =>
    rintro D ys W hD hys ⟨hK, v, hv, hown⟩ hKD
    have hfl : flatR ys = textM r := by unfold flatR textM; rw [hys]
    rw [hfl] at hown
    have hc := hv.cell
    have hcv := OwnU8.string (show OwnU8 W (w.heap.size + 3) v (textM r) from hown)
    have HK := Lib.hid hK; have HD := Lib.hid hD; have HKD := Lib.hid hKD
    clear hK hown hD hKD hv hys hfl
    gi_wp2
    refine ⟨by simp, .inl ⟨_, _, rfl, run_takeDeferred HKD.out, ?_⟩⟩
    refine ⟨_, results_tmp rfl _ _ _, rfl, ?_⟩
    exact (HB0.out.trans (HK.out.below (by omega) (by omega))).trans (belowK_b (w := w) (Nat.le_refl _) W D _ _ (by have := HD.out; have := HZ0.out; omega) HKD.out rfl rfl)
  case stop =>
    rintro D c pre W _ _ h _
    exact h.elim
end
end Go.Proofs.YtbnkecmhmcligaaDoor

