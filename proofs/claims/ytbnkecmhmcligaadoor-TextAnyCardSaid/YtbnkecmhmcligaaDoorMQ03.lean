/-
  Contract of name.Text.
-/
import Derived.Test.YtbnkecmhmcligaaDoorMQ18
import Derived.Test.YtbnkecmhmcligaaDoorMQ15
import Derived.Lib.AppendStr
namespace Go.Proofs.YtbnkecmhmcligaaDoor
set_option linter.unusedVariables false
set_option linter.unusedSimpArgs false
set_option maxRecDepth 20000
open Go.RowKit Go.Shelf

theorem wplIn_append_str {F : Fence} {d : Nat} {ops : Array Oper} {rest : List Oper} {o : Oper} {a : Act} {Q : Exit → Act → World → Prop} (W : World) (hgd : o.guard = none) (sl x : Operand)
    (ho : o.op = .call { callee := .builtin .append, args := #[sl, x], argTypes := #[58, 9] })
    (base : Nat) (v : Value) (xs : List UInt8) (hs : a.eval sl = v) (hown : OwnG 5 bv W base v xs) (s : ByteArray) (hx : a.eval x = .string s)
    (hbase : base ≤ W.heap.size) (hk : xs.length + s.size ≤ 140737488355328)
    (h : ∀ v' w', OwnG 5 bv w' base v' (xs ++ s.data.toList) → W.grownBy w' v.ownBlock → wpListIn F d Tryd.prog ops Q rest (a.put o.dst v') w') : wpListIn F d Tryd.prog ops Q (o :: rest) a W := by
  obtain ⟨i0, hi, hz0, hz1, hz2⟩ := info_parts info_u8
  refine wpListIn_plain hgd fun K hK => ?_
  obtain ⟨v', w', hr, h2, h3, h4⟩ := Lib.run_append_own_string (P := Tryd.prog) (w := W) base 58 9 o.type 5 i0 Tryd.underlying58 Tryd.underlying9 hi hz0 hz1 hz2 v xs.length (xs.map bv) hown s (by unfold maxLen; omega) hk hbase
  unfold Oper.wpIn
  refine ⟨?_, ?_⟩
  · simp [Oper.about, ho, resolve, Target.leads, Sem.run_pure]
  · rw [Oper.semAt_plain F _ _ (by rw [ho]; intro c hc'; cases hc')]
    simp [execOp, ho, resolve, invoke, builtin, hs, hx, hr, Result.andThen]
    refine hK _ _ (h v' w' ?_ h3)
    unfold OwnG
    rw [List.length_append, List.map_append, size_data]
    exact h2

def textF (n : Nm) : List UInt8 := n.flatMap fun x => textL x ++ [46]
theorem textF_snoc (n : Nm) (x : List UInt8) : textF (n ++ [x]) = textF n ++ textL x ++ [46] := by simp [textF]
theorem textN_eq {n : Nm} (h : n ≠ []) : textN n = textF n := by unfold textN; rw [if_neg h]; rfl
theorem textF_le {xs : Nm} (h : NmOK xs) (pre : List (Fin xs.length)) : (textF (atN xs pre)).length ≤ pre.length * 4194305 := by
  induction pre with
  | nil => simp [textF, atN]
  | cons j r ih =>
    have h1 := h.get j.val j.isLt
    have h2 := textL_le xs[j]
    simp only [textF, atN, List.map_cons, List.flatMap_cons, List.length_append, List.length_cons, List.length_nil, Fin.getElem_fin] at ih h2 ⊢
    omega

section
attribute [local go_sem] Oper.semAt_some
set_option maxRecDepth 100000 in
set_option maxHeartbeats 4000000 in
theorem name_Text (v : Value) (xs : Nm) (w : World) (hA : StrsAt w v xs) (hk : NmOK xs) :
    Calls Tryd.prog 34 #[v] w fun e w' => e = .returned (.string ⟨(textN xs).toArray⟩) ∧ Below w.heap.size w w' := by
  obtain ⟨a, c, rfl, hx⟩ := id hA
  have hl := hk.1
  have hrow := hA.row_lt
  refine (callsIn_wide (n := 5)).1 ?_
  refine callsIn_of_wp_marks Tryd.func34 rfl trivial ?_ rfl
  simp only [Tryd.ntmps34, List.size_toArray, List.length_cons, List.length_nil, Nat.reduceAdd, Nat.reduceSub, Array.replicate_succ, Array.replicate_zero, List.push_toArray, List.append_toArray, List.nil_append, List.cons_append]
  by_cases h0 : xs = []
  · have h00 : xs.length = 0 := by rw [h0]; rfl
    have ht : textN xs = [46] := by unfold textN; rw [if_pos h0]
    have HT := Lib.hid ht
    rw [h00]
    clear h0 ht
    gi_wp2
    exact ⟨_, results_tmp rfl _ _ _, by rw [HT.out]; rfl, Below.refl _ _⟩
  have HT := Lib.hid (textN_eq h0)
  have hne : ((xs.length : Int) == 0) = false := by
    have : xs.length ≠ 0 := fun e => h0 (List.eq_nil_of_length_eq_zero e)
    simp; omega
  clear h0
  gi_wp2_with (refine ⟨trivial, ?_⟩; gi_at_call 43; refine (callsIn_wide.2 (name_labels _ _ _ _)).mono ?_; rintro e w' ⟨rfl, rfl⟩)
  obtain ⟨W0, hW0⟩ : ∃ W0, ((w.alloc (.cells #[.slice none 0 0] 58)).alloc (.cells #[.slice a xs.length c] 39)) = W0 := ⟨_, rfl⟩
  have bS : Boxed W0 (w.heap.size + 1) 39 (.slice a xs.length c) := by
    have := Boxed.new (w.alloc (.cells #[.slice none 0 0] 58)) 39 (.slice a xs.length c)
    rw [World.size_alloc] at this
    rw [← hW0]; exact this
  have hsz : W0.heap.size = w.heap.size + 2 := by rw [← hW0]; simp
  have hB0 : Below w.heap.size w W0 := by rw [← hW0]; exact ((Below.refl _ w).alloc (Nat.le_refl _) _).alloc (by simp) _
  have hI0 : GBox 5 58 bv w.heap.size w.heap.size [] W0 := by rw [← hW0]; exact ⟨_, (Boxed.new w _ _).alloc _, OwnG.nil _ _⟩
  rw [hW0]
  have HZ := Lib.hid hsz; clear hsz hW0
  refine wpIn_rangeFunc_ownG rfl (by omega) (gf := 49) (lb := #[.pointer (some ⟨w.heap.size + 1, 0, none⟩)]) rfl trivial (enters_of Tryd.func49 (by kernel_rfl) rfl)
    (labels_stops _ (by omega) (w.heap.size + 1) (.slice a xs.length c) xs (by unfold maxLen; omega) W0 (by rw [HZ.out]; omega) bS.cell (hA.below hB0)) keepN_t (keepN_b (by rw [HZ.out]; omega) (fun g e => by have := hrow g e; rw [HZ.out]; omega)) (Below.refl _ _) (fun _ => rfl)
    (fun pre W => GBox 5 58 bv w.heap.size w.heap.size (textF (atN xs pre)) W ∧ Below w.heap.size w W ∧ Boxed W (w.heap.size + 1) 39 (.slice a xs.length c))
    (fun _ _ _ => False)
    (OwnFrom.and (Own.from (gBox_own w.heap.size w.heap.size (fun pre => textF (atN xs pre))) _) (OwnFrom.and (ownFrom_below (Nat.le_refl _) (by rw [HZ.out]; omega)) (Own.from (boxed_own _ _ _) _)))
    (fun _ _ _ _ _ hs _ _ => hs)
    ⟨hI0, hB0, bS⟩
    (fun j => { tmps := #[.slice a xs.length c, undef, .string ⟨#[]⟩, .pointer (some ⟨w.heap.size, 0, none⟩), undef, .string ⟨xs[j].toArray⟩, .slice a xs.length c, .int .i64 xs.length, .bool false, .slice a xs.length c, .func (.func 49) #[] #[.pointer (some ⟨w.heap.size + 1, 0, none⟩)], .int .i64 (j.val : Int), .string ⟨xs[j].toArray⟩, undef, undef, undef, undef, undef, undef, undef, undef, undef], defers := [] }) ?assign ?body ?done ?stop
  case assign =>
    intro l x W K hK
    unfold idxV strV
    gi_wp2
    exact hK
  case body =>
    rintro l pre x W ⟨⟨u, hv, hown⟩, hB, hS⟩ hlt
    have hc := hv.cell
    have hple := textF_le hk pre
    have hx1 : xs[x].length ≤ 1048576 := hk.get x.val x.isLt
    obtain ⟨sx, hsx0, hsxz, hsxv⟩ := str_of xs[x]
    have hF := fun W => label_Text sx W (by omega)
    rw [hsx0] at hF
    rw [str_at hsxv]
    have hsn : textF (atN xs (pre ++ [x])) = textF (atN xs pre) ++ textL xs[x] ++ [46] := by rw [atN_snoc, textF_snoc]
    have HSN := Lib.hid hsn
    have htl := textL_le xs[x]
    clear hsx0 hsxz hsxv hsn
    generalize textF (atN xs pre) = fs at *
    obtain ⟨sy, hsy0, hsyz, _⟩ := str_of (textL xs[x])
    rw [show (⟨(textL xs[x]).toArray⟩ : ByteArray) = sy from ba_ext (by rw [hsy0])] at hF
    rw [← hsy0] at HSN
    have hfb : fs.length + sy.size + 1 ≤ 140737488355328 := by omega
    clear hsy0 hsyz htl hple hx1
    gi_wp2
    have kd : KeepsOthers W W.drew := KeepsOthers.drew W
    have bd : Below w.heap.size W W.drew := (Below.refl _ W).drew
    have kbd : KeepN (w.heap.size + 1) (.slice a xs.length c) W W.drew := ⟨rfl, fun _ _ => rfl⟩
    have hvd : Boxed W.drew w.heap.size 58 u := hv
    have hownd : OwnG 5 bv W.drew w.heap.size u fs := hown
    have hSd : Boxed W.drew (w.heap.size + 1) 39 (.slice a xs.length c) := hS
    clear hc
    refine wpIn_region_orders [[0, 1, 2, 3, 4], [1, 0, 2, 3, 4], [1, 2, 0, 3, 4]] follows_mixed (by kernel_rfl) ?_
    generalize W.drew = Wd at *
    have hc := hvd.cell
    have hbase : w.heap.size ≤ Wd.heap.size := by have := hB.size; have := bd.size; omega
    refine ⟨?_, ?_, ?_, trivial⟩
    all_goals
      simp only [List.filterMap_cons, List.filterMap_nil, List.getElem?_toArray, List.getElem?_cons_zero, List.getElem?_cons_succ]
      change wpListIn _ _ _ _ _ [_, _, _, _, _] _ _
      gi_wp2_with (first | (gi_at_builtin; refine wplIn_append_str w2 rfl (.tmp 13) (.tmp 15) rfl w.heap.size u fs rfl hown2 sy rfl hbase2 (by omega) ?_; intro v' w1 hown' hg'; obtain ⟨a', n', c', rfl⟩ : ∃ a n c, v' = .slice a n c := (by obtain ⟨a, c, e⟩ := hown'.shape; exact ⟨_, _, _, e⟩); obtain ⟨hv1, ho2, hk2, hbb2, hs2⟩ := gboxed_appends (by decide) hv2 hown2 (by omega) hown' hg'; have hc1 := hv1.cell; have hf1 := hv1.frozen; have hv3 := hv1.set (.slice a' n' c'); have hown3 : OwnU8 (w1.setCell ⟨w.heap.size, 0, none⟩ (.slice a' n' c')) w.heap.size (.slice a' n' c') (fs ++ sy.data.toList) := OwnG.kept hown' (grownBy_setCell' w1 _ _) (.inr (hv1.not_row (by decide) hown').symm); have hc3 := hv3.cell; have hbase3 := Nat.le_trans hbase2 hk2.size) | (gi_at_builtin; refine wplIn_append_u8 (w1.setCell ⟨w.heap.size, 0, none⟩ (.slice a' n' c')) rfl (.tmp 17) (.tmp 18) rfl w.heap.size (.slice a' n' c') (fs ++ sy.data.toList) rfl hown3 [.int .u8 46] [46] rfl 1 1 (by simp [Act.eval]) rfl hbase3 (by rw [List.length_append, size_data]; simp; omega) ?_; intro v4 w4 hown4 hg4; obtain ⟨a4, n4, c4, rfl⟩ := hown4.shape; obtain ⟨hv5, ho5, hk5, hbb5, hs5⟩ := gboxed_appends (enc := bv) (by decide) hv3 hown3 (by omega) hown4 hg4; have hc5 := hv5.cell; have hf5 := hv5.frozen) | (refine ⟨trivial, ?_⟩; gi_at_call 44; refine (CallsIn.inRound l (callsIn_wide.2 (hF _))).mono ?_; rintro e w2 ⟨rfl, hb2⟩; have hv2 : Boxed w2 w.heap.size 58 u := (hb2.block _ hvd.lt).trans hvd; have hS2 : Boxed w2 (w.heap.size + 1) 39 (.slice a xs.length c) := (hb2.block _ hSd.lt).trans hSd; have hown2 := hownd.below hb2; have hc2 := hv2.cell; have hbase2 : w.heap.size ≤ w2.heap.size := Nat.le_trans hbase hb2.size))
      have kB := hs2 (w.heap.size + 1) 39 (by decide) hS2.lt (by omega) _ hS2
      have hS3 := boxed_keep kB hS2
      have kB5 := hs5 (w.heap.size + 1) 39 (by decide) hS3.lt (by omega) _ hS3
      have ko : KeepsOthers Wd w2 := ⟨hb2.size, fun k o hk _ => (hb2.block k (Array.getElem?_eq_some_iff.1 hk).1).trans hk⟩
      refine ⟨((kd.trans (ko.trans hk2)).trans hk5).from _, kbd.trans ((KeepN.below hb2 hSd.lt (fun g e => by have := hrow g e; omega)).trans ⟨kB.trans kB5, fun g e => ?_⟩), by rw [HSN.out]; exact ho5, hB.trans (bd.trans (((hb2.mono hbase).trans hbb2).trans hbb5)), boxed_keep kB5 hS3⟩
      have h1 := hrow g e
      have hz1 := hg'.size
      exact ((KeepB.of_grownBy hg' (by omega) (fun q => by have := hown2.base_le g q.symm; omega)).trans (KeepB.setCell _ _ (by omega))).trans ((KeepB.of_grownBy hg4 (by omega) (fun q => by have := hown3.base_le g q.symm; omega)).trans (KeepB.setCell _ _ (by omega)))
  case done =>
    rintro D ys W hD rfl ⟨⟨u, hv, hown⟩, hB, _⟩ hK
    have hc := hv.cell
    have hcv := OwnU8.string (show OwnU8 W w.heap.size u (textF (atN xs (List.finRange xs.length))) from hown)
    rw [atN_all, ← HT.out] at hcv
    gi_wp2
    refine ⟨by simp, .inl ⟨_, _, rfl, run_takeDeferred hK, ?_⟩⟩
    exact ⟨_, results_tmp rfl _ _ _, rfl, hB.trans (belowK_b (w := w) (Nat.le_refl _) W D _ _ (by have := HZ.out; omega) hK rfl rfl)⟩
  case stop =>
    rintro D c pre W _ _ h _
    exact h.elim
end
end Go.Proofs.YtbnkecmhmcligaaDoor

