/-
  Contract of name.Fold.
-/
import Derived.Test.YtbnkecmhmcligaaMQ44
namespace Go.Proofs.Ytbnkecmhmcligaa
set_option linter.unusedVariables false
set_option linter.unusedSimpArgs false
set_option maxRecDepth 20000
open Go.RowKit Go.Shelf

theorem foldN_snoc (xs : Nm) (y : List UInt8) : foldN (xs ++ [y]) = foldN xs ++ [foldL y] := by simp [foldN]
theorem wplIn_make_g {F : Fence} {d : Nat} {α : Type} {T S : TypeId} {enc : α → Value} {ops : Array Oper} {rest : List Oper} {o : Oper} {a : Act} {Q : Exit → Act → World → Prop} (W : World) (hgd : o.guard = none) (l c : Operand) {bytes : Nat} (hE : ElemT T S bytes)
    (ho : o.op = Op.makeSlice S l c) (base : Nat) (kl kc : IntKind) (C : Int) (n : Nat) (hl : a.eval l = .int kl 0) (hc : a.eval c = .int kc C) (hC : C = (n : Int)) (b2 : bytes * n ≤ 281474976710656) (b3 : n ≤ maxLen) (b4 : base ≤ W.heap.size)
    (h : ∀ w', OwnG T enc w' base (.slice (some ⟨W.heap.size, 0, none⟩) 0 n) [] → W.grownBy w' none → wpListIn F d Try.prog ops Q rest (a.put o.dst (.slice (some ⟨W.heap.size, 0, none⟩) 0 n)) w') :
    wpListIn F d Try.prog ops Q (o :: rest) a W := by
  obtain ⟨ht, i, z, hi, hz, hz1, hz2, _⟩ := hE
  exact wpListIn_make_own W hgd l c S ho base T i z 1 ht hi hz hz1 kl kc C n hl hc hC (by rw [hz2]; exact b2) b3 b4 (fun w' h1 h2 => h w' h1 h2)

section
attribute [local go_sem] Oper.semAt_some
set_option maxRecDepth 100000 in
set_option maxHeartbeats 4000000 in
theorem name_FoldB (v : Value) (xs : Nm) (w : World) (hA : StrsAt w v xs) (hk : NmBig xs) :
    Calls Try.prog 29 #[v] w (CopyPost (foldN xs) w) := by
  obtain ⟨a, c, rfl, hx⟩ := id hA
  have hl := hk.1
  have hrow := hA.row_lt
  refine (callsIn_wide (n := 5)).1 ?_
  refine callsIn_of_wp_marks Try.func29 rfl trivial ?_ rfl
  simp only [Try.ntmps29, List.size_toArray, List.length_cons, List.length_nil, Nat.reduceAdd, Nat.reduceSub, Array.replicate_succ, Array.replicate_zero, List.push_toArray, List.append_toArray, List.nil_append, List.cons_append]
  gi_wp2_with (first | (gi_at_make; refine wplIn_make_g (α := List UInt8) (enc := strV) w rfl _ _ elemNm rfl w.heap.size .i64 .i64 _ xs.length rfl rfl rfl (by omega) (by unfold maxLen; omega) (Nat.le_refl _) ?_; intro w0 hown0 hgrow0) | (refine ⟨trivial, ?_⟩; gi_at_call 39; refine (callsIn_wide.2 (name_labels _ _ _ _)).mono ?_; rintro e w' ⟨rfl, rfl⟩))
  have hg1 : w.heap.size ≤ w0.heap.size := hgrow0.size
  have bO := Boxed.new w0 28 (.slice (some ⟨w.heap.size, 0, none⟩) 0 xs.length)
  have bS := Boxed.new (w0.alloc (.cells #[.slice (some ⟨w.heap.size, 0, none⟩) 0 xs.length] 28)) 28 (.slice a xs.length c)
  rw [World.size_alloc] at bS
  have hB0 : Below w.heap.size w ((w0.alloc (.cells #[.slice (some ⟨w.heap.size, 0, none⟩) 0 xs.length] 28)).alloc (.cells #[.slice a xs.length c] 28)) :=
    (((Below.refl _ w).grown hgrow0 (Nat.le_refl _) (by simp)).alloc hg1 _).alloc (by simp; omega) _
  obtain ⟨W0, hW0⟩ : ∃ W0, ((w0.alloc (.cells #[.slice (some ⟨w.heap.size, 0, none⟩) 0 xs.length] 28)).alloc (.cells #[.slice a xs.length c] 28)) = W0 := ⟨_, rfl⟩
  have hsz : W0.heap.size = w0.heap.size + 2 := by rw [← hW0]; simp
  have hI0 : GBox 9 28 strV w0.heap.size w.heap.size [] W0 := by rw [← hW0]; exact ⟨_, bO.alloc _, (hown0.alloc _).alloc _⟩
  rw [hW0] at bS hB0 ⊢
  have HZ := Lib.hid hsz; clear hsz hW0
  refine wpIn_rangeFunc_ownG rfl (by omega) (gf := 48) (lb := #[.pointer (some ⟨w0.heap.size + 1, 0, none⟩)]) rfl trivial (enters_of Try.func48 (by kernel_rfl) rfl)
    (labels_stops _ (by omega) (w0.heap.size + 1) (.slice a xs.length c) xs (by unfold maxLen; omega) W0 (by rw [HZ.out]; omega) bS.cell (hA.below hB0)) keepN_t (keepN_b (by rw [HZ.out]; omega) (fun g e => by have := hrow g e; rw [HZ.out]; omega)) (Below.refl _ _) (fun _ => rfl)
    (fun pre W => GBox 9 28 strV w0.heap.size w.heap.size (foldN (atN xs pre)) W ∧ Below w.heap.size w W ∧ Boxed W (w0.heap.size + 1) 28 (.slice a xs.length c))
    (fun _ _ _ => False)
    (OwnFrom.and (Own.from (gBox_own w0.heap.size w.heap.size (fun pre => foldN (atN xs pre))) _) (OwnFrom.and (ownFrom_below (Nat.le_refl _) (by rw [HZ.out]; omega)) (Own.from (boxed_own _ _ _) _)))
    (fun _ _ _ _ _ hs _ _ => hs)
    ⟨hI0, hB0, bS⟩
    (fun j => { tmps := #[.slice a xs.length c, undef, .slice none 0 0, .pointer (some ⟨w0.heap.size, 0, none⟩), undef, .string ⟨xs[j].toArray⟩, .slice a xs.length c, .int .i64 xs.length, .slice (some ⟨w.heap.size, 0, none⟩) 0 xs.length, .slice a xs.length c, .func (.func 48) #[] #[.pointer (some ⟨w0.heap.size + 1, 0, none⟩)], .int .i64 (j.val : Int), .string ⟨xs[j].toArray⟩, undef, undef, undef, undef, undef, undef], defers := [] }) ?assign ?body ?done ?stop
  case assign =>
    intro l x W K hK
    unfold idxV strV
    gi_wp2
    exact hK
  case body =>
    rintro l pre x W ⟨⟨u, hv, hown⟩, hB, hS⟩ hlt
    have hc := hv.cell
    have hple : (foldN (atN xs pre)).length = pre.length := by simp [foldN, atN]
    have HP := Lib.hid hple; clear hple
    have hx1 : xs[x].length ≤ 140737488351232 := hk.2 _ (List.getElem_mem x.isLt)
    obtain ⟨sx, hsx0, hsxz, hsxv⟩ := str_of xs[x]
    have hF := fun W => label_Fold sx W (by omega)
    rw [hsx0] at hF
    rw [str_at hsxv]
    have hsn : foldN (atN xs (pre ++ [x])) = foldN (atN xs pre) ++ [foldL xs[x]] := by rw [atN_snoc, foldN_snoc]
    have HSN := Lib.hid hsn
    clear hsx0 hsxz hsxv hx1 hsn
    generalize foldN (atN xs pre) = fs at *
    generalize hy : foldL xs[x] = y at *
    clear hy
    have hyl : [Value.string ⟨y.toArray⟩] = [y].map strV := rfl
    have HY := Lib.hid hyl; clear hyl
    generalize (⟨y.toArray⟩ : ByteArray) = sy at *
    gi_wp2
    have kd : KeepsOthers W W.drew := KeepsOthers.drew W
    have bd : Below w.heap.size W W.drew := (Below.refl _ W).drew
    have kbd : KeepN (w0.heap.size + 1) (.slice a xs.length c) W W.drew := ⟨rfl, fun _ _ => rfl⟩
    have hvd : Boxed W.drew w0.heap.size 28 u := hv
    have hownd : OwnG 9 strV W.drew w.heap.size u fs := hown
    have hSd : Boxed W.drew (w0.heap.size + 1) 28 (.slice a xs.length c) := hS
    clear hc
    refine wpIn_region_orders [[0, 1, 2, 3, 4, 5], [1, 0, 2, 3, 4, 5], [1, 2, 0, 3, 4, 5], [1, 2, 3, 0, 4, 5]] follows_mixed (by kernel_rfl) ?_
    generalize W.drew = Wd at *
    have hc := hvd.cell
    have hbase : w.heap.size ≤ Wd.heap.size := by have := hB.size; have := bd.size; omega
    refine ⟨?_, ?_, ?_, ?_, trivial⟩
    all_goals
      simp only [List.filterMap_cons, List.filterMap_nil, List.getElem?_toArray, List.getElem?_cons_zero, List.getElem?_cons_succ]
      change wpListIn _ _ _ _ _ [_, _, _, _, _, _] _ _
      gi_wp2_with (first | (gi_at_builtin; refine wplIn_append_g w2 rfl (.tmp 13) (.tmp 16) elemNm rfl strV_one w.heap.size u fs rfl hown2 [.string sy] [y] HY.out 1 1 rfl rfl hbase2 (by have := HP.out; unfold maxLen; simp; omega) (by have := HP.out; simp; omega) ?_; intro v' w1 hown' hg'; obtain ⟨a', n', c', rfl⟩ : ∃ a n c, v' = .slice a n c := (by obtain ⟨a, c, e⟩ := hown'.shape; exact ⟨_, _, _, e⟩); obtain ⟨hv1, ho2, hk2, hbb2, hs2⟩ := gboxed_appends (by decide) hv2 hown2 (by omega) hown' hg'; have hc1 := hv1.cell; have hf1 := hv1.frozen) | (refine ⟨trivial, ?_⟩; gi_at_call 40; refine (CallsIn.inRound l (callsIn_wide.2 (hF _))).mono ?_; rintro e w2 ⟨rfl, hb2⟩; have hv2 : Boxed w2 w0.heap.size 28 u := (hb2.block _ hvd.lt).trans hvd; have hS2 : Boxed w2 (w0.heap.size + 1) 28 (.slice a xs.length c) := (hb2.block _ hSd.lt).trans hSd; have hown2 := hownd.below hb2; have hc2 := hv2.cell; have hca2 := (hv2.alloc (.cells #[.string sy] 9)).cell; have hbase2 : w.heap.size ≤ w2.heap.size := Nat.le_trans hbase hb2.size))
      have kB := hs2 (w0.heap.size + 1) 28 (by decide) hS2.lt (by omega) _ hS2
      have ko : KeepsOthers Wd w2 := ⟨hb2.size, fun k o hk _ => (hb2.block k (Array.getElem?_eq_some_iff.1 hk).1).trans hk⟩
      refine ⟨(kd.trans (ko.trans hk2)).from _, kbd.trans ((KeepN.below hb2 hSd.lt (fun g e => by have := hrow g e; omega)).trans ⟨kB, fun g e => ?_⟩), by rw [HSN.out]; exact ho2, hB.trans (bd.trans ((hb2.mono hbase).trans hbb2)), boxed_keep kB hS2⟩
      have h1 := hrow g e
      exact (KeepB.of_grownBy hg' (by omega) (fun q => by have := hown2.base_le g q.symm; omega)).trans (KeepB.setCell _ _ (by omega))
  case done =>
    rintro D ys W hD rfl ⟨⟨u, hv, hown⟩, hB, _⟩ hK
    have hc := hv.cell
    rw [atN_all] at hown
    gi_wp2
    refine ⟨by simp, .inl ⟨_, _, rfl, run_takeDeferred hK, ?_⟩⟩
    exact ⟨_, results_tmp rfl _ _ _, u, rfl, hown.putObj _ hK rfl, hB.trans (belowK_b (w := w) (Nat.le_refl _) W D _ _ (by have := HZ.out; omega) hK rfl rfl)⟩
  case stop =>
    rintro D c pre W _ _ h _
    exact h.elim
end
theorem name_Fold (v : Value) (xs : Nm) (w : World) (hA : StrsAt w v xs) (hk : NmOK xs) : Calls Try.prog 29 #[v] w (CopyPost (foldN xs) w) := name_FoldB v xs w hA hk.big
end Go.Proofs.Ytbnkecmhmcligaa

