/-
  Contracts of label.Fold, label.Compare, label.Same and of cmp.Compare at bytes and at ints.
-/
import Derived.Test.YtbnkecmhmcligaaMQ27
import Derived.Test.YtbnkecmhmcligaaMQ26
namespace Go.Proofs.Ytbnkecmhmcligaa
set_option linter.unusedVariables false
set_option linter.unusedSimpArgs false
set_option maxRecDepth 20000
open Go.RowKit Go.Shelf

def foldL (l : List UInt8) : List UInt8 := l.map smallU
theorem foldL_snoc (l : List UInt8) (c : UInt8) : foldL (l ++ [c]) = foldL l ++ [smallU c] := by simp [foldL]

section
attribute [local go_sem] Oper.semAt_some

set_option maxRecDepth 100000 in
set_option maxHeartbeats 2000000 in
theorem label_Fold (s : ByteArray) (w : World) (hs : s.size ≤ 140737488351232) :
    Calls Try.prog 40 #[.string s] w fun e w' => e = .returned (.string ⟨(foldL s.data.toList).toArray⟩) ∧ Below w.heap.size w w' := by
  obtain ⟨i0, hi, hz0, hz1, hz2⟩ := info_parts info_u8
  refine (callsIn_wide (n := 5)).1 ?_
  refine callsIn_of_wp_marks Try.func40 rfl trivial ?_ rfl
  simp only [Try.ntmps40, List.size_toArray, List.length_cons, List.length_nil, Nat.reduceAdd, Nat.reduceSub, Array.replicate_succ, Array.replicate_zero, List.push_toArray, List.append_toArray, List.nil_append, List.cons_append]
  gi_wp2_with (first | (gi_at_make; refine wpListIn_make_own _ rfl _ _ 76 rfl w.heap.size 5 i0 (.int .u8 0) 1 Try.underlying76 hi hz0 hz1 .i64 .i64 _ s.size rfl rfl rfl (by rw [hz2]; omega) (by unfold maxLen; omega) (Nat.le_refl _) ?_; intro w0 hown0 hgrow0) | (refine ⟨trivial, ?_⟩; gi_at_call 49; refine (callsIn_wide.2 (label_octets _ _)).mono ?_; rintro e w' ⟨rfl, rfl⟩))
  have hg1 : w.heap.size ≤ w0.heap.size := hgrow0.size
  have bO := Boxed.new w0 76 (.slice (some ⟨w.heap.size, 0, none⟩) 0 s.size)
  have bS := Boxed.new (w0.alloc (.cells #[.slice (some ⟨w.heap.size, 0, none⟩) 0 s.size] 76)) 9 (.string s)
  rw [World.size_alloc] at bS
  have hB0 : Below w.heap.size w ((w0.alloc (.cells #[.slice (some ⟨w.heap.size, 0, none⟩) 0 s.size] 76)).alloc (.cells #[.string s] 9)) :=
    (((Below.refl _ w).grown hgrow0 (Nat.le_refl _) (by simp)).alloc hg1 _).alloc (by simp; omega) _
  obtain ⟨W0, hW0⟩ : ∃ W0, ((w0.alloc (.cells #[.slice (some ⟨w.heap.size, 0, none⟩) 0 s.size] 76)).alloc (.cells #[.string s] 9)) = W0 := ⟨_, rfl⟩
  have hsz : W0.heap.size = w0.heap.size + 2 := by rw [← hW0]; simp
  have hI0 : OutBox w0.heap.size w.heap.size [] W0 := by rw [← hW0]; exact ⟨_, bO.alloc _, (World.ownsRow.alloc hown0 _).alloc _⟩
  rw [hW0] at bS hB0 ⊢
  have HZ := Lib.hid hsz; clear hsz hW0
  refine wpIn_rangeFunc_ownG rfl (by omega) (gf := 54) (lb := #[.pointer (some ⟨w0.heap.size + 1, 0, none⟩)]) rfl trivial (enters_of Try.func54 (by kernel_rfl) rfl)
    (octets_stops _ (by omega) (w0.heap.size + 1) s (by unfold maxLen; omega) W0 (by rw [HZ.out]; omega) bS.cell) keepB_t (keepB_b (by rw [HZ.out]; omega)) (Below.refl _ _) (fun _ => rfl)
    (fun pre W => OutBox w0.heap.size w.heap.size (foldL pre) W ∧ Below w.heap.size w W ∧ Boxed W (w0.heap.size + 1) 9 (.string s))
    (fun _ _ _ => False)
    (OwnFrom.and (Own.from (outBox_own w0.heap.size w.heap.size foldL) _) (OwnFrom.and (ownFrom_below (Nat.le_refl _) (by rw [HZ.out]; omega)) (Own.from (boxed_own _ _ _) _)))
    (fun _ _ _ _ _ hs _ _ => hs)
    ⟨hI0, hB0, bS⟩
    (fun c => { tmps := #[.string s, undef, .string ⟨#[]⟩, .pointer (some ⟨w0.heap.size, 0, none⟩), .int .u8 (c.toNat : Int), .string s, .int .i64 (s.size : Int), .slice (some ⟨w.heap.size, 0, none⟩) 0 s.size, .string s, .func (.func 54) #[] #[.pointer (some ⟨w0.heap.size + 1, 0, none⟩)], .int .u8 (c.toNat : Int), undef, undef, undef, undef, undef, undef, undef], defers := [] }) ?assign ?body ?done ?stop
  case assign =>
    intro l x W K hK
    gi_wp2
    exact hK
  case body =>
    rintro l pre c W ⟨⟨v, hv, hown⟩, hB, hS⟩ hlt
    have hc := hv.cell
    have hple : (foldL pre).length = pre.length := by simp [foldL]
    have HP := Lib.hid hple; clear hple
    gi_wp2
    have kd : KeepsOthers W W.drew := KeepsOthers.drew W
    have bd : Below w.heap.size W W.drew := (Below.refl _ W).drew
    have kbd : KeepB (w0.heap.size + 1) W W.drew := rfl
    have hvd : Boxed W.drew w0.heap.size 76 v := hv
    have hownd : OwnU8 W.drew w.heap.size v (foldL pre) := hown
    have hSd : Boxed W.drew (w0.heap.size + 1) 9 (.string s) := hS
    have hsd : W.drew.heap.size = W.heap.size := rfl
    clear hc
    refine wpIn_region_orders [[0, 1, 2, 3, 4, 5], [1, 0, 2, 3, 4, 5], [1, 2, 0, 3, 4, 5], [1, 2, 3, 0, 4, 5]] follows_mixed (by kernel_rfl) ?_
    generalize W.drew = Wd at *
    have hc := hvd.cell
    have hca := (hvd.alloc (.cells #[.int .u8 ((smallU c).toNat : Int)] 5)).cell
    have hbase : w.heap.size ≤ Wd.heap.size := by have := hB.size; omega
    clear hsd
    refine ⟨?_, ?_, ?_, ?_, trivial⟩
    all_goals
      simp only [List.filterMap_cons, List.filterMap_nil, List.getElem?_toArray, List.getElem?_cons_zero, List.getElem?_cons_succ]
      change wpListIn _ _ _ _ _ [_, _, _, _, _, _] _ _
      gi_wp2_with (first | (gi_at_builtin; refine wplIn_append_u8 Wd rfl (.tmp 11) (.tmp 14) rfl w.heap.size v (foldL pre) rfl hownd [.int .u8 ((smallU c).toNat : Int)] [smallU c] rfl 1 1 rfl rfl hbase (by have := HP.out; simp; omega) ?_; intro v' w1 hown' hg'; obtain ⟨a', n', c', rfl⟩ := hown'.shape; obtain ⟨hv1, ho2, hk2, hb2, hs2⟩ := boxed_appends hvd hownd (by omega) hown' hg'; have hc1 := hv1.cell; have hf1 := hv1.frozen) | (refine ⟨trivial, ?_⟩; gi_at_call 50; refine (CallsIn.inRound l (callsIn_wide.2 (label_small c Wd))).mono ?_; rintro e w' ⟨rfl, rfl⟩))
      exact ⟨(kd.trans hk2).from _, kbd.trans (hs2 _ hSd.lt (by omega) _ hSd), ⟨by rw [foldL_snoc]; exact ho2, hB.trans (bd.trans hb2), boxed_keep (hs2 _ hSd.lt (by omega) _ hSd) hSd⟩⟩
  case done =>
    rintro D ys W hD rfl ⟨⟨v, hv, hown⟩, hB, _⟩ hK
    have hc := hv.cell
    have hcv := hown.string
    gi_wp2
    refine ⟨by simp, .inl ⟨_, _, rfl, run_takeDeferred hK, ?_⟩⟩
    exact ⟨_, results_tmp rfl _ _ _, rfl, hB.trans (belowK_b (w := w) (Nat.le_refl _) W D _ _ (by have := HZ.out; omega) hK rfl rfl)⟩
  case stop =>
    rintro D c pre W _ _ h _
    exact h.elim
end

end Go.Proofs.Ytbnkecmhmcligaa

