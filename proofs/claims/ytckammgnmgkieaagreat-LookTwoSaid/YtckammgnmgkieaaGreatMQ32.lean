/-
  Contract of label.Text: the words of any octets.
-/
import Derived.Test.YtckammgnmgkieaaGreatMQ26
import Derived.Test.YtckammgnmgkieaaGreatMQ24
import Derived.Deep.QuietTactic
namespace Go.Proofs.YtckammgnmgkieaaGreat
set_option maxRecDepth 20000
open Go.RowKit Go.Shelf

def textL (l : List UInt8) : List UInt8 := l.flatMap octetW
theorem textL_snoc (l : List UInt8) (c : UInt8) : textL (l ++ [c]) = textL l ++ octetW c := by simp [textL]
theorem octetW_le (c : UInt8) : (octetW c).length ≤ 4 := by unfold octetW; split; · simp
                                                            split <;> simp
theorem textL_le (l : List UInt8) : (textL l).length ≤ 4 * l.length := by
  induction l with
  | nil => simp [textL]
  | cons c l ih => have := octetW_le c; simp only [textL, List.flatMap_cons, List.length_append, List.length_cons] at ih ⊢; omega

section
attribute [local go_sem] Oper.semAt_some

set_option maxRecDepth 100000 in
set_option maxHeartbeats 2000000 in
theorem label_Text (s : ByteArray) (w : World) (hs : s.size ≤ 35184372088000) :
    Calls Tryz.prog 173 #[.string s] w fun e w' => e = .returned (.string ⟨(textL s.data.toList).toArray⟩) ∧ Below w.heap.size w w' := by
  obtain ⟨i0, hi, hz0, hz1, hz2⟩ := info_parts info_u8
  refine (callsIn_wide (n := 5)).1 ?_
  refine callsIn_of_wp_marks Tryz.func173 rfl trivial ?_ rfl
  simp only [Tryz.ntmps173, List.size_toArray, List.length_cons, List.length_nil, Nat.reduceAdd, Nat.reduceSub, Array.replicate_succ, Array.replicate_zero, List.push_toArray, List.append_toArray, List.nil_append, List.cons_append]
  gi_wp2_with (first | (gi_at_make; refine wpListIn_make_own _ rfl _ _ 99 rfl w.heap.size 5 i0 (.int .u8 0) 1 Tryz.underlying99 hi hz0 hz1 .i64 .i64 _ s.size rfl rfl rfl (by rw [hz2]; omega) (by unfold maxLen; omega) (Nat.le_refl _) ?_; intro w0 hown0 hgrow0) | (refine ⟨trivial, ?_⟩; gi_at_call 144; refine (callsIn_wide.2 (label_octets _ _)).mono ?_; rintro e w' ⟨rfl, rfl⟩))
  have hg1 : w.heap.size ≤ w0.heap.size := hgrow0.size
  have bO := Boxed.new w0 99 (.slice (some ⟨w.heap.size, 0, none⟩) 0 s.size)
  have bS := Boxed.new (w0.alloc (.cells #[.slice (some ⟨w.heap.size, 0, none⟩) 0 s.size] 99)) 9 (.string s)
  rw [World.size_alloc] at bS
  have hB0 : Below w.heap.size w ((w0.alloc (.cells #[.slice (some ⟨w.heap.size, 0, none⟩) 0 s.size] 99)).alloc (.cells #[.string s] 9)) :=
    (((Below.refl _ w).grown hgrow0 (Nat.le_refl _) (by simp)).alloc hg1 _).alloc (by simp; omega) _
  obtain ⟨W0, hW0⟩ : ∃ W0, ((w0.alloc (.cells #[.slice (some ⟨w.heap.size, 0, none⟩) 0 s.size] 99)).alloc (.cells #[.string s] 9)) = W0 := ⟨_, rfl⟩
  have hsz : W0.heap.size = w0.heap.size + 2 := by rw [← hW0]; simp
  have hI0 : OutBox w0.heap.size w.heap.size [] W0 := by rw [← hW0]; exact ⟨_, bO.alloc _, (World.ownsRow.alloc hown0 _).alloc _⟩
  rw [hW0] at bS hB0 ⊢
  have HZ := Lib.hid hsz; clear hsz hW0
  refine wpIn_rangeFunc_ownG rfl (by omega) (gf := 176) (lb := #[.pointer (some ⟨w0.heap.size + 1, 0, none⟩)]) rfl trivial (enters_of Tryz.func176 (by kernel_rfl) rfl)
    (octets_stops _ (by omega) (w0.heap.size + 1) s (by unfold maxLen; omega) W0 (by rw [HZ.out]; omega) bS.cell) keepB_t (keepB_b (by rw [HZ.out]; omega)) (Below.refl _ _) (fun _ => rfl)
    (fun pre W => OutBox w0.heap.size w.heap.size (textL pre) W ∧ Below w.heap.size w W ∧ Boxed W (w0.heap.size + 1) 9 (.string s))
    (fun _ _ _ => False)
    (OwnFrom.and (Own.from (outBox_own w0.heap.size w.heap.size textL) _) (OwnFrom.and (ownFrom_below (Nat.le_refl _) (by rw [HZ.out]; omega)) (Own.from (boxed_own _ _ _) _)))
    (fun _ _ _ _ _ hs _ _ => hs)
    ⟨hI0, hB0, bS⟩
    (fun c => { tmps := #[.string s, undef, .string ⟨#[]⟩, .pointer (some ⟨w0.heap.size, 0, none⟩), .int .u8 (c.toNat : Int), .string s, .int .i64 (s.size : Int), .slice (some ⟨w.heap.size, 0, none⟩) 0 s.size, .string s, .func (.func 176) #[] #[.pointer (some ⟨w0.heap.size + 1, 0, none⟩)], .int .u8 (c.toNat : Int), undef, undef, undef, undef, undef], defers := [] }) ?assign ?body ?done ?stop
  case assign =>
    intro l x W K hK
    gi_wp2
    exact hK
  case body =>
    rintro l pre c W ⟨⟨v, hv, hown⟩, hB, hS⟩ hlt
    have hc := hv.cell
    have hple := textL_le pre
    gi_wp2_with (refine ⟨trivial, ?_⟩; gi_at_call 196; refine (CallsIn.inRound l (callsIn_wide.2 (label_appendOctet c v w.heap.size (textL pre) W hown hB.size (by omega)))).mono ?_; rintro e w' ⟨v', rfl, hown', hg'⟩; obtain ⟨a', n', c', rfl⟩ := hown'.shape; obtain ⟨hv1, ho2, hk2, hb2, hs2⟩ := boxed_appends hv hown (by omega) hown' hg'; have hc1 := hv1.cell; have hf1 := hv1.frozen)
    exact ⟨hk2.from _, hs2 _ hS.lt (by omega) _ hS, ⟨by rw [textL_snoc]; exact ho2, hB.trans hb2, boxed_keep (hs2 _ hS.lt (by omega) _ hS) hS⟩⟩
  case done =>
    rintro D ys W hD rfl ⟨⟨v, hv, hown⟩, hB, _⟩ hK
    have hc := hv.cell
    have hcv := hown.string
    gi_wp2
    refine ⟨by simp, .inl ⟨_, _, rfl, run_takeDeferred hK, ?_⟩⟩
    exact ⟨_, results_tmp rfl _ _ _, rfl, hB.trans (belowK_b (w := w) (Nat.le_refl _) W D _ _ (by have := HZ.out; omega) hK rfl rfl)⟩
  case stop =>
    rintro D c pre W _ _ h _
    exact h.elim
end

end Go.Proofs.YtckammgnmgkieaaGreat

/-
  Contracts of label.Fold, label.Compare, label.Same and of cmp.Compare at bytes and at ints.
-/
namespace Go.Proofs.YtckammgnmgkieaaGreat
set_option maxRecDepth 20000
open Go.RowKit Go.Shelf

def foldL (l : List UInt8) : List UInt8 := l.map smallU
theorem foldL_snoc (l : List UInt8) (c : UInt8) : foldL (l ++ [c]) = foldL l ++ [smallU c] := by simp [foldL]

section
attribute [local go_sem] Oper.semAt_some

set_option maxRecDepth 100000 in
set_option maxHeartbeats 2000000 in
theorem label_Fold (s : ByteArray) (w : World) (hs : s.size ≤ 35184372088000) :
    Calls Tryz.prog 104 #[.string s] w fun e w' => e = .returned (.string ⟨(foldL s.data.toList).toArray⟩) ∧ Below w.heap.size w w' := by
  obtain ⟨i0, hi, hz0, hz1, hz2⟩ := info_parts info_u8
  refine (callsIn_wide (n := 5)).1 ?_
  refine callsIn_of_wp_marks Tryz.func104 rfl trivial ?_ rfl
  simp only [Tryz.ntmps104, List.size_toArray, List.length_cons, List.length_nil, Nat.reduceAdd, Nat.reduceSub, Array.replicate_succ, Array.replicate_zero, List.push_toArray, List.append_toArray, List.nil_append, List.cons_append]
  gi_wp2_with (first | (gi_at_make; refine wpListIn_make_own _ rfl _ _ 99 rfl w.heap.size 5 i0 (.int .u8 0) 1 Tryz.underlying99 hi hz0 hz1 .i64 .i64 _ s.size rfl rfl rfl (by rw [hz2]; omega) (by unfold maxLen; omega) (Nat.le_refl _) ?_; intro w0 hown0 hgrow0) | (refine ⟨trivial, ?_⟩; gi_at_call 144; refine (callsIn_wide.2 (label_octets _ _)).mono ?_; rintro e w' ⟨rfl, rfl⟩))
  have hg1 : w.heap.size ≤ w0.heap.size := hgrow0.size
  have bO := Boxed.new w0 99 (.slice (some ⟨w.heap.size, 0, none⟩) 0 s.size)
  have bS := Boxed.new (w0.alloc (.cells #[.slice (some ⟨w.heap.size, 0, none⟩) 0 s.size] 99)) 9 (.string s)
  rw [World.size_alloc] at bS
  have hB0 : Below w.heap.size w ((w0.alloc (.cells #[.slice (some ⟨w.heap.size, 0, none⟩) 0 s.size] 99)).alloc (.cells #[.string s] 9)) :=
    (((Below.refl _ w).grown hgrow0 (Nat.le_refl _) (by simp)).alloc hg1 _).alloc (by simp; omega) _
  obtain ⟨W0, hW0⟩ : ∃ W0, ((w0.alloc (.cells #[.slice (some ⟨w.heap.size, 0, none⟩) 0 s.size] 99)).alloc (.cells #[.string s] 9)) = W0 := ⟨_, rfl⟩
  have hsz : W0.heap.size = w0.heap.size + 2 := by rw [← hW0]; simp
  have hI0 : OutBox w0.heap.size w.heap.size [] W0 := by rw [← hW0]; exact ⟨_, bO.alloc _, (World.ownsRow.alloc hown0 _).alloc _⟩
  rw [hW0] at bS hB0 ⊢
  have HZ := Lib.hid hsz; clear hsz hW0
  refine wpIn_rangeFunc_ownG rfl (by omega) (gf := 176) (lb := #[.pointer (some ⟨w0.heap.size + 1, 0, none⟩)]) rfl trivial (enters_of Tryz.func176 (by kernel_rfl) rfl)
    (octets_stops _ (by omega) (w0.heap.size + 1) s (by unfold maxLen; omega) W0 (by rw [HZ.out]; omega) bS.cell) keepB_t (keepB_b (by rw [HZ.out]; omega)) (Below.refl _ _) (fun _ => rfl)
    (fun pre W => OutBox w0.heap.size w.heap.size (foldL pre) W ∧ Below w.heap.size w W ∧ Boxed W (w0.heap.size + 1) 9 (.string s))
    (fun _ _ _ => False)
    (OwnFrom.and (Own.from (outBox_own w0.heap.size w.heap.size foldL) _) (OwnFrom.and (ownFrom_below (Nat.le_refl _) (by rw [HZ.out]; omega)) (Own.from (boxed_own _ _ _) _)))
    (fun _ _ _ _ _ hs _ _ => hs)
    ⟨hI0, hB0, bS⟩
    (fun c => { tmps := #[.string s, undef, .string ⟨#[]⟩, .pointer (some ⟨w0.heap.size, 0, none⟩), .int .u8 (c.toNat : Int), .string s, .int .i64 (s.size : Int), .slice (some ⟨w.heap.size, 0, none⟩) 0 s.size, .string s, .func (.func 176) #[] #[.pointer (some ⟨w0.heap.size + 1, 0, none⟩)], .int .u8 (c.toNat : Int), undef, undef, undef, undef, undef, undef, undef], defers := [] }) ?assign ?body ?done ?stop
  case assign =>
    intro l x W K hK
    gi_wp2
    exact hK
  case body =>
    rintro l pre c W ⟨⟨v, hv, hown⟩, hB, hS⟩ hlt
    have hc := hv.cell
    have hple : (foldL pre).length = pre.length := by simp [foldL]
    have HP := Lib.hid hple; clear hple
    gi_wp2
    have kd : KeepsOthers W W.drew := KeepsOthers.drew W
    have bd : Below w.heap.size W W.drew := (Below.refl _ W).drew
    have kbd : KeepB (w0.heap.size + 1) W W.drew := rfl
    have hvd : Boxed W.drew w0.heap.size 99 v := hv
    have hownd : OwnU8 W.drew w.heap.size v (foldL pre) := hown
    have hSd : Boxed W.drew (w0.heap.size + 1) 9 (.string s) := hS
    have hsd : W.drew.heap.size = W.heap.size := rfl
    clear hc
    refine wpIn_region_orders [[0, 1, 2, 3, 4, 5], [1, 0, 2, 3, 4, 5], [1, 2, 0, 3, 4, 5], [1, 2, 3, 0, 4, 5]] follows_mixed (by kernel_rfl) ?_
    generalize W.drew = Wd at *
    have hc := hvd.cell
    have hca := (hvd.alloc (.cells #[.int .u8 ((smallU c).toNat : Int)] 5)).cell
    have hbase : w.heap.size ≤ Wd.heap.size := by have := hB.size; omega
    clear hsd
    refine ⟨?_, ?_, ?_, ?_, trivial⟩
    all_goals
      simp only [List.filterMap_cons, List.filterMap_nil, List.getElem?_toArray, List.getElem?_cons_zero, List.getElem?_cons_succ]
      change wpListIn _ _ _ _ _ [_, _, _, _, _, _] _ _
      gi_wp2_with (first | (gi_at_builtin; refine wplIn_append_u8 Wd rfl (.tmp 11) (.tmp 14) rfl w.heap.size v (foldL pre) rfl hownd [.int .u8 ((smallU c).toNat : Int)] [smallU c] rfl 1 1 rfl rfl hbase (by have := HP.out; simp; omega) ?_; intro v' w1 hown' hg'; obtain ⟨a', n', c', rfl⟩ := hown'.shape; obtain ⟨hv1, ho2, hk2, hb2, hs2⟩ := boxed_appends hvd hownd (by omega) hown' hg'; have hc1 := hv1.cell; have hf1 := hv1.frozen) | (refine ⟨trivial, ?_⟩; gi_at_call 145; refine (CallsIn.inRound l (callsIn_wide.2 (label_small c Wd))).mono ?_; rintro e w' ⟨rfl, rfl⟩))
      exact ⟨(kd.trans hk2).from _, kbd.trans (hs2 _ hSd.lt (by omega) _ hSd), ⟨by rw [foldL_snoc]; exact ho2, hB.trans (bd.trans hb2), boxed_keep (hs2 _ hSd.lt (by omega) _ hSd) hSd⟩⟩
  case done =>
    rintro D ys W hD rfl ⟨⟨v, hv, hown⟩, hB, _⟩ hK
    have hc := hv.cell
    have hcv := hown.string
    gi_wp2
    refine ⟨by simp, .inl ⟨_, _, rfl, run_takeDeferred hK, ?_⟩⟩
    exact ⟨_, results_tmp rfl _ _ _, rfl, hB.trans (belowK_b (w := w) (Nat.le_refl _) W D _ _ (by have := HZ.out; omega) hK rfl rfl)⟩
  case stop =>
    rintro D c pre W _ _ h _
    exact h.elim
end

end Go.Proofs.YtckammgnmgkieaaGreat

/-
  Contracts of label.Compare, label.Same and of cmp.Compare at bytes and at ints.
-/
namespace Go.Proofs.YtckammgnmgkieaaGreat
set_option maxRecDepth 20000
open Go.RowKit Go.Shelf

def cmpI (a b : Int) : Int := if a < b then -1 else if b < a then 1 else 0

set_option maxHeartbeats 400000 in
theorem nan_u8 (a : Int) (w : World) : Calls Tryz.prog 201 #[.int .u8 a] w fun e w' => e = .returned (.bool false) ∧ w = w' := by
  go_enter Tryz.func201, Tryz.ntmps201
  go_wp2
  go_ret
  exact ⟨ret_bool (by simp), rfl⟩

set_option maxHeartbeats 400000 in
theorem nan_int (a : Int) (w : World) : Calls Tryz.prog 169 #[.int .i64 a] w fun e w' => e = .returned (.bool false) ∧ w = w' := by
  go_enter Tryz.func169, Tryz.ntmps169
  go_wp2
  go_ret
  exact ⟨ret_bool (by simp), rfl⟩

set_option maxHeartbeats 400000 in
theorem cmp_u8 (a b : Int) (w : World) : Calls Tryz.prog 177 #[.int .u8 a, .int .u8 b] w fun e w' => e = .returned (.int .i64 (cmpI a b)) ∧ w = w' := by
  go_enter Tryz.func177, Tryz.ntmps177
  go_wp2_with (go_at_call 201; refine (nan_u8 _ _).mono ?_; rintro e w' ⟨rfl, rfl⟩)
  all_goals go_ret
  all_goals refine ⟨ret_int ?_, rfl⟩
  · have h : a < b := by assumption
    show -1 = _; rw [cmpI, if_pos h]
  · have h : b ≤ a := by assumption
    have h2 : b < a := by assumption
    show 1 = _; rw [cmpI, if_neg (by omega), if_pos h2]
  · have h : b ≤ a := by assumption
    have h2 : a ≤ b := by assumption
    show 0 = _; rw [cmpI, if_neg (by omega), if_neg (by omega)]

set_option maxHeartbeats 400000 in
theorem cmp_int (a b : Int) (w : World) : Calls Tryz.prog 130 #[.int .i64 a, .int .i64 b] w fun e w' => e = .returned (.int .i64 (cmpI a b)) ∧ w = w' := by
  go_enter Tryz.func130, Tryz.ntmps130
  go_wp2_with (go_at_call 169; refine (nan_int _ _).mono ?_; rintro e w' ⟨rfl, rfl⟩)
  all_goals go_ret
  all_goals refine ⟨ret_int ?_, rfl⟩
  · have h : a < b := by assumption
    show -1 = _; rw [cmpI, if_pos h]
  · have h : b ≤ a := by assumption
    have h2 : b < a := by assumption
    show 1 = _; rw [cmpI, if_neg (by omega), if_pos h2]
  · have h : b ≤ a := by assumption
    have h2 : a ≤ b := by assumption
    show 0 = _; rw [cmpI, if_neg (by omega), if_neg (by omega)]

def compareM : List UInt8 → List UInt8 → Int
  | [], [] => 0
  | [], _ :: _ => -1
  | _ :: _, [] => 1
  | x :: a, y :: b => if smallU x = smallU y then compareM a b else cmpI (smallU x).toNat (smallU y).toNat

theorem compareM_step (a b : ByteArray) (k : Nat) (ha : k < a.size) (hb : k < b.size) :
    compareM (a.data.toList.drop k) (b.data.toList.drop k) = if smallU a[k] = smallU b[k] then compareM (a.data.toList.drop (k + 1)) (b.data.toList.drop (k + 1)) else cmpI (smallU a[k]).toNat (smallU b[k]).toNat := by
  rw [drop_cons_get a k ha, drop_cons_get b k hb]; rfl
theorem compareM_end (a b : ByteArray) (k : Nat) (h : k = a.size ∨ k = b.size) (ha : k ≤ a.size) (hb : k ≤ b.size) :
    compareM (a.data.toList.drop k) (b.data.toList.drop k) = cmpI a.size b.size := by
  unfold cmpI
  rcases Nat.lt_trichotomy a.size b.size with h1 | h1 | h1
  · obtain rfl : k = a.size := by omega
    rw [if_pos (by omega), drop_cons_get b _ h1, List.drop_eq_nil_of_le (by simp)]; rfl
  · obtain rfl : k = a.size := by omega
    rw [if_neg (by omega), if_neg (by omega), List.drop_eq_nil_of_le (by simp), List.drop_eq_nil_of_le (by rw [size_data]; omega)]; rfl
  · obtain rfl : k = b.size := by omega
    rw [if_neg (by omega), if_pos (by omega), drop_cons_get a _ h1, show b.data.toList.drop b.size = [] from List.drop_eq_nil_of_le (by simp)]; rfl
theorem u8_ne {x y : UInt8} (h : (((x.toNat : Int)) != (y.toNat : Int)) = true) : x ≠ y := by
  intro e; subst e; simp at h
theorem u8_eq {x y : UInt8} (h : (((x.toNat : Int)) != (y.toNat : Int)) = false) : x = y := by
  have : (x.toNat : Int) = y.toNat := by simpa using h
  exact UInt8.toNat_inj.1 (by omega)

theorem label_small_q (c : UInt8) (w : World) :
    Calls Tryz.prog 145 #[.int .u8 (c.toNat : Int)] w fun e w' => e = .returned (.int .u8 ((smallU c).toNat : Int)) ∧ w' = w :=
  (label_small c w).mono fun _ _ h => ⟨h.1, h.2.symm⟩

set_option maxHeartbeats 2000000 in
theorem label_Compare (a b : ByteArray) (w : World) (ha : a.size ≤ maxLen) (hb : b.size ≤ maxLen) :
    Calls Tryz.prog 147 #[.string a, .string b] w fun e w' => e = .returned (.int .i64 (compareM a.data.toList b.data.toList)) ∧ ∃ n, w' = w.drewN n := by
  unfold maxLen at ha hb
  by_cases hba : (b.size : Int) < (a.size : Int)
  · go_enter Tryz.func147, Tryz.ntmps147
    go_wp2
    go_loopw [13] (fun i wr => ∃ k : Nat, i = .int .i64 k ∧ k ≤ b.size ∧ Hid (compareM (a.data.toList.drop k) (b.data.toList.drop k) = compareM a.data.toList b.data.toList) ∧ ∃ n, wr = w.drewN n) (fun i _ => b.size - (intOf i).toNat)
    case atStart => exact ⟨0, rfl, Nat.zero_le _, by exact Lib.hid (by simp), 0, rfl⟩
    case round =>
      obtain ⟨k, rfl, hk, HC, n, hw⟩ := hrel
      have HW := Lib.hid hw; clear hw
      by_cases hlt : k < b.size
      · have hstep := compareM_step a b k (by omega) (by omega)
        have HS := Lib.hid hstep; clear hstep
        have hka : k < a.size := by omega
        have hkb : k < b.size := by omega
        by_cases heq : (((smallU a[k]).toNat : Int) != ((smallU b[k]).toNat : Int)) = true
        · have hne := u8_ne heq
          go_wp2
          go_quiet ((go_at_call 145; exact Calls.quiet_of_same (label_small_q _ _)))
          go_wp2_with (go_at_call 177; refine (cmp_u8 _ _ _).mono ?_; rintro e w' ⟨rfl, rfl⟩)
          go_ret
          refine ⟨ret_int ?_, ?_⟩
          · rw [← HC.out, HS.out, if_neg hne]
          · rw [HW.out]; exact ⟨_, World.drewN_drewN _ _ _⟩
        · have heq2 : (((smallU a[k]).toNat : Int) != ((smallU b[k]).toNat : Int)) = false := by simpa using heq
          have he := u8_eq heq2
          clear heq
          go_wp2
          go_quiet ((go_at_call 145; exact Calls.quiet_of_same (label_small_q _ _)))
          go_wp2
          go_roundw
          case rel => exact ⟨k + 1, by go_num, by omega, by exact Lib.hid (by rw [← HC.out, HS.out, if_pos he]), by rw [HW.out]; exact ⟨_, World.drewN_drewN _ _ _⟩⟩
          case measure => simp [intOf]; omega
      · obtain rfl : k = b.size := by omega
        have hend := compareM_end a b b.size (by omega) (by omega) (by omega)
        have HE := Lib.hid hend; clear hend
        go_wp2_with (go_at_call 130; refine (cmp_int _ _ _).mono ?_; rintro e w' ⟨rfl, rfl⟩)
        go_ret
        exact ⟨ret_int (by rw [← HC.out, HE.out]), n, HW.out⟩
  · have hba2 : (a.size : Int) ≤ (b.size : Int) := by omega
    go_enter Tryz.func147, Tryz.ntmps147
    go_wp2
    go_loopw [13] (fun i wr => ∃ k : Nat, i = .int .i64 k ∧ k ≤ a.size ∧ Hid (compareM (a.data.toList.drop k) (b.data.toList.drop k) = compareM a.data.toList b.data.toList) ∧ ∃ n, wr = w.drewN n) (fun i _ => a.size - (intOf i).toNat)
    case atStart => exact ⟨0, rfl, Nat.zero_le _, by exact Lib.hid (by simp), 0, rfl⟩
    case round =>
      obtain ⟨k, rfl, hk, HC, n, hw⟩ := hrel
      have HW := Lib.hid hw; clear hw
      by_cases hlt : k < a.size
      · have hstep := compareM_step a b k (by omega) (by omega)
        have HS := Lib.hid hstep; clear hstep
        have hka : k < a.size := by omega
        have hkb : k < b.size := by omega
        by_cases heq : (((smallU a[k]).toNat : Int) != ((smallU b[k]).toNat : Int)) = true
        · have hne := u8_ne heq
          go_wp2
          go_quiet ((go_at_call 145; exact Calls.quiet_of_same (label_small_q _ _)))
          go_wp2_with (go_at_call 177; refine (cmp_u8 _ _ _).mono ?_; rintro e w' ⟨rfl, rfl⟩)
          go_ret
          refine ⟨ret_int ?_, ?_⟩
          · rw [← HC.out, HS.out, if_neg hne]
          · rw [HW.out]; exact ⟨_, World.drewN_drewN _ _ _⟩
        · have heq2 : (((smallU a[k]).toNat : Int) != ((smallU b[k]).toNat : Int)) = false := by simpa using heq
          have he := u8_eq heq2
          clear heq
          go_wp2
          go_quiet ((go_at_call 145; exact Calls.quiet_of_same (label_small_q _ _)))
          go_wp2
          go_roundw
          case rel => exact ⟨k + 1, by go_num, by omega, by exact Lib.hid (by rw [← HC.out, HS.out, if_pos he]), by rw [HW.out]; exact ⟨_, World.drewN_drewN _ _ _⟩⟩
          case measure => simp [intOf]; omega
      · obtain rfl : k = a.size := by omega
        have hend := compareM_end a b a.size (by omega) (by omega) (by omega)
        have HE := Lib.hid hend; clear hend
        go_wp2_with (go_at_call 130; refine (cmp_int _ _ _).mono ?_; rintro e w' ⟨rfl, rfl⟩)
        go_ret
        exact ⟨ret_int (by rw [← HC.out, HE.out]), n, HW.out⟩

end Go.Proofs.YtckammgnmgkieaaGreat

/-
  Contracts of label.Same and label.readOctet.
-/
namespace Go.Proofs.YtckammgnmgkieaaGreat
set_option maxRecDepth 20000
open Go.RowKit Go.Shelf

def sameM (a b : List UInt8) : Bool := decide (a.length = b.length ∧ compareM a b = 0)

set_option maxHeartbeats 1000000 in
theorem label_Same (a b : ByteArray) (w : World) (ha : a.size ≤ maxLen) (hb : b.size ≤ maxLen) :
    Calls Tryz.prog 107 #[.string a, .string b] w fun e w' => e = .returned (.bool (sameM a.data.toList b.data.toList)) ∧ ∃ n, w' = w.drewN n := by
  by_cases h : ((a.size : Int) == (b.size : Int)) = true
  · have hsz : a.data.toList.length = b.data.toList.length := by rw [size_data, size_data]; have : (a.size : Int) = b.size := by simpa using h
                                                                 omega
    have HS := Lib.hid hsz; clear hsz
    have hCa := label_Compare a b w ha hb
    unfold maxLen at ha hb
    go_enter Tryz.func107, Tryz.ntmps107
    go_wp2_with (go_at_call 147; refine hCa.mono ?_; rintro e w' ⟨rfl, n, hn⟩; have HN := Lib.hid hn; clear hn)
    go_ret
    exact ⟨ret_bool (by show (compareM _ _ == 0) = _; unfold sameM; simp only [HS.out, true_and]; rw [Bool.eq_iff_iff]; simp), n, HN.out⟩
  · have h2 : ((a.size : Int) == (b.size : Int)) = false := by simpa using h
    have hsz : a.data.toList.length ≠ b.data.toList.length := by rw [size_data, size_data]; intro e; rw [e] at h2; simp at h2
    have HS := Lib.hid hsz; clear hsz h
    unfold maxLen at ha hb
    go_enter Tryz.func107, Tryz.ntmps107
    go_wp2
    go_ret
    exact ⟨ret_bool (by show false = _; unfold sameM; symm; apply decide_eq_false; intro h; exact HS.out h.1), 0, rfl⟩

end Go.Proofs.YtckammgnmgkieaaGreat

