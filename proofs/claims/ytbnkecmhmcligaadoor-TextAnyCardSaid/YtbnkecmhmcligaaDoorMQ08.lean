/-
  Contract of label.Text: the words of any octets.
-/
import Derived.Test.YtbnkecmhmcligaaDoorMQ01
import Derived.Test.YtbnkecmhmcligaaDoorMQ38
import Derived.Deep.QuietTactic
namespace Go.Proofs.YtbnkecmhmcligaaDoor
set_option linter.unusedVariables false
set_option linter.unusedSimpArgs false
set_option maxRecDepth 20000
open Go.RowKit Go.Shelf

def textL (l : List UInt8) : List UInt8 := l.flatMap octetW
theorem textL_snoc (l : List UInt8) (c : UInt8) : textL (l ++ [c]) = textL l ++ octetW c := by simp [textL]
theorem octetW_le (c : UInt8) : (octetW c).length ≤ 4 := by unfold octetW; split; · simp
                                                            split <;> simp
theorem textL_le (l : List UInt8) : (textL l).length ≤ 4 * l.length := by
  induction l with
  | nil => simp [textL]
  | cons c l ih => have := octetW_le c; simp only [textL, List.flatMap_cons, List.length_append, List.length_cons] at ih ⊢; omega

section
attribute [local go_sem] Oper.semAt_some

set_option maxRecDepth 100000 in
set_option maxHeartbeats 2000000 in
theorem label_Text (s : ByteArray) (w : World) (hs : s.size ≤ 35184372088000) :
    Calls Tryd.prog 44 #[.string s] w fun e w' => e = .returned (.string ⟨(textL s.data.toList).toArray⟩) ∧ Below w.heap.size w w' := by
  obtain ⟨i0, hi, hz0, hz1, hz2⟩ := info_parts info_u8
  refine (callsIn_wide (n := 5)).1 ?_
  refine callsIn_of_wp_marks Tryd.func44 rfl trivial ?_ rfl
  simp only [Tryd.ntmps44, List.size_toArray, List.length_cons, List.length_nil, Nat.reduceAdd, Nat.reduceSub, Array.replicate_succ, Array.replicate_zero, List.push_toArray, List.append_toArray, List.nil_append, List.cons_append]
  gi_wp2_with (first | (gi_at_make; refine wpListIn_make_own _ rfl _ _ 58 rfl w.heap.size 5 i0 (.int .u8 0) 1 Tryd.underlying58 hi hz0 hz1 .i64 .i64 _ s.size rfl rfl rfl (by rw [hz2]; omega) (by unfold maxLen; omega) (Nat.le_refl _) ?_; intro w0 hown0 hgrow0) | (refine ⟨trivial, ?_⟩; gi_at_call 50; refine (callsIn_wide.2 (label_octets _ _)).mono ?_; rintro e w' ⟨rfl, rfl⟩))
  have hg1 : w.heap.size ≤ w0.heap.size := hgrow0.size
  have bO := Boxed.new w0 58 (.slice (some ⟨w.heap.size, 0, none⟩) 0 s.size)
  have bS := Boxed.new (w0.alloc (.cells #[.slice (some ⟨w.heap.size, 0, none⟩) 0 s.size] 58)) 9 (.string s)
  rw [World.size_alloc] at bS
  have hB0 : Below w.heap.size w ((w0.alloc (.cells #[.slice (some ⟨w.heap.size, 0, none⟩) 0 s.size] 58)).alloc (.cells #[.string s] 9)) :=
    (((Below.refl _ w).grown hgrow0 (Nat.le_refl _) (by simp)).alloc hg1 _).alloc (by simp; omega) _
  obtain ⟨W0, hW0⟩ : ∃ W0, ((w0.alloc (.cells #[.slice (some ⟨w.heap.size, 0, none⟩) 0 s.size] 58)).alloc (.cells #[.string s] 9)) = W0 := ⟨_, rfl⟩
  have hsz : W0.heap.size = w0.heap.size + 2 := by rw [← hW0]; simp
  have hI0 : OutBox w0.heap.size w.heap.size [] W0 := by rw [← hW0]; exact ⟨_, bO.alloc _, (World.ownsRow.alloc hown0 _).alloc _⟩
  rw [hW0] at bS hB0 ⊢
  have HZ := Lib.hid hsz; clear hsz hW0
  refine wpIn_rangeFunc_ownG rfl (by omega) (gf := 57) (lb := #[.pointer (some ⟨w0.heap.size + 1, 0, none⟩)]) rfl trivial (enters_of Tryd.func57 (by kernel_rfl) rfl)
    (octets_stops _ (by omega) (w0.heap.size + 1) s (by unfold maxLen; omega) W0 (by rw [HZ.out]; omega) bS.cell) keepB_t (keepB_b (by rw [HZ.out]; omega)) (Below.refl _ _) (fun _ => rfl)
    (fun pre W => OutBox w0.heap.size w.heap.size (textL pre) W ∧ Below w.heap.size w W ∧ Boxed W (w0.heap.size + 1) 9 (.string s))
    (fun _ _ _ => False)
    (OwnFrom.and (Own.from (outBox_own w0.heap.size w.heap.size textL) _) (OwnFrom.and (ownFrom_below (Nat.le_refl _) (by rw [HZ.out]; omega)) (Own.from (boxed_own _ _ _) _)))
    (fun _ _ _ _ _ hs _ _ => hs)
    ⟨hI0, hB0, bS⟩
    (fun c => { tmps := #[.string s, undef, .string ⟨#[]⟩, .pointer (some ⟨w0.heap.size, 0, none⟩), .int .u8 (c.toNat : Int), .string s, .int .i64 (s.size : Int), .slice (some ⟨w.heap.size, 0, none⟩) 0 s.size, .string s, .func (.func 57) #[] #[.pointer (some ⟨w0.heap.size + 1, 0, none⟩)], .int .u8 (c.toNat : Int), undef, undef, undef, undef, undef], defers := [] }) ?assign ?body ?done ?stop
  case assign =>
    intro l x W K hK
    gi_wp2
    exact hK
  case body =>
    rintro l pre c W ⟨⟨v, hv, hown⟩, hB, hS⟩ hlt
    have hc := hv.cell
    have hple := textL_le pre
    gi_wp2_with (refine ⟨trivial, ?_⟩; gi_at_call 51; refine (CallsIn.inRound l (callsIn_wide.2 (label_appendOctet c v w.heap.size (textL pre) W hown hB.size (by omega)))).mono ?_; rintro e w' ⟨v', rfl, hown', hg'⟩; obtain ⟨a', n', c', rfl⟩ := hown'.shape; obtain ⟨hv1, ho2, hk2, hb2, hs2⟩ := boxed_appends hv hown (by omega) hown' hg'; have hc1 := hv1.cell; have hf1 := hv1.frozen)
    exact ⟨hk2.from _, hs2 _ hS.lt (by omega) _ hS, ⟨by rw [textL_snoc]; exact ho2, hB.trans hb2, boxed_keep (hs2 _ hS.lt (by omega) _ hS) hS⟩⟩
  case done =>
    rintro D ys W hD rfl ⟨⟨v, hv, hown⟩, hB, _⟩ hK
    have hc := hv.cell
    have hcv := hown.string
    gi_wp2
    refine ⟨by simp, .inl ⟨_, _, rfl, run_takeDeferred hK, ?_⟩⟩
    exact ⟨_, results_tmp rfl _ _ _, rfl, hB.trans (belowK_b (w := w) (Nat.le_refl _) W D _ _ (by have := HZ.out; omega) hK rfl rfl)⟩
  case stop =>
    rintro D c pre W _ _ h _
    exact h.elim
end

end Go.Proofs.YtbnkecmhmcligaaDoor

/-
  Contracts of label.Fold, label.Compare, label.Same and of cmp.Compare at bytes and at ints.
-/
namespace Go.Proofs.YtbnkecmhmcligaaDoor
set_option linter.unusedVariables false
set_option linter.unusedSimpArgs false
set_option maxRecDepth 20000
open Go.RowKit Go.Shelf

def foldL (l : List UInt8) : List UInt8 := l.map smallU
theorem foldL_snoc (l : List UInt8) (c : UInt8) : foldL (l ++ [c]) = foldL l ++ [smallU c] := by simp [foldL]

section
attribute [local go_sem] Oper.semAt_some

end

end Go.Proofs.YtbnkecmhmcligaaDoor

/-
  Contracts of label.Compare, label.Same and of cmp.Compare at bytes and at ints.
-/
namespace Go.Proofs.YtbnkecmhmcligaaDoor
set_option linter.unusedVariables false
set_option linter.unusedSimpArgs false
set_option maxRecDepth 20000
open Go.RowKit Go.Shelf

def cmpI (a b : Int) : Int := if a < b then -1 else if b < a then 1 else 0

/-- Folded, octet by octet; who has fewer, ahead. -/
def compareM : List UInt8 → List UInt8 → Int
  | [], [] => 0
  | [], _ :: _ => -1
  | _ :: _, [] => 1
  | x :: a, y :: b => if smallU x = smallU y then compareM a b else cmpI (smallU x).toNat (smallU y).toNat

theorem compareM_step (a b : ByteArray) (k : Nat) (ha : k < a.size) (hb : k < b.size) :
    compareM (a.data.toList.drop k) (b.data.toList.drop k) = if smallU a[k] = smallU b[k] then compareM (a.data.toList.drop (k + 1)) (b.data.toList.drop (k + 1)) else cmpI (smallU a[k]).toNat (smallU b[k]).toNat := by
  rw [drop_cons_get a k ha, drop_cons_get b k hb]; rfl
theorem compareM_end (a b : ByteArray) (k : Nat) (h : k = a.size ∨ k = b.size) (ha : k ≤ a.size) (hb : k ≤ b.size) :
    compareM (a.data.toList.drop k) (b.data.toList.drop k) = cmpI a.size b.size := by
  unfold cmpI
  rcases Nat.lt_trichotomy a.size b.size with h1 | h1 | h1
  · obtain rfl : k = a.size := by omega
    rw [if_pos (by omega), drop_cons_get b _ h1, List.drop_eq_nil_of_le (by simp)]; rfl
  · obtain rfl : k = a.size := by omega
    rw [if_neg (by omega), if_neg (by omega), List.drop_eq_nil_of_le (by simp), List.drop_eq_nil_of_le (by rw [size_data]; omega)]; rfl
  · obtain rfl : k = b.size := by omega
    rw [if_neg (by omega), if_pos (by omega), drop_cons_get a _ h1, show b.data.toList.drop b.size = [] from List.drop_eq_nil_of_le (by simp)]; rfl
theorem u8_ne {x y : UInt8} (h : (((x.toNat : Int)) != (y.toNat : Int)) = true) : x ≠ y := by
  intro e; subst e; simp at h
theorem u8_eq {x y : UInt8} (h : (((x.toNat : Int)) != (y.toNat : Int)) = false) : x = y := by
  have : (x.toNat : Int) = y.toNat := by simpa using h
  exact UInt8.toNat_inj.1 (by omega)

end Go.Proofs.YtbnkecmhmcligaaDoor

