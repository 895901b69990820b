/-
  The labels right below a name: node[int].labels.
-/
import Derived.Test.YtnpnfajgphpabaaMQ35
import Derived.Test.YtnpnfajgphpabaaMQ15
import Derived.Test.YtnpnfajgphpabaaMQ43
import Derived.Test.YtnpnfajgphpabaaMQ09
namespace Go.Proofs.Ytnpnfajgphpabaa
set_option linter.unusedVariables false
set_option linter.unusedSimpArgs false
open Go.RowKit Go.Shelf Go.Maps Go.WideMaps
set_option maxRecDepth 20000
def LabPost (ks : List Nm) (p : Nm) (w : World) (e : Ending) (w' : World) : Prop := ∃ v ss, e = .returned v ∧ KidsOf ks p ss ∧ ss.length ≤ ks.length ∧ OwnG 9 strV w' w.heap.size v ss ∧ Below w.heap.size w w'
theorem labPost_of {ks : List Nm} {p : Nm} {w w1 w' : World} {v : Value} {ss : List (List UInt8)} (hb1 : Below w.heap.size w w1) (hk : KidsOf ks p (ss.mergeSort fun x y => decide (x ≤ y))) (hl : ss.length ≤ ks.length) (hr : w'.ownsRow w1.heap.size 9 1 v ss.length ((ss.mergeSort (fun x y => decide (x ≤ y))).map Go.Proofs.encStr)) (hb : Below w1.heap.size w1 w') : LabPost ks p w (.returned v) w' := by
  have hlen : (ss.mergeSort fun x y => decide (x ≤ y)).length = ss.length := (List.mergeSort_perm ss _).length_eq
  refine ⟨v, _, rfl, hk, by rw [hlen]; exact hl, ?_, hb1.trans (hb.mono hb1.size)⟩
  have h : OwnG 9 strV w' w1.heap.size v (ss.mergeSort fun x y => decide (x ≤ y)) := by
    unfold OwnG
    rw [hlen]; exact hr
  exact h.weaken hb1.size
section
attribute [local go_sem] Oper.semAt_some
set_option maxRecDepth 100000 in
set_option maxHeartbeats 4000000 in
theorem node_labels_i (s : TreS) (more : Nat) (p : Nm) (w : World) (hT : TrM 56 54 (.int .i64 0) w s more) (hp : p ∈ s.ks) (hsz : s.ks.length ≤ 549755813888) :
    Calls Try.prog 37 #[.pointer (some ⟨s.be p, 0, none⟩)] w (LabPost s.ks p w) := by
  have hnd := hT.node p hp
  have c0 := kcell hnd 0 _ (cellsT_map _ _ _ _)
  have hb1 : Below w.heap.size w (w.alloc (.cells #[.map (s.mb p)] 52)) := (Below.refl _ w).alloc (Nat.le_refl _) _
  cases hm : s.mb p with
  | none =>
    have hS := callsIn_wide.1 (Try.slices_Sorted_keys_nil_54_55 w)
    have hno := hT.kidsN p hp hm
    rw [hm] at c0 hb1
    have HNO := Lib.hid hno; have HB1 := Lib.hid hb1; have HOK := Lib.hid hT.ok; have HS := Lib.hid hS
    clear hno hb1 hT hnd hm hS
    generalize s.be p = nb at *
    go_enter Try.func37, Try.ntmps37
    go_wp2_with fail
    refine (callsIn_wide.1 (Try.maps_Keys_55 _ _)).mono ?_
    rintro e w1 ⟨rfl, rfl⟩
    go_wp2_with fail
    refine HS.out.mono ?_
    rintro e w2 ⟨v, ss, rfl, hss, hrow, hnil, hb⟩
    subst hss
    have HR := Lib.hid hrow; have HB := Lib.hid hb
    clear hrow hnil hb
    obtain ⟨a, c, rfl⟩ : ∃ a c, v = .slice a 0 c := by
      have h := HR.out
      rcases h.2 with ⟨rfl, _⟩ | ⟨g, cap, cur, rfl, _⟩
      · exact ⟨_, _, rfl⟩
      · exact ⟨_, _, rfl⟩
    go_wp2
    go_ret
    exact labPost_of HB1.out (kids_of HOK.out (fun l => ⟨fun h => (by cases h), fun h => absurd h (HNO.out l)⟩) List.nodup_nil) (Nat.zero_le _) HR.out HB.out
  | some m =>
    obtain ⟨D, hown, hD⟩ := hT.kidsS p hp m hm
    have hsz2 : Maps.size D ≤ 549755813888 := Nat.le_trans hown.size_le hsz
    have hS := callsIn_wide.1 (Try.slices_Sorted_keys_54_55 m s.ks.length D ptrElem w hown (by unfold maxLen; omega) (by omega))
    rw [hm] at c0 hb1
    have HB1 := Lib.hid hb1; have HOK := Lib.hid hT.ok; have HS := Lib.hid hS; have HOW := Lib.hid hown; have HD := Lib.hid hD
    clear hb1 hT hnd hm hS hown hD
    generalize s.be p = nb at *
    go_enter Try.func37, Try.ntmps37
    go_wp2_with fail
    refine (callsIn_wide.1 (Try.maps_Keys_55 _ _)).mono ?_
    rintro e w1 ⟨rfl, rfl⟩
    go_wp2_with fail
    refine HS.out.mono ?_
    rintro e w2 ⟨v, ss, rfl, hss, hrow, hnil, hb⟩
    have HR := Lib.hid hrow; have HB := Lib.hid hb; have HSS := Lib.hid hss
    clear hrow hnil hb hss
    obtain ⟨a, n, c, rfl⟩ : ∃ a n c, v = .slice a n c := by
      have h := HR.out
      rcases h.2 with ⟨rfl, _⟩ | ⟨g, cap, cur, rfl, _⟩
      · exact ⟨_, _, _, rfl⟩
      · exact ⟨_, _, _, rfl⟩
    go_wp2
    go_ret
    exact labPost_of HB1.out (kids_sorted HOW.out HD.out HOK.out HSS.out) (by rw [HSS.out.length_eq, (strKeys_ok HOW.out).2.2]; exact HOW.out.size_le) HR.out HB.out
end
end Go.Proofs.Ytnpnfajgphpabaa

/-
  The labels right below a name: node[bool].labels.
-/
namespace Go.Proofs.Ytnpnfajgphpabaa
set_option linter.unusedVariables false
set_option linter.unusedSimpArgs false
open Go.RowKit Go.Shelf Go.Maps Go.WideMaps
set_option maxRecDepth 20000
section
attribute [local go_sem] Oper.semAt_some
set_option maxRecDepth 100000 in
set_option maxHeartbeats 4000000 in
theorem node_labels_b (s : TreS) (more : Nat) (p : Nm) (w : World) (hT : TrM 84 82 (.bool false) w s more) (hp : p ∈ s.ks) (hsz : s.ks.length ≤ 549755813888) :
    Calls Try.prog 45 #[.pointer (some ⟨s.be p, 0, none⟩)] w (LabPost s.ks p w) := by
  have hnd := hT.node p hp
  have c0 := kcell hnd 0 _ (cellsT_map _ _ _ _)
  have hb1 : Below w.heap.size w (w.alloc (.cells #[.map (s.mb p)] 80)) := (Below.refl _ w).alloc (Nat.le_refl _) _
  cases hm : s.mb p with
  | none =>
    have hS := callsIn_wide.1 (Try.slices_Sorted_keys_nil_54_59 w)
    have hno := hT.kidsN p hp hm
    rw [hm] at c0 hb1
    have HNO := Lib.hid hno; have HB1 := Lib.hid hb1; have HOK := Lib.hid hT.ok; have HS := Lib.hid hS
    clear hno hb1 hT hnd hm hS
    generalize s.be p = nb at *
    go_enter Try.func45, Try.ntmps45
    go_wp2_with fail
    refine (callsIn_wide.1 (Try.maps_Keys_59 _ _)).mono ?_
    rintro e w1 ⟨rfl, rfl⟩
    go_wp2_with fail
    refine HS.out.mono ?_
    rintro e w2 ⟨v, ss, rfl, hss, hrow, hnil, hb⟩
    subst hss
    have HR := Lib.hid hrow; have HB := Lib.hid hb
    clear hrow hnil hb
    obtain ⟨a, c, rfl⟩ : ∃ a c, v = .slice a 0 c := by
      have h := HR.out
      rcases h.2 with ⟨rfl, _⟩ | ⟨g, cap, cur, rfl, _⟩
      · exact ⟨_, _, rfl⟩
      · exact ⟨_, _, rfl⟩
    go_wp2
    go_ret
    exact labPost_of HB1.out (kids_of HOK.out (fun l => ⟨fun h => (by cases h), fun h => absurd h (HNO.out l)⟩) List.nodup_nil) (Nat.zero_le _) HR.out HB.out
  | some m =>
    obtain ⟨D, hown, hD⟩ := hT.kidsS p hp m hm
    have hsz2 : Maps.size D ≤ 549755813888 := Nat.le_trans hown.size_le hsz
    have hS := callsIn_wide.1 (Try.slices_Sorted_keys_54_59 m s.ks.length D ptrElem w hown (by unfold maxLen; omega) (by omega))
    rw [hm] at c0 hb1
    have HB1 := Lib.hid hb1; have HOK := Lib.hid hT.ok; have HS := Lib.hid hS; have HOW := Lib.hid hown; have HD := Lib.hid hD
    clear hb1 hT hnd hm hS hown hD
    generalize s.be p = nb at *
    go_enter Try.func45, Try.ntmps45
    go_wp2_with fail
    refine (callsIn_wide.1 (Try.maps_Keys_59 _ _)).mono ?_
    rintro e w1 ⟨rfl, rfl⟩
    go_wp2_with fail
    refine HS.out.mono ?_
    rintro e w2 ⟨v, ss, rfl, hss, hrow, hnil, hb⟩
    have HR := Lib.hid hrow; have HB := Lib.hid hb; have HSS := Lib.hid hss
    clear hrow hnil hb hss
    obtain ⟨a, n, c, rfl⟩ : ∃ a n c, v = .slice a n c := by
      have h := HR.out
      rcases h.2 with ⟨rfl, _⟩ | ⟨g, cap, cur, rfl, _⟩
      · exact ⟨_, _, _, rfl⟩
      · exact ⟨_, _, _, rfl⟩
    go_wp2
    go_ret
    exact labPost_of HB1.out (kids_sorted HOW.out HD.out HOK.out HSS.out) (by rw [HSS.out.length_eq, (strKeys_ok HOW.out).2.2]; exact HOW.out.size_le) HR.out HB.out
end
end Go.Proofs.Ytnpnfajgphpabaa

