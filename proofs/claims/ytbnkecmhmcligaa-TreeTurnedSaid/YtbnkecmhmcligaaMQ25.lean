/-
  A new tree of int; Len, Has, Get, Kids, Deepest.
-/
import Derived.Test.YtbnkecmhmcligaaMQ05
import Derived.Test.YtbnkecmhmcligaaMQ39
namespace Go.Proofs.Ytbnkecmhmcligaa
set_option linter.unusedVariables false
set_option linter.unusedSimpArgs false
set_option maxRecDepth 20000
open Go.RowKit Go.Shelf Go.Maps Go.WideMaps
set_option maxRecDepth 20000
theorem TreS_nil_ok {TT NT : TypeId} {z : Value} {w : World} {B : Nat} (h : w.heap[B]? = some (.cells #[.map none, z, .bool false, .int .i64 0] TT)) : TrM TT NT z w ⟨[[]], fun _ => B, fun _ => none, fun _ => none⟩ 0 := by
  refine ⟨treeOK_nil, fun p hp => ?_, fun p hp _ l => by simp, fun p hp m hm => (by cases hm), fun p hp q hq _ => ?_, fun p hp q hq m e => (by cases e), fun p _ => rfl⟩
  · obtain rfl := List.mem_singleton.1 hp
    exact h
  · rw [List.mem_singleton.1 hp, List.mem_singleton.1 hq]
def NewPost (TT NT : TypeId) (z : Value) (w : World) (e : Ending) (w' : World) : Prop :=
  ∃ s : TreS, e = .returned (.pointer (some ⟨s.be [], 0, none⟩)) ∧ TrM TT NT z w' s (s.ks.length - 1) ∧ s.ks = [[]] ∧ (∀ q, s.vl q = none) ∧ (∀ k, foot s k → w.heap.size ≤ k) ∧ Below w.heap.size w w'
def DeepestPost (s : TreS) (n : Nm) (w : World) (e : Ending) (w' : World) : Prop := ∃ d v, DeepAt s.ks (wayN n) d ∧ e = .returned v ∧ OwnG 9 strV w' w.heap.size v (foldN (n.drop (n.length - d))) ∧ Below w.heap.size w w'
section
attribute [local go_sem] Oper.semAt_some
set_option maxRecDepth 100000 in
set_option maxHeartbeats 4000000 in
theorem tree_New_i (w : World) : Calls Try.prog 12 #[] w (NewPost 62 60 (.int .i64 0) w) := by
  go_enter Try.func12, Try.ntmps12
  go_wp2
  go_ret
  refine ⟨⟨[[]], fun _ => w.heap.size, fun _ => none, fun _ => none⟩, rfl, TreS_nil_ok (knew w _), rfl, fun _ => rfl, fun k h => ?_, (Below.refl _ w).alloc (Nat.le_refl _) _⟩
  obtain ⟨p, _, e | e⟩ := h
  · exact Nat.le_of_eq e
  · cases e
set_option maxRecDepth 100000 in
set_option maxHeartbeats 4000000 in
theorem tree_Has_i (s : TreS) (more : Nat) (vn : Value) (n : Nm) (w : World) (hT : TrM 62 60 (.int .i64 0) w s more) (hA : NmAt w vn n) (hk : NmOK n) :
    Calls Try.prog 16 #[.pointer (some ⟨s.be [], 0, none⟩), vn] w (fun e w' => e = .returned (.bool (decide (wayN n ∈ s.ks))) ∧ Below w.heap.size w w') := by
  have hd := tree_deepest_i s more vn n _ rfl w hT hA hk
  obtain ⟨a, c, rfl, -⟩ := id hA.1
  have hwl := wayN_len n
  obtain ⟨k1, hk1⟩ : ∃ k, n.length = k := ⟨_, rfl⟩
  rw [hk1] at hd hwl ⊢
  have HD := Lib.hid hd; have HWL := Lib.hid hwl
  clear hT hA hk hd hwl
  generalize s.be [] = B at *
  go_enter Try.func16, Try.ntmps16
  go_wp2_with fail
  refine HD.out.mono ?_
  rintro e w1 ⟨d, rfl, hd, hb⟩
  have HB := Lib.hid hb; have HE : Hid (decide (wayN n ∈ s.ks) = decide (d = k1)) := Lib.hid (decide_eq_decide.2 (by rw [← hd.full, HWL.out]))
  clear hd hb
  generalize s.be _ = nb at *
  go_wp2
  go_ret
  refine ⟨?_, HB.out⟩
  rw [HE.out]
  by_cases e : d = k1
  · subst e; simp
  · have : ¬ (d : Int) = (k1 : Int) := by omega
    simp [e, this]
set_option maxRecDepth 100000 in
set_option maxHeartbeats 8000000 in
theorem tree_Deepest_i (s : TreS) (more : Nat) (vn : Value) (n : Nm) (w : World) (hT : TrM 62 60 (.int .i64 0) w s more) (hA : NmAt w vn n) (hk : NmOK n) :
    Calls Try.prog 18 #[.pointer (some ⟨s.be [], 0, none⟩), vn] w (DeepestPost s n w) := by
  have hd := tree_deepest_i s more vn n _ rfl w hT hA hk
  obtain ⟨a, c, rfl, -⟩ := id hA.1
  have hwl := wayN_len n
  have hkl := hk.1
  obtain ⟨k1, hk1⟩ : ∃ k, n.length = k := ⟨_, rfl⟩
  rw [hk1] at hd hwl hA hkl ⊢
  have hcap := nmc_cap hA
  have HD := Lib.hid hd; have HWL := Lib.hid hwl; have HA := Lib.hid hA; have HK := Lib.hid hk; have HK1 := Lib.hid hk1
  clear hT hA hk hd hwl hk1
  generalize s.be [] = B at *
  go_enter Try.func18, Try.ntmps18
  go_wp2_with fail
  refine HD.out.mono ?_
  rintro e w1 ⟨d, rfl, hd, hb⟩
  have hdl : d ≤ k1 := by have := hd.1; have := HWL.out; omega
  have HB := Lib.hid hb; have HDP := Lib.hid hd
  obtain ⟨k, hkd⟩ : ∃ k, k + d = k1 := ⟨k1 - d, by omega⟩
  have HKD := Lib.hid hkd
  have hsub : (k1 : Int) - (d : Int) = (k : Int) := by omega
  have hkz : (k : Int) ≤ (k1 : Int) := by omega
  have hkc : k ≤ c := by omega
  have HF := Lib.hid (fun (v : Value) (hv : NmAt w1 v (n.drop k)) => name_Fold v (n.drop k) w1 hv.1 ⟨by rw [List.length_drop]; have := HK.out.1; omega, fun x hx => HK.out.2 x (List.mem_of_mem_drop hx)⟩)
  have HND := Lib.hid (show n.drop (n.length - d) = n.drop k by rw [HK1.out]; congr 1; omega)
  have hcut := nm_cut3 (HA.out.below hb) (show k ≤ k1 by omega)
  clear hd hb hkd
  generalize s.be _ = nb at *
  rcases hcut with ⟨hck, hq, hm⟩ | ⟨hck, hq0, hk0, ⟨ad, rfl⟩, hm⟩ | ⟨hck, hq0, g, off, rfl, hm⟩
  · subst hck
    subst hq
    have hf := HF.out _ hm
    clear HF hm
    go_wp2_with fail
    refine hf.mono ?_
    rintro e w2 ⟨v, rfl, ho, hb2⟩
    obtain ⟨av, cv, rfl⟩ := ho.shape
    generalize hlv : List.length (foldN (List.drop _ n)) = lv at ho ⊢
    have HO := Lib.hid ho; have HB2 := Lib.hid hb2
    clear ho hb2 hlv
    go_wp2
    go_ret
    exact ⟨d, _, HDP.out, rfl, by rw [HND.out]; exact HO.out.weaken HB.out.size, HB.out.trans (HB2.out.mono HB.out.size)⟩
  · subst hk0
    subst hq0
    have hf := HF.out _ hm
    clear HF hm
    go_wp2_with fail
    refine hf.mono ?_
    rintro e w2 ⟨v, rfl, ho, hb2⟩
    obtain ⟨av, cv, rfl⟩ := ho.shape
    generalize hlv : List.length (foldN (List.drop _ n)) = lv at ho ⊢
    have HO := Lib.hid ho; have HB2 := Lib.hid hb2
    clear ho hb2 hlv
    go_wp2
    go_ret
    exact ⟨d, _, HDP.out, rfl, by rw [HND.out]; exact HO.out.weaken HB.out.size, HB.out.trans (HB2.out.mono HB.out.size)⟩
  · have hf := HF.out _ hm
    clear HF hm
    go_wp2_with fail
    refine hf.mono ?_
    rintro e w2 ⟨v, rfl, ho, hb2⟩
    obtain ⟨av, cv, rfl⟩ := ho.shape
    generalize hlv : List.length (foldN (List.drop _ n)) = lv at ho ⊢
    have HO := Lib.hid ho; have HB2 := Lib.hid hb2
    clear ho hb2 hlv
    go_wp2
    go_ret
    exact ⟨d, _, HDP.out, rfl, by rw [HND.out]; exact HO.out.weaken HB.out.size, HB.out.trans (HB2.out.mono HB.out.size)⟩
end
end Go.Proofs.Ytbnkecmhmcligaa

