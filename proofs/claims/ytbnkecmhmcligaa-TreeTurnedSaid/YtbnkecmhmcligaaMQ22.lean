/-
  The labels right below a name: node[int].labels.
-/
import Derived.Test.YtbnkecmhmcligaaMQ12
import Derived.Test.YtbnkecmhmcligaaMQ18
import Derived.Test.YtbnkecmhmcligaaMQ41
import Derived.Test.YtbnkecmhmcligaaMQ19
import Derived.SizedLaws
namespace Go.Proofs.Ytbnkecmhmcligaa
set_option linter.unusedVariables false
set_option linter.unusedSimpArgs false
set_option maxRecDepth 20000
open Go.RowKit Go.Shelf Go.Maps Go.WideMaps
set_option maxRecDepth 20000
def LabPost (ks : List Nm) (p : Nm) (w : World) (e : Ending) (w' : World) : Prop := ∃ v ss, e = .returned v ∧ KidsOf ks p ss ∧ ss.length ≤ ks.length ∧ OwnG 9 strV w' w.heap.size v ss ∧ Below w.heap.size w w'
theorem labPost_of {ks : List Nm} {p : Nm} {w w1 w' : World} {v : Value} {ss : List (List UInt8)} (hb1 : Below w.heap.size w w1) (hk : KidsOf ks p (ss.mergeSort fun x y => decide (x ≤ y))) (hl : ss.length ≤ ks.length) (hr : w'.ownsRow w1.heap.size 9 1 v ss.length ((ss.mergeSort (fun x y => decide (x ≤ y))).map Go.Proofs.encStr)) (hb : Below w1.heap.size w1 w') : LabPost ks p w (.returned v) w' := by
  have hlen : (ss.mergeSort fun x y => decide (x ≤ y)).length = ss.length := (List.mergeSort_perm ss _).length_eq
  refine ⟨v, _, rfl, hk, by rw [hlen]; exact hl, ?_, hb1.trans (hb.mono hb1.size)⟩
  have h : OwnG 9 strV w' w1.heap.size v (ss.mergeSort fun x y => decide (x ≤ y)) := by
    unfold OwnG
    rw [hlen]; exact hr
  exact h.weaken hb1.size
section
attribute [local go_sem] Oper.semAt_some
set_option maxRecDepth 100000 in
set_option maxHeartbeats 4000000 in
theorem node_labels_i (s : TreS) (more : Nat) (p : Nm) (w : World) (hT : TrM 62 60 (.int .i64 0) w s more) (hp : p ∈ s.ks) (hsz : s.ks.length ≤ 549755813888) :
    Calls Try.prog 28 #[.pointer (some ⟨s.be p, 0, none⟩)] w (LabPost s.ks p w) := by
  have hnd := hT.node p hp
  have c0 := kcell hnd 0 _ (cellsT_map _ _ _ _)
  have hb1 : Below w.heap.size w (w.alloc (.cells #[.map (s.mb p)] 58)) := (Below.refl _ w).alloc (Nat.le_refl _) _
  cases hm : s.mb p with
  | none =>
    have hS := callsIn_wide.1 (Try.slices_Sorted_keys_nil_36_38 w)
    have hno := hT.kidsN p hp hm
    rw [hm] at c0 hb1
    have HNO := Lib.hid hno; have HB1 := Lib.hid hb1; have HOK := Lib.hid hT.ok; have HS := Lib.hid hS
    clear hno hb1 hT hnd hm hS
    generalize s.be p = nb at *
    go_enter Try.func28, Try.ntmps28
    go_wp2_with fail
    refine (callsIn_wide.1 (Try.maps_Keys_38 _ _)).mono ?_
    rintro e w1 ⟨rfl, rfl⟩
    go_wp2_with fail
    refine HS.out.mono ?_
    rintro e w2 ⟨v, ss, rfl, hss, hrow, hnil, hb⟩
    subst hss
    have HR := Lib.hid hrow; have HB := Lib.hid hb
    clear hrow hnil hb
    obtain ⟨a, c, rfl⟩ : ∃ a c, v = .slice a 0 c := by
      have h := HR.out
      rcases h.2 with ⟨rfl, _⟩ | ⟨g, cap, cur, rfl, _⟩
      · exact ⟨_, _, rfl⟩
      · exact ⟨_, _, rfl⟩
    go_wp2
    go_ret
    exact labPost_of HB1.out (kids_of HOK.out (fun l => ⟨fun h => (by cases h), fun h => absurd h (HNO.out l)⟩) List.nodup_nil) (Nat.zero_le _) HR.out HB.out
  | some m =>
    obtain ⟨D, hown, hD⟩ := hT.kidsS p hp m hm
    have hsz2 : Maps.size D ≤ 549755813888 := Nat.le_trans hown.size_le hsz
    have hS := callsIn_wide.1 (Try.slices_Sorted_keys_36_38 m s.ks.length D ptrElem w hown (by unfold maxLen; omega) (by omega))
    rw [hm] at c0 hb1
    have HB1 := Lib.hid hb1; have HOK := Lib.hid hT.ok; have HS := Lib.hid hS; have HOW := Lib.hid hown; have HD := Lib.hid hD
    clear hb1 hT hnd hm hS hown hD
    generalize s.be p = nb at *
    go_enter Try.func28, Try.ntmps28
    go_wp2_with fail
    refine (callsIn_wide.1 (Try.maps_Keys_38 _ _)).mono ?_
    rintro e w1 ⟨rfl, rfl⟩
    go_wp2_with fail
    refine HS.out.mono ?_
    rintro e w2 ⟨v, ss, rfl, hss, hrow, hnil, hb⟩
    have HR := Lib.hid hrow; have HB := Lib.hid hb; have HSS := Lib.hid hss
    clear hrow hnil hb hss
    obtain ⟨a, n, c, rfl⟩ : ∃ a n c, v = .slice a n c := by
      have h := HR.out
      rcases h.2 with ⟨rfl, _⟩ | ⟨g, cap, cur, rfl, _⟩
      · exact ⟨_, _, _, rfl⟩
      · exact ⟨_, _, _, rfl⟩
    go_wp2
    go_ret
    exact labPost_of HB1.out (kids_sorted HOW.out HD.out HOK.out HSS.out) (by rw [HSS.out.length_eq, (strKeys_ok HOW.out).2.2]; exact HOW.out.size_le) HR.out HB.out
end
end Go.Proofs.Ytbnkecmhmcligaa

/-
  The trees of bool: a kid put into a name's map; a new tree.
-/
namespace Go.Proofs.Ytbnkecmhmcligaa
set_option linter.unusedVariables false
set_option linter.unusedSimpArgs false
set_option maxRecDepth 20000
open Go.RowKit Go.Shelf Go.Maps Go.WideMaps
set_option maxRecDepth 20000
theorem zeroPtr_b (w : World) : (zeroValue 46).run Try.prog w = .ok (.pointer none) w := by kernel_rfl
theorem mapSome_b (bm : Nat) (w : World) : (binOp .eql 41 (.map (some bm)) (.map none)).run Try.prog w = .ok (.bool false) w := by kernel_rfl
theorem mapNone_b (w : World) : (binOp .eql 41 (.map none) (.map none)).run Try.prog w = .ok (.bool true) w := by kernel_rfl
section
attribute [local go_sem] Oper.semAt_some
set_option maxRecDepth 100000 in
set_option maxHeartbeats 2000000 in
theorem node_add_b (b K : Nat) (cs : Array Value) (T : TypeId) (l : List UInt8) (mo : Option Nat) (N : Nat) (D : DataW Unit) (w : World) (hb : w.heap[b]? = some (.cells cs T)) (h0 : cs[0]? = some (.map mo))
    (hm : ∀ m, mo = some m → KidMap w m N D) (hn : mo = none → D = .map []) (hl : l.length ≤ 140737488351232) (hN : N ≤ 562949953421312) :
    Calls Try.prog 21 #[.pointer (some ⟨b, 0, none⟩), strV l, .pointer (some ⟨K, 0, none⟩)] w (AddPost b K cs T l mo N D w) := by
  have hkey := keyT l (by unfold maxLen; omega)
  have hmm := @run_makeMap Try.prog
  have q1 := mapSome_b; have q2 := mapNone_b
  have HB := Lib.hid hb
  have hc := kcell hb 0 _ h0
  have hf := kfrozen hb 0
  unfold strV at hkey ⊢
  cases mo with
  | some m =>
    have hown := hm m rfl
    have hbm : m ≠ b := by
      rintro rfl
      obtain ⟨es, c, h, _⟩ := hown
      rw [hb] at h; cases h
    have HOWN := Lib.hid hown; have HBM := Lib.hid hbm; have HC0 := Lib.hid h0
    clear hm hn hb h0 hown hbm
    go_enter Try.func21, Try.ntmps21
    go_wp2_with (at_mapUpdate; refine wpList_mapUpdate_own _ rfl _ _ _ 41 rfl 9 46 keyStrT Try.underlying41 _ m N D rfl HOWN.out (by unfold maxLen; omega) _ _ _ rfl rfl hkey _ [] (rfl : ptrElem _ = _) ?_; intro w1 hown1 hg1; have HO1 := Lib.hid hown1; have HG1 := Lib.hid hg1; clear hown1 hg1)
    go_end0
    refine ⟨⟨_, rfl⟩, m, .inl rfl, ?_, HO1.out, Chg.of_grown HG1.out (fun k e => .inl (.inr e))⟩
    rw [HG1.out.block b (kblock_lt HB.out) (by intro e; injection e with e; exact HBM.out e.symm), HB.out]
    congr 2
    exact (setIf_same HC0.out).symm
  | none =>
    have hD := hn rfl
    subst hD
    obtain ⟨W2, hW2⟩ : ∃ W2, (w.alloc (.map #[] 0)).setCell ⟨b, 0, none⟩ (.map (some w.heap.size)) = W2 := ⟨_, rfl⟩
    have hlt := kblock_lt hb
    have hb1 : (w.alloc (.map #[] 0)).heap[b]? = some (.cells cs T) := (Below.heap_alloc _ _ _ hlt).trans hb
    have hown : KidMap W2 w.heap.size N (.map []) := by
      rw [← hW2]
      exact ((World.ownsMap_made w _ _ _).setCell (a := ⟨b, 0, none⟩) (by show _ ≠ b; omega) _).mono (Nat.zero_le _)
    have hb2 : W2.heap[b]? = some (.cells (cs.setIfInBounds 0 (.map (some w.heap.size))) T) := by rw [← hW2]; exact kset hb1 0 _
    have hg2 : Chg (fun k => k = b ∨ none = some k) w W2 := by rw [← hW2]; exact (Chg.of_below ((Below.refl _ w).alloc (Nat.le_refl _) _)).set b 0 _ (.inl (.inl rfl))
    have hc2 := kcell hb2 0 (.map (some w.heap.size)) (by
      have := (Array.getElem?_eq_some_iff.1 h0).1
      simp [this])
    have hcA := kcell hb1 0 _ h0; have hfA := kfrozen hb1 0
    have hz2 : w.heap.size < W2.heap.size := hown.lt
    have HOWN := Lib.hid hown; have HB2 := Lib.hid hb2; have HG2 := Lib.hid hg2; have HLT := Lib.hid hlt; have HZ2 := Lib.hid hz2
    clear hm hn hb h0 hown hb1 hb2 hg2 hlt hz2
    go_enter Try.func21, Try.ntmps21
    go_wp2_with (at_mapUpdate; refine wpList_mapUpdate_own _ rfl _ _ _ 41 rfl 9 46 keyStrT Try.underlying41 _ w.heap.size N (.map []) rfl HOWN.out (by unfold maxLen; omega) _ _ _ rfl rfl hkey _ [] (rfl : ptrElem _ = _) ?_; intro w1 hown1 hg1; have HO1 := Lib.hid hown1; have HG1 := Lib.hid hg1; clear hown1 hg1)
    go_end0
    refine ⟨⟨_, rfl⟩, w.heap.size, .inr ⟨rfl, rfl⟩, ?_, HO1.out, HG2.out.trans (Chg.of_grown HG1.out (fun k e => .inl e) : Chg (fun k => some w.heap.size = some k) _ _) (fun i hi e => by injection e with e; omega)⟩
    rw [HG1.out.block b (by have := kblock_lt HB2.out; omega) (by intro e; injection e with e; have := HLT.out; omega), HB2.out]
end
end Go.Proofs.Ytbnkecmhmcligaa

/-
  The labels right below a name: node[bool].labels.
-/
namespace Go.Proofs.Ytbnkecmhmcligaa
set_option linter.unusedVariables false
set_option linter.unusedSimpArgs false
set_option maxRecDepth 20000
open Go.RowKit Go.Shelf Go.Maps Go.WideMaps
set_option maxRecDepth 20000
section
attribute [local go_sem] Oper.semAt_some
set_option maxRecDepth 100000 in
set_option maxHeartbeats 4000000 in
theorem node_labels_b (s : TreS) (more : Nat) (p : Nm) (w : World) (hT : TrM 45 43 (.bool false) w s more) (hp : p ∈ s.ks) (hsz : s.ks.length ≤ 549755813888) :
    Calls Try.prog 25 #[.pointer (some ⟨s.be p, 0, none⟩)] w (LabPost s.ks p w) := by
  have hnd := hT.node p hp
  have c0 := kcell hnd 0 _ (cellsT_map _ _ _ _)
  have hb1 : Below w.heap.size w (w.alloc (.cells #[.map (s.mb p)] 41)) := (Below.refl _ w).alloc (Nat.le_refl _) _
  cases hm : s.mb p with
  | none =>
    have hS := callsIn_wide.1 (Try.slices_Sorted_keys_nil_36_37 w)
    have hno := hT.kidsN p hp hm
    rw [hm] at c0 hb1
    have HNO := Lib.hid hno; have HB1 := Lib.hid hb1; have HOK := Lib.hid hT.ok; have HS := Lib.hid hS
    clear hno hb1 hT hnd hm hS
    generalize s.be p = nb at *
    go_enter Try.func25, Try.ntmps25
    go_wp2_with fail
    refine (callsIn_wide.1 (Try.maps_Keys_37 _ _)).mono ?_
    rintro e w1 ⟨rfl, rfl⟩
    go_wp2_with fail
    refine HS.out.mono ?_
    rintro e w2 ⟨v, ss, rfl, hss, hrow, hnil, hb⟩
    subst hss
    have HR := Lib.hid hrow; have HB := Lib.hid hb
    clear hrow hnil hb
    obtain ⟨a, c, rfl⟩ : ∃ a c, v = .slice a 0 c := by
      have h := HR.out
      rcases h.2 with ⟨rfl, _⟩ | ⟨g, cap, cur, rfl, _⟩
      · exact ⟨_, _, rfl⟩
      · exact ⟨_, _, rfl⟩
    go_wp2
    go_ret
    exact labPost_of HB1.out (kids_of HOK.out (fun l => ⟨fun h => (by cases h), fun h => absurd h (HNO.out l)⟩) List.nodup_nil) (Nat.zero_le _) HR.out HB.out
  | some m =>
    obtain ⟨D, hown, hD⟩ := hT.kidsS p hp m hm
    have hsz2 : Maps.size D ≤ 549755813888 := Nat.le_trans hown.size_le hsz
    have hS := callsIn_wide.1 (Try.slices_Sorted_keys_36_37 m s.ks.length D ptrElem w hown (by unfold maxLen; omega) (by omega))
    rw [hm] at c0 hb1
    have HB1 := Lib.hid hb1; have HOK := Lib.hid hT.ok; have HS := Lib.hid hS; have HOW := Lib.hid hown; have HD := Lib.hid hD
    clear hb1 hT hnd hm hS hown hD
    generalize s.be p = nb at *
    go_enter Try.func25, Try.ntmps25
    go_wp2_with fail
    refine (callsIn_wide.1 (Try.maps_Keys_37 _ _)).mono ?_
    rintro e w1 ⟨rfl, rfl⟩
    go_wp2_with fail
    refine HS.out.mono ?_
    rintro e w2 ⟨v, ss, rfl, hss, hrow, hnil, hb⟩
    have HR := Lib.hid hrow; have HB := Lib.hid hb; have HSS := Lib.hid hss
    clear hrow hnil hb hss
    obtain ⟨a, n, c, rfl⟩ : ∃ a n c, v = .slice a n c := by
      have h := HR.out
      rcases h.2 with ⟨rfl, _⟩ | ⟨g, cap, cur, rfl, _⟩
      · exact ⟨_, _, _, rfl⟩
      · exact ⟨_, _, _, rfl⟩
    go_wp2
    go_ret
    exact labPost_of HB1.out (kids_sorted HOW.out HD.out HOK.out HSS.out) (by rw [HSS.out.length_eq, (strKeys_ok HOW.out).2.2]; exact HOW.out.size_le) HR.out HB.out
end
end Go.Proofs.Ytbnkecmhmcligaa

/-
  The names of an argument of type []name.Name are of a size that memory holds.
-/
namespace Go.Proofs.Ytbnkecmhmcligaa
set_option linter.unusedVariables false
set_option linter.unusedSimpArgs false
open Go Go.ChangeShapes Go.WideShapes Go.ChangeAt Go.RowKit Go.Shelf
set_option maxRecDepth 20000
variable {H : Type} {enc : TypeId × Value → H} {W : World}
theorem weights_all {P : Program} {e : TypeId} : ∀ {l : List (DataW H)} {d : DataW H}, d ∈ l → ∀ n ∈ d.weights P e, n ∈ DataW.weightsAll P e l
  | x :: r, d, h, n, hn => by
    simp only [DataW.weightsAll, List.mem_append]
    rcases List.mem_cons.1 h with rfl | h
    · exact .inl hn
    · exact .inr (weights_all h n hn)
theorem nmso_big {fuel : Nat} {v : Value} {x : DataW H × List MemPlace} (hf : DataW.trod enc Try.prog W 0 (fun _ => true) true fuel 28 [v] = some x) (hs : ∀ n ∈ x.1.weights Try.prog 28, n ≤ reachBytes) : ∃ zs, NmArg W v zs ∧ NmBig zs := by
  rcases Go.ChangeShapes.open_strings Try.underlying28 Try.underlying9 (by kernel_rfl) hf with ⟨hcs, _⟩ | ⟨a, l, c, zs, hcs, _, hl, hm, hz, hx, hcell, hwz⟩
  · simp at hcs
    subst hcs
    exact ⟨[], nmArg_nil W, by simp [NmBig]⟩
  · simp at hcs
    subst hcs
    refine ⟨_, nmArg_row hl hm (by simpa using hz) hcell hwz, ?_⟩
    have hbo : Try.prog.bytesOf 9 = 16 := by kernel_rfl
    have hu : Try.prog.underlying 28 = some (.slice 9) := Try.underlying28
    rw [hx] at hs
    simp only [DataW.weights, hu, hbo] at hs
    have h1 := hs _ (List.mem_cons_self ..)
    have hr : reachBytes = 140737488351232 := rfl
    have hlen : ∀ s ∈ zs.take l, s.size ≤ 140737488351232 := fun s hm => by
      have h2 := hs s.size (List.mem_cons_of_mem _ (List.mem_append.2 (.inl (weights_all (d := .lit (.string s.data.toList)) (List.mem_map.2 ⟨s, hm, rfl⟩) _ (by simp [DataW.weights])))))
      omega
    refine ⟨?_, fun y hy => ?_⟩
    · simp only [Go.ChangeShapes.strs, List.length_map, List.length_take, List.length_drop] at h1 ⊢
      simp at hz
      omega
    · obtain ⟨s, hm, rfl⟩ := List.mem_map.1 hy
      have := hlen s hm
      simpa using this
theorem open_nmssB {fuel : Nat} {v : Value} {x : DataW H × List MemPlace} (hf : DataW.trod enc Try.prog W 0 (fun _ => true) true fuel 22 [v] = some x) (hs : ∀ n ∈ x.1.weights Try.prog 22, n ≤ reachBytes) : ∃ ns : List Nm, NmsArg W v ns ∧ ∀ n ∈ ns, NmBig n := by
  rcases Go.Deep.open_slice1 Try.underlying22 (by kernel_rfl) hf with ⟨hcs, _⟩ | ⟨a, len, cap, m, n, V, D, Pl, hcs, _, hl, hm, hmm, hx, hV⟩
  · simp at hcs
    subst hcs
    exact ⟨[], ⟨NmsAt.nil W, by simp⟩, by simp⟩
  · simp at hcs
    subst hcs
    simp only [if_true] at hmm
    subst hmm
    have hu : Try.prog.underlying 22 = some (.slice 28) := Try.underlying22
    rw [hx] at hs
    simp only [DataW.weights, hu] at hs
    obtain ⟨F, hF⟩ := Go.Deep.choose_lt (α := Nm) (p := fun i z => i < len → NmArg W (V i) z ∧ NmBig z) (n := len) (fun i hi => by
      obtain ⟨zs, h1, h2⟩ := nmso_big (hV i (by omega)).2 (fun n hn => hs n (List.mem_cons_of_mem _ (List.mem_append.2 (.inl (weights_all (d := D i) (List.mem_map.2 ⟨i, List.mem_range.2 hi, rfl⟩) _ hn)))))
      exact ⟨zs, fun _ => ⟨h1, h2⟩⟩)
    refine ⟨(List.range len).map F, ⟨⟨(List.range len).map V, slo_row V hl (fun i hi => (hV i hi).1), by simp, fun j hj => ?_⟩, ?_⟩, ?_⟩
    · simp only [List.length_map, List.length_range] at hj
      simpa using (hF j hj hj).1.1
    · intro n hn
      obtain ⟨i, hi, rfl⟩ := List.mem_map.1 hn
      exact (hF i (List.mem_range.1 hi) (List.mem_range.1 hi)).1.2
    · intro n hn
      obtain ⟨i, hi, rfl⟩ := List.mem_map.1 hn
      exact (hF i (List.mem_range.1 hi) (List.mem_range.1 hi)).2
end Go.Proofs.Ytbnkecmhmcligaa

