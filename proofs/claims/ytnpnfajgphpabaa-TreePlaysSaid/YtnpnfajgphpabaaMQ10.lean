/-
  The opening of an argument of type []name.Name.
-/
import Derived.Test.YtnpnfajgphpabaaMQ11
import Derived.Test.YtnpnfajgphpabaaMQ34
import Derived.ProofKit
import Derived.OpenShut
import Derived.ShutString
import Derived.ChangeArms
import Derived.ChangeSlices
import Derived.SliceStrings
import Derived.Deep.Slices
import Derived.Shelf.Vars
import Derived.Handed
import Derived.Test.YtnpnfajgphpabaaMQ15
namespace Go.Proofs.Ytnpnfajgphpabaa
set_option linter.unusedVariables false
set_option linter.unusedSimpArgs false
open Go Go.ChangeShapes Go.WideShapes Go.ChangeAt Go.RowKit Go.Shelf
set_option maxRecDepth 20000
def NmsArg (W : World) (v : Value) (ns : List Nm) : Prop := NmsAt W v ns ∧ ∀ n ∈ ns, n.length ≤ maxLen ∧ ∀ y ∈ n, y.length ≤ maxLen
theorem slo_row {W : World} {x : Addr} {l c : Nat} (f : Nat → Value) (hl : l ≤ c) (hcell : ∀ i, i < c → W.cell? (x.add i) = some (f i)) : SlAt W (.slice (some x) l c) ((List.range l).map f) := by
  refine ⟨some x, c, by simp, by simpa using hl, by simp, ?_⟩
  by_cases h0 : l = 0
  · subst h0; left; simp
  · right
    obtain ⟨b, off, spot⟩ := x
    have hspot : spot = none := by simpa [Addr.add] using World.cell?_spot (hcell 0 (by omega))
    subst hspot
    have hb : b < W.heap.size := by
      have h := hcell 0 (by omega)
      exact World.block_lt_of_cell? W _ (by simpa [Addr.add] using h : W.cell? ⟨b, off, none⟩ = some (f 0))
    refine ⟨b, off, rfl, hb, fun j hj => ?_⟩
    rw [List.length_map, List.length_range] at hj
    rw [← Go.WideShapes.add_plain, hcell j (by omega)]
    simp
variable {H : Type} {enc : TypeId × Value → H} {W : World}
theorem nmso_nm {t : TypeId} (ht : Try.prog.underlying t = some (.slice 9)) {fuel : Nat} {v : Value} {x : DataW H × List MemPlace} (hf : DataW.trod enc Try.prog W 0 (fun _ => true) true fuel t [v] = some x) : ∃ zs, NmArg W v zs := by
  rcases Go.ChangeShapes.open_strings ht Try.underlying9 (by kernel_rfl) hf with ⟨hcs, _⟩ | ⟨x, l, c, zs, hcs, _, hl, hm, hz, _, hcell, hwz⟩
  · simp at hcs
    subst hcs
    exact ⟨[], nmArg_nil W⟩
  · simp at hcs
    subst hcs
    exact ⟨_, nmArg_row hl hm (by simpa using hz) hcell hwz⟩
theorem open_nmss {fuel : Nat} {v : Value} {x : DataW H × List MemPlace} (hf : DataW.trod enc Try.prog W 0 (fun _ => true) true fuel 22 [v] = some x) : ∃ ns : List Nm, NmsArg W v ns := by
  rcases Go.Deep.open_slice1 Try.underlying22 (by kernel_rfl) hf with ⟨hcs, _⟩ | ⟨a, len, cap, m, n, V, D, Pl, hcs, _, hl, hm, hmm, _, hV⟩
  · simp at hcs
    subst hcs
    exact ⟨[], NmsAt.nil W, by simp⟩
  · simp at hcs
    subst hcs
    simp only [if_true] at hmm
    subst hmm
    obtain ⟨F, hF⟩ := Go.Deep.choose_lt (α := Nm) (p := fun i z => NmArg W (V i) z) (fun i hi => nmso_nm Try.underlying24 (hV i hi).2)
    refine ⟨(List.range len).map F, ⟨(List.range len).map V, slo_row V hl (fun i hi => (hV i hi).1), by simp, fun j hj => ?_⟩, ?_⟩
    · simp only [List.length_map, List.length_range] at hj
      simpa using (hF j (by omega)).1
    · intro n hn
      obtain ⟨i, hi, rfl⟩ := List.mem_map.1 hn
      exact (hF i (by have := List.mem_range.1 hi; omega)).2
/-- One of the names. -/
theorem NmsArg.get {v : Value} {ns : List Nm} (h : NmsArg W v ns) {j : Nat} (hj : j < ns.length) : ∃ (g off c : Nat) (a : Option Addr) (n c' : Nat), v = .slice (some ⟨g, off, none⟩) ns.length c ∧ g < W.heap.size ∧ W.cell? ⟨g, off + j, none⟩ = some (.slice a n c') ∧ NmArg W (.slice a n c') ns[j] := by
  obtain ⟨⟨vs, ⟨a, c, e, hc, _, hx⟩, hl, hn⟩, hlen⟩ := h
  rcases hx with hx | ⟨b, off, rfl, hb, hcell⟩
  · subst hx; simp at hl; omega
  · have hjv : j < vs.length := by omega
    obtain ⟨⟨a', c', e', _⟩, _⟩ := id (hn j hjv)
    refine ⟨b, off, c, a', _, c', by rw [e, hl], hb, by rw [hcell j hjv, e'], by rw [← e']; exact hn j hjv, hlen _ (List.getElem_mem hj)⟩
theorem NmsArg.len {v : Value} {ns : List Nm} (h : NmsArg W v ns) : ∃ a c, v = .slice a ns.length c := by
  obtain ⟨⟨vs, ⟨a, c, e, _⟩, hl, _⟩, _⟩ := h
  exact ⟨a, c, by rw [e, hl]⟩
theorem NmArg.below {W W' : World} {v : Value} {n : Nm} (h : NmArg W v n) (hb : Below W.heap.size W W') : NmArg W' v n := ⟨h.1.below hb, h.2⟩
end Go.Proofs.Ytnpnfajgphpabaa

/-
  The trees of string: a kid put into a name's map; a new tree.
-/
namespace Go.Proofs.Ytnpnfajgphpabaa
set_option linter.unusedVariables false
set_option linter.unusedSimpArgs false
open Go.RowKit Go.Shelf Go.Maps Go.WideMaps
set_option maxRecDepth 20000
theorem zeroPtr_s (w : World) : (zeroValue 76).run Try.prog w = .ok (.pointer none) w := by kernel_rfl
theorem mapSome_s (bm : Nat) (w : World) : (binOp .eql 71 (.map (some bm)) (.map none)).run Try.prog w = .ok (.bool false) w := by kernel_rfl
theorem mapNone_s (w : World) : (binOp .eql 71 (.map none) (.map none)).run Try.prog w = .ok (.bool true) w := by kernel_rfl
section
attribute [local go_sem] Oper.semAt_some
set_option maxRecDepth 100000 in
set_option maxHeartbeats 2000000 in
theorem node_add_s (b K : Nat) (cs : Array Value) (T : TypeId) (l : List UInt8) (mo : Option Nat) (N : Nat) (D : DataW Unit) (w : World) (hb : w.heap[b]? = some (.cells cs T)) (h0 : cs[0]? = some (.map mo))
    (hm : ∀ m, mo = some m → KidMap w m N D) (hn : mo = none → D = .map []) (hl : l.length ≤ 1048576) (hN : N ≤ 1099511627776) :
    Calls Try.prog 40 #[.pointer (some ⟨b, 0, none⟩), strV l, .pointer (some ⟨K, 0, none⟩)] w (AddPost b K cs T l mo N D w) := by
  have hkey := keyT l (by unfold maxLen; omega)
  have hmm := @run_makeMap Try.prog
  have q1 := mapSome_s; have q2 := mapNone_s
  have HB := Lib.hid hb
  have hc := kcell hb 0 _ h0
  have hf := kfrozen hb 0
  unfold strV at hkey ⊢
  cases mo with
  | some m =>
    have hown := hm m rfl
    have hbm : m ≠ b := by
      rintro rfl
      obtain ⟨es, c, h, _⟩ := hown
      rw [hb] at h; cases h
    have HOWN := Lib.hid hown; have HBM := Lib.hid hbm; have HC0 := Lib.hid h0
    clear hm hn hb h0 hown hbm
    go_enter Try.func40, Try.ntmps40
    go_wp2_with (at_mapUpdate; refine wpList_mapUpdate_own _ rfl _ _ _ 71 rfl 9 76 keyStrT Try.underlying71 _ m N D rfl HOWN.out (by unfold maxLen; omega) _ _ _ rfl rfl hkey _ [] (rfl : ptrElem _ = _) ?_; intro w1 hown1 hg1; have HO1 := Lib.hid hown1; have HG1 := Lib.hid hg1; clear hown1 hg1)
    go_end0
    refine ⟨⟨_, rfl⟩, m, .inl rfl, ?_, HO1.out, Chg.of_grown HG1.out (fun k e => .inl (.inr e))⟩
    rw [HG1.out.block b (kblock_lt HB.out) (by intro e; injection e with e; exact HBM.out e.symm), HB.out]
    congr 2
    exact (setIf_same HC0.out).symm
  | none =>
    have hD := hn rfl
    subst hD
    obtain ⟨W2, hW2⟩ : ∃ W2, (w.alloc (.map #[] 0)).setCell ⟨b, 0, none⟩ (.map (some w.heap.size)) = W2 := ⟨_, rfl⟩
    have hlt := kblock_lt hb
    have hb1 : (w.alloc (.map #[] 0)).heap[b]? = some (.cells cs T) := (Below.heap_alloc _ _ _ hlt).trans hb
    have hown : KidMap W2 w.heap.size N (.map []) := by
      rw [← hW2]
      exact ((World.ownsMap_made w _ _ _).setCell (a := ⟨b, 0, none⟩) (by show _ ≠ b; omega) _).mono (Nat.zero_le _)
    have hb2 : W2.heap[b]? = some (.cells (cs.setIfInBounds 0 (.map (some w.heap.size))) T) := by rw [← hW2]; exact kset hb1 0 _
    have hg2 : Chg (fun k => k = b ∨ none = some k) w W2 := by rw [← hW2]; exact (Chg.of_below ((Below.refl _ w).alloc (Nat.le_refl _) _)).set b 0 _ (.inl (.inl rfl))
    have hc2 := kcell hb2 0 (.map (some w.heap.size)) (by
      have := (Array.getElem?_eq_some_iff.1 h0).1
      simp [this])
    have hcA := kcell hb1 0 _ h0; have hfA := kfrozen hb1 0
    have hz2 : w.heap.size < W2.heap.size := hown.lt
    have HOWN := Lib.hid hown; have HB2 := Lib.hid hb2; have HG2 := Lib.hid hg2; have HLT := Lib.hid hlt; have HZ2 := Lib.hid hz2
    clear hm hn hb h0 hown hb1 hb2 hg2 hlt hz2
    go_enter Try.func40, Try.ntmps40
    go_wp2_with (at_mapUpdate; refine wpList_mapUpdate_own _ rfl _ _ _ 71 rfl 9 76 keyStrT Try.underlying71 _ w.heap.size N (.map []) rfl HOWN.out (by unfold maxLen; omega) _ _ _ rfl rfl hkey _ [] (rfl : ptrElem _ = _) ?_; intro w1 hown1 hg1; have HO1 := Lib.hid hown1; have HG1 := Lib.hid hg1; clear hown1 hg1)
    go_end0
    refine ⟨⟨_, rfl⟩, w.heap.size, .inr ⟨rfl, rfl⟩, ?_, HO1.out, HG2.out.trans (Chg.of_grown HG1.out (fun k e => .inl e) : Chg (fun k => some w.heap.size = some k) _ _) (fun i hi e => by injection e with e; omega)⟩
    rw [HG1.out.block b (by have := kblock_lt HB2.out; omega) (by intro e; injection e with e; have := HLT.out; omega), HB2.out]
end
end Go.Proofs.Ytnpnfajgphpabaa

