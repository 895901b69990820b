/-
  What a slice n[k:] of a name is, in its three forms.
-/
import Derived.Test.YtnpnfajgphpabaaMQ21
import Derived.Test.YtnpnfajgphpabaaMQ24
import Derived.Test.YtnpnfajgphpabaaMQ15
namespace Go.Proofs.Ytnpnfajgphpabaa
set_option linter.unusedVariables false
set_option linter.unusedSimpArgs false
open Go.RowKit Go.Shelf
set_option maxRecDepth 20000
theorem nmc_len {W : World} {a : Option Addr} {n c : Nat} {xs : Nm} (h : NmAt W (.slice a n c) xs) : n = xs.length := by
  obtain ⟨a', c', e, -⟩ := h.1
  injection e
theorem nmc_cap {W : World} {a : Option Addr} {n c : Nat} {xs : Nm} (h : NmAt W (.slice a n c) xs) : n ≤ c := by
  obtain ⟨a', n', c', e, h1, _⟩ := h.2
  cases e; exact h1
theorem nm_cut3 {W : World} {a : Option Addr} {q c : Nat} {n : Nm} (h : NmAt W (.slice a q c) n) {k : Nat} (hk : k ≤ q) :
    (c = k ∧ q = k ∧ NmAt W (.slice a 0 0) (n.drop k)) ∨ (¬ c = k ∧ q = 0 ∧ k = 0 ∧ (∃ ad, a = some ad) ∧ NmAt W (.slice a 0 c) (n.drop k)) ∨ (¬ c = k ∧ 0 < q ∧ ∃ g off, a = some ⟨g, off, none⟩ ∧ NmAt W (.slice (some ⟨g, off + k, none⟩) (q - k) (c - k)) (n.drop k)) := by
  have hq := nmc_len h
  have hc := nmc_cap h
  subst hq
  have h1 := h.2
  obtain ⟨a1, n1, c1, e1, hc1, hn1⟩ := h1
  injection e1 with ea en ec
  subst ea en ec
  by_cases e : c = k
  · left
    have hqk : n.length = k := by omega
    have hd : n.drop k = [] := List.drop_eq_nil_of_le (by omega)
    exact ⟨e, hqk, ⟨⟨a, 0, by rw [hd]; rfl, .inl hd⟩, ⟨a, _, _, rfl, Nat.le_refl _, fun _ => rfl⟩⟩⟩
  · right
    by_cases hz : n.length = 0
    · left
      have hk0 : k = 0 := by omega
      have hn0 : n = [] := List.eq_nil_of_length_eq_zero hz
      subst hn0
      refine ⟨e, rfl, hk0, ?_, ?_⟩
      · cases a with
        | none => exact absurd (hn1 rfl) (by omega)
        | some ad => exact ⟨ad, rfl⟩
      · rw [hk0]; exact h
    · right
      refine ⟨e, by omega, ?_⟩
      rcases nm_drop h hk with ⟨_, h3, _⟩ | ⟨_, _, h3, _⟩ | ⟨g, off, e3, h3⟩
      · rw [h3] at hz; exact absurd rfl hz
      · rw [h3] at hz; exact absurd rfl hz
      · rw [if_neg e] at h3
        exact ⟨g, off, e3, h3⟩
end Go.Proofs.Ytnpnfajgphpabaa

/-
  The trees of bool: a kid put into a name's map; a new tree.
-/
namespace Go.Proofs.Ytnpnfajgphpabaa
set_option linter.unusedVariables false
set_option linter.unusedSimpArgs false
open Go.RowKit Go.Shelf Go.Maps Go.WideMaps
set_option maxRecDepth 20000
theorem zeroPtr_b (w : World) : (zeroValue 85).run Try.prog w = .ok (.pointer none) w := by kernel_rfl
theorem mapSome_b (bm : Nat) (w : World) : (binOp .eql 80 (.map (some bm)) (.map none)).run Try.prog w = .ok (.bool false) w := by kernel_rfl
theorem mapNone_b (w : World) : (binOp .eql 80 (.map none) (.map none)).run Try.prog w = .ok (.bool true) w := by kernel_rfl
section
attribute [local go_sem] Oper.semAt_some
set_option maxRecDepth 100000 in
set_option maxHeartbeats 2000000 in
theorem node_add_b (b K : Nat) (cs : Array Value) (T : TypeId) (l : List UInt8) (mo : Option Nat) (N : Nat) (D : DataW Unit) (w : World) (hb : w.heap[b]? = some (.cells cs T)) (h0 : cs[0]? = some (.map mo))
    (hm : ∀ m, mo = some m → KidMap w m N D) (hn : mo = none → D = .map []) (hl : l.length ≤ 1048576) (hN : N ≤ 1099511627776) :
    Calls Try.prog 42 #[.pointer (some ⟨b, 0, none⟩), strV l, .pointer (some ⟨K, 0, none⟩)] w (AddPost b K cs T l mo N D w) := by
  have hkey := keyT l (by unfold maxLen; omega)
  have hmm := @run_makeMap Try.prog
  have q1 := mapSome_b; have q2 := mapNone_b
  have HB := Lib.hid hb
  have hc := kcell hb 0 _ h0
  have hf := kfrozen hb 0
  unfold strV at hkey ⊢
  cases mo with
  | some m =>
    have hown := hm m rfl
    have hbm : m ≠ b := by
      rintro rfl
      obtain ⟨es, c, h, _⟩ := hown
      rw [hb] at h; cases h
    have HOWN := Lib.hid hown; have HBM := Lib.hid hbm; have HC0 := Lib.hid h0
    clear hm hn hb h0 hown hbm
    go_enter Try.func42, Try.ntmps42
    go_wp2_with (at_mapUpdate; refine wpList_mapUpdate_own _ rfl _ _ _ 80 rfl 9 85 keyStrT Try.underlying80 _ m N D rfl HOWN.out (by unfold maxLen; omega) _ _ _ rfl rfl hkey _ [] (rfl : ptrElem _ = _) ?_; intro w1 hown1 hg1; have HO1 := Lib.hid hown1; have HG1 := Lib.hid hg1; clear hown1 hg1)
    go_end0
    refine ⟨⟨_, rfl⟩, m, .inl rfl, ?_, HO1.out, Chg.of_grown HG1.out (fun k e => .inl (.inr e))⟩
    rw [HG1.out.block b (kblock_lt HB.out) (by intro e; injection e with e; exact HBM.out e.symm), HB.out]
    congr 2
    exact (setIf_same HC0.out).symm
  | none =>
    have hD := hn rfl
    subst hD
    obtain ⟨W2, hW2⟩ : ∃ W2, (w.alloc (.map #[] 0)).setCell ⟨b, 0, none⟩ (.map (some w.heap.size)) = W2 := ⟨_, rfl⟩
    have hlt := kblock_lt hb
    have hb1 : (w.alloc (.map #[] 0)).heap[b]? = some (.cells cs T) := (Below.heap_alloc _ _ _ hlt).trans hb
    have hown : KidMap W2 w.heap.size N (.map []) := by
      rw [← hW2]
      exact ((World.ownsMap_made w _ _ _).setCell (a := ⟨b, 0, none⟩) (by show _ ≠ b; omega) _).mono (Nat.zero_le _)
    have hb2 : W2.heap[b]? = some (.cells (cs.setIfInBounds 0 (.map (some w.heap.size))) T) := by rw [← hW2]; exact kset hb1 0 _
    have hg2 : Chg (fun k => k = b ∨ none = some k) w W2 := by rw [← hW2]; exact (Chg.of_below ((Below.refl _ w).alloc (Nat.le_refl _) _)).set b 0 _ (.inl (.inl rfl))
    have hc2 := kcell hb2 0 (.map (some w.heap.size)) (by
      have := (Array.getElem?_eq_some_iff.1 h0).1
      simp [this])
    have hcA := kcell hb1 0 _ h0; have hfA := kfrozen hb1 0
    have hz2 : w.heap.size < W2.heap.size := hown.lt
    have HOWN := Lib.hid hown; have HB2 := Lib.hid hb2; have HG2 := Lib.hid hg2; have HLT := Lib.hid hlt; have HZ2 := Lib.hid hz2
    clear hm hn hb h0 hown hb1 hb2 hg2 hlt hz2
    go_enter Try.func42, Try.ntmps42
    go_wp2_with (at_mapUpdate; refine wpList_mapUpdate_own _ rfl _ _ _ 80 rfl 9 85 keyStrT Try.underlying80 _ w.heap.size N (.map []) rfl HOWN.out (by unfold maxLen; omega) _ _ _ rfl rfl hkey _ [] (rfl : ptrElem _ = _) ?_; intro w1 hown1 hg1; have HO1 := Lib.hid hown1; have HG1 := Lib.hid hg1; clear hown1 hg1)
    go_end0
    refine ⟨⟨_, rfl⟩, w.heap.size, .inr ⟨rfl, rfl⟩, ?_, HO1.out, HG2.out.trans (Chg.of_grown HG1.out (fun k e => .inl e) : Chg (fun k => some w.heap.size = some k) _ _) (fun i hi e => by injection e with e; omega)⟩
    rw [HG1.out.block b (by have := kblock_lt HB2.out; omega) (by intro e; injection e with e; have := HLT.out; omega), HB2.out]
end
end Go.Proofs.Ytnpnfajgphpabaa

