/-
  A store into a row of the call's own; a row that a literal has laid.
-/
import Derived.Test.YtbnkecmhmcligaaDoorMQ38
import Derived.Laws.Rows
import Derived.SliceStrings
import Derived.OpenShut
namespace Go.Proofs.YtbnkecmhmcligaaDoor
set_option linter.unusedVariables false
set_option linter.unusedSimpArgs false
set_option maxRecDepth 20000
open Go.RowKit Go.Shelf
section
variable {α : Type} {T : TypeId} {enc : α → Value}
theorem OwnG.set {W : World} {base : Nat} {g n c : Nat} {xs : List α} (h : OwnG T enc W base (.slice (some ⟨g, 0, none⟩) n c) xs) (j : Nat) (y : α) :
    OwnG T enc (W.setCell ⟨g, j, none⟩ (enc y)) base (.slice (some ⟨g, 0, none⟩) n c) (xs.set j y) := by
  obtain ⟨h1, h2⟩ := h
  refine ⟨by simp, ?_⟩
  rcases h2 with ⟨e, _⟩ | ⟨g', cap, cur, e, hb, hg, hc, hm, hsz, htk⟩
  · cases e
  · right
    simp only [Value.slice.injEq, Option.some.injEq, Addr.mk.injEq, and_true] at e
    obtain ⟨rfl, rfl, rfl⟩ := e
    refine ⟨g, c, cur.setIfInBounds j (enc y), by simp, hb, heap_setCell_same W g j cur T (enc y) hg, by simpa using hc, hm, by simpa using hsz, ?_⟩
    rw [List.length_set, Array.toList_setIfInBounds, List.take_set, htk, List.map_set]
theorem OwnG.cell_at {W : World} {base : Nat} {g n c : Nat} {xs : List α} (h : OwnG T enc W base (.slice (some ⟨g, 0, none⟩) n c) xs) (j : Nat) (hj : j < xs.length) :
    W.cell? ⟨g, j, none⟩ = some (enc xs[j]) ∧ W.frozen? ⟨g, j, none⟩ = false := by
  obtain ⟨g', e, _, _, hc⟩ := h.cells (by intro e; subst e; simp at hj)
  cases e
  refine ⟨hc j hj, ?_⟩
  rcases h.2 with ⟨e, _⟩ | ⟨g', cap, cur, e, hb, hg, _⟩
  · cases e
  · cases e
    unfold World.frozen?
    rw [hg]; simp
theorem OwnG.block_ge {W : World} {base : Nat} {g n c : Nat} {xs : List α} (h : OwnG T enc W base (.slice (some ⟨g, 0, none⟩) n c) xs) : base ≤ g := h.base_le g rfl
theorem OwnG.lit (W : World) (base : Nat) (hb : base ≤ W.heap.size) (ys : List α) (hm : ys.length ≤ maxLen) :
    OwnG T enc (W.alloc (.cells (ys.map enc).toArray T)) base (.slice (some ⟨W.heap.size, 0, none⟩) ys.length ys.length) ys := by
  refine ⟨by simp, .inr ⟨W.heap.size, ys.length, (ys.map enc).toArray, rfl, hb, World.alloc_heap_new W _, Nat.le_refl _, hm, by simp, ?_⟩⟩
  simp only [Nat.mul_one]
  exact List.take_of_length_le (by simp)
end
theorem OwnG.len_le {α : Type} {T : TypeId} {enc : α → Value} {W : World} {base : Nat} {v : Value} {xs : List α} (h : OwnG T enc W base v xs) : xs.length ≤ maxLen := by
  rcases h.2 with e | ⟨g', cap, cur, e, hb, hg, hc, hm, _⟩
  · have := e.2; simp at this; rw [this]; exact Nat.zero_le _
  · omega

end Go.Proofs.YtbnkecmhmcligaaDoor

/-
  Slices of strings that are read: in memory that came in, or that a call has made.
-/
namespace Go.Proofs.YtbnkecmhmcligaaDoor
set_option linter.unusedVariables false
set_option linter.unusedSimpArgs false
set_option maxRecDepth 20000
open Go.RowKit Go.Shelf

/-- The slice value v reads as just these strings. -/
def StrsAt (W : World) (v : Value) (xs : List (List UInt8)) : Prop :=
  ∃ a c, v = .slice a xs.length c ∧ (xs = [] ∨ ∃ b off, a = some ⟨b, off, none⟩ ∧ b < W.heap.size ∧ ∀ j (hj : j < xs.length), W.cell? ⟨b, off + j, none⟩ = some (strV xs[j]))
theorem StrsAt.below {W W' : World} {v : Value} {xs : List (List UInt8)} (h : StrsAt W v xs) (hb : Below W.heap.size W W') : StrsAt W' v xs := by
  obtain ⟨a, c, e, h⟩ := h
  refine ⟨a, c, e, ?_⟩
  rcases h with h | ⟨b, off, ea, hlt, hc⟩
  · exact .inl h
  · exact .inr ⟨b, off, ea, Nat.lt_of_lt_of_le hlt hb.size, fun j hj => (hb.cell (p := ⟨b, off + j, none⟩) hlt).trans (hc j hj)⟩
theorem StrsAt.of_own {W : World} {base : Nat} {v : Value} {xs : List (List UInt8)} (h : OwnG 9 strV W base v xs) : StrsAt W v xs := by
  obtain ⟨a, c, rfl⟩ := h.shape
  refine ⟨a, c, rfl, ?_⟩
  by_cases hne : xs = []
  · exact .inl hne
  · obtain ⟨g, rfl, _, hlt, hc⟩ := h.cells hne
    exact .inr ⟨g, 0, rfl, hlt, fun j hj => by rw [Nat.zero_add]; exact hc j hj⟩
/-- An argument of a law. -/
def StrsArg (W : World) (v : Value) (xs : List (List UInt8)) : Prop := StrsAt W v xs ∧ xs.length ≤ maxLen ∧ ∀ x ∈ xs, x.length ≤ maxLen

theorem strsArg_nil (W : World) : StrsArg W (.slice none 0 0) [] := ⟨⟨none, 0, rfl, .inl rfl⟩, Nat.zero_le _, by simp⟩
theorem strsArg_row {W : World} {x : Addr} {l c : Nat} {zs : List ByteArray} (hl : l ≤ c) (hm : c ≤ maxLen) (hz : zs.length = c)
    (hcell : ∀ i, i < zs.length → W.cell? (x.add i) = some (.string (zs.getD i ByteArray.empty))) (hws : ∀ s ∈ zs, s.size ≤ maxLen) :
    StrsArg W (.slice (some x) l c) ((zs.take l).map (·.data.toList)) := by
  have hlen : ((zs.take l).map (·.data.toList)).length = l := by simp; omega
  refine ⟨⟨some x, c, by rw [hlen], ?_⟩, by omega, ?_⟩
  · by_cases h0 : l = 0
    · subst h0; left; simp
    · right
      obtain ⟨b, off, spot⟩ := x
      have hspot : spot = none := by simpa [Addr.add] using World.cell?_spot (hcell 0 (by omega))
      subst hspot
      have hb : b < W.heap.size := by
        have h := hcell 0 (by omega)
        simp only [Addr.add, if_true] at h
        unfold World.cell? at h
        rcases Nat.lt_or_ge b W.heap.size with h' | h'
        · exact h'
        · rw [Array.getElem?_eq_none h'] at h; simp at h
      refine ⟨b, off, rfl, hb, fun j hj => ?_⟩
      rw [← Go.WideShapes.add_plain, hcell j (by omega)]
      have hj2 : j < zs.length := by omega
      simp [List.getD, hj2, strV]
  · intro y hy
    obtain ⟨s, hs, rfl⟩ := List.mem_map.1 hy
    exact hws s (List.mem_of_mem_take hs)

end Go.Proofs.YtbnkecmhmcligaaDoor

