import Derived.Test.YtbnkecmhmcligaaDoorRepL0
import Derived.Test.YtbnkecmhmcligaaDoorMQ13
import Derived.ProofKit
import Derived.OpenShut
import Derived.ShutString
import Derived.ChangeArms
import Derived.ChangeSlices
import Derived.SliceStrings
import Derived.Deep.Slices
import Derived.Shelf.Vars
import Derived.Handed
/-
  The opening of arguments that are rows of faults, of flaws, of edges, of findings.
-/
namespace Go.Proofs.YtbnkecmhmcligaaDoor
open Go Go.ChangeShapes Go.WideShapes Go.ChangeAt Go.RowKit Go.Shelf
set_option maxRecDepth 20000
set_option linter.unusedVariables false
set_option linter.unusedSimpArgs false
variable {H : Type} {enc : TypeId × Value → H} {W : World}
def NmMax (n : Nm) : Prop := n.length ≤ maxLen ∧ ∀ x ∈ n, x.length ≤ maxLen
/-- A fault's cells, where it lies in a row. -/
def FvAt (W : World) (cs : List Value) (f : Ft) : Prop := cs = [strV f.path, .int .i64 f.line, .int .i64 f.err]
theorem FvAt.len (W : World) (cs : List Value) (f : Ft) (h : FvAt W cs f) : cs.length = 3 := by unfold FvAt at h; rw [h]; rfl
theorem flatten_atR (k : Nat) (k0 : 0 < k) : ∀ (l : List (List Value)), (∀ cs ∈ l, cs.length = k) → ∀ (t : Nat) (u : Value), l.flatten[t]? = some u → ∃ h : t / k < l.length, (l[t / k])[t % k]? = some u
  | [], _, t, u, h => by simp at h
  | x :: r, hk, t, u, h => by
    have hx := hk x (by simp)
    rw [List.flatten_cons] at h
    by_cases ht : t < k
    · rw [List.getElem?_append_left (by omega)] at h
      have e0 : t / k = 0 := Nat.div_eq_of_lt ht
      have e1 : t % k = t := Nat.mod_eq_of_lt ht
      refine ⟨by rw [e0]; simp, ?_⟩
      simp only [e0, e1, List.getElem_cons_zero]
      exact h
    · rw [List.getElem?_append_right (by omega), hx] at h
      obtain ⟨h1, h2⟩ := flatten_atR k k0 r (fun cs hc => hk cs (by simp [hc])) (t - k) u h
      have e0 : t / k = (t - k) / k + 1 := by
        rw [Nat.div_eq_sub_div k0 (by omega)]
      have e1 : t % k = (t - k) % k := by
        rw [Nat.mod_eq_sub_mod (by omega)]
      refine ⟨by rw [e0]; simpa using h1, ?_⟩
      simp only [e0, e1, List.getElem_cons_succ]
      exact h2
theorem open_nmR {fuel : Nat} {v : Value} {x : DataW H × List MemPlace} (hf : DataW.trod enc Tryd.prog W 0 (fun _ => true) true fuel 39 [v] = some x) : ∃ zs, NmArg W v zs := by
  rcases Go.ChangeShapes.open_strings Tryd.underlying39 Tryd.underlying9 (by kernel_rfl) hf with ⟨hcs, _⟩ | ⟨x, l, c, zs, hcs, _, hl, hm, hz, _, hcell, hwz⟩
  · simp at hcs
    subst hcs
    exact ⟨[], nmArg_nil W⟩
  · simp at hcs
    subst hcs
    exact ⟨_, nmArg_row hl hm (by simpa using hz) hcell hwz⟩
theorem open_intsR {fuel : Nat} {v : Value} {x : DataW H × List MemPlace} (hf : DataW.trod enc Tryd.prog W 0 (fun _ => true) true fuel 42 [v] = some x) : ∃ ns : List Int, SlAt W v (ns.map fun p => .int .i64 p) := by
  rcases open_ints Tryd.underlying42 Tryd.underlying3 (by kernel_rfl) hf with ⟨hcs, _⟩ | ⟨a, l, c, zs, hcs, _, hl, hm, hz, _, hcell, hw⟩
  · simp at hcs
    subst hcs
    exact ⟨[], ⟨none, 0, rfl, Nat.le_refl _, fun _ => rfl, .inl rfl⟩⟩
  · simp at hcs
    subst hcs
    have hz' : zs.length = c := by simpa using hz
    refine ⟨zs.take l, some a, c, by rw [List.length_map, List.length_take]; congr 1; omega, by rw [List.length_map, List.length_take]; omega, (fun e => by cases e), ?_⟩
    by_cases h0 : l = 0
    · subst h0; left; simp
    · right
      obtain ⟨b, off, spot⟩ := a
      have hspot : spot = none := by simpa [Addr.add] using World.cell?_spot (hcell 0 (by omega))
      subst hspot
      have hb : b < W.heap.size := by
        have h := hcell 0 (by omega)
        exact World.block_lt_of_cell? W _ (by simpa [Addr.add] using h : W.cell? ⟨b, off, none⟩ = some _)
      refine ⟨b, off, rfl, hb, fun j hj => ?_⟩
      rw [List.length_map, List.length_take] at hj
      have hj2 : j < zs.length := by omega
      rw [← Go.WideShapes.add_plain, hcell j hj2]
      simp [List.getD, hj2]
theorem cellsR : Tryd.prog.cellsOf 3 = 1 ∧ Tryd.prog.cellsOf 39 = 1 ∧ Tryd.prog.cellsOf 9 = 1 ∧ Tryd.prog.cellsOf 42 = 1 ∧ Tryd.prog.cellsOf 27 = 1 ∧ Tryd.prog.cellsOf 32 = 3 ∧ Tryd.prog.cellsOf 41 = 3 ∧ Tryd.prog.cellsOf 47 = 5 ∧ Tryd.prog.cellsOf 44 = 4 :=
  ⟨by kernel_rfl, by kernel_rfl, by kernel_rfl, by kernel_rfl, by kernel_rfl, by kernel_rfl, by kernel_rfl, by kernel_rfl, by kernel_rfl⟩
theorem open_fault {fuel : Nat} {cs : List Value} {x : DataW H × List MemPlace} (hf : DataW.trod enc Tryd.prog W 0 (fun _ => true) true fuel 32 cs = some x) : ∃ f, FvAt W cs f := by
  obtain ⟨k1, k2, k3, k4, k5, k6, k7, k8, k9⟩ := cellsR
  obtain ⟨xs, n, _, _, hl, hx, hfd⟩ := DataW.trod_struct Tryd.underlying32 hf
  rw [k6] at hl
  match cs, hl with
  | [c0, c1, c2], _ =>
  match xs, hx with
  | [y0, y1, y2], _ =>
  have h0 : DataW.trod enc Tryd.prog W 0 (fun _ => true) true n 9 (List.take (Tryd.prog.cellsOf 9) (List.drop 0 [c0, c1, c2])) = some y0 := hfd 0 _ rfl
  rw [k3] at h0
  replace h0 : DataW.trod enc Tryd.prog W 0 (fun _ => true) true n 9 [c0] = some y0 := h0
  have h1 : DataW.trod enc Tryd.prog W 0 (fun _ => true) true n 3 (List.take (Tryd.prog.cellsOf 3) (List.drop 1 [c0, c1, c2])) = some y1 := hfd 1 _ rfl
  rw [k1] at h1
  replace h1 : DataW.trod enc Tryd.prog W 0 (fun _ => true) true n 3 [c1] = some y1 := h1
  have h2 : DataW.trod enc Tryd.prog W 0 (fun _ => true) true n 27 (List.take (Tryd.prog.cellsOf 27) (List.drop 2 [c0, c1, c2])) = some y2 := hfd 2 _ rfl
  rw [k5] at h2
  replace h2 : DataW.trod enc Tryd.prog W 0 (fun _ => true) true n 27 [c2] = some y2 := h2
  obtain ⟨a, e0, _, w0⟩ := DataW.trod_string Tryd.underlying9 h0
  obtain ⟨b, e1, _, w1⟩ := DataW.trod_int Tryd.underlying3 h1
  obtain ⟨c, e2, _, w2⟩ := DataW.trod_int Tryd.underlying27 h2
  simp at e0 e1 e2
  subst e0 e1 e2
  exact ⟨⟨a.data.toList, b, c⟩, by unfold FvAt; rw [strV_of]⟩
theorem open_flaw {fuel : Nat} {cs : List Value} {x : DataW H × List MemPlace} (hf : DataW.trod enc Tryd.prog W 0 (fun _ => true) true fuel 41 cs = some x) : ∃ f, FwAt W cs f ∧ NmMax f.owner := by
  obtain ⟨k1, k2, k3, k4, k5, k6, k7, k8, k9⟩ := cellsR
  obtain ⟨xs, n, _, _, hl, hx, hfd⟩ := DataW.trod_struct Tryd.underlying41 hf
  rw [k7] at hl
  match cs, hl with
  | [c0, c1, c2], _ =>
  match xs, hx with
  | [y0, y1, y2], _ =>
  have h0 : DataW.trod enc Tryd.prog W 0 (fun _ => true) true n 3 (List.take (Tryd.prog.cellsOf 3) (List.drop 0 [c0, c1, c2])) = some y0 := hfd 0 _ rfl
  rw [k1] at h0
  replace h0 : DataW.trod enc Tryd.prog W 0 (fun _ => true) true n 3 [c0] = some y0 := h0
  have h1 : DataW.trod enc Tryd.prog W 0 (fun _ => true) true n 39 (List.take (Tryd.prog.cellsOf 39) (List.drop 1 [c0, c1, c2])) = some y1 := hfd 1 _ rfl
  rw [k2] at h1
  replace h1 : DataW.trod enc Tryd.prog W 0 (fun _ => true) true n 39 [c1] = some y1 := h1
  have h2 : DataW.trod enc Tryd.prog W 0 (fun _ => true) true n 3 (List.take (Tryd.prog.cellsOf 3) (List.drop 2 [c0, c1, c2])) = some y2 := hfd 2 _ rfl
  rw [k1] at h2
  replace h2 : DataW.trod enc Tryd.prog W 0 (fun _ => true) true n 3 [c2] = some y2 := h2
  obtain ⟨a, e0, _, w0⟩ := DataW.trod_int Tryd.underlying3 h0
  obtain ⟨o, o1⟩ := open_nmR h1
  obtain ⟨c, e2, _, w2⟩ := DataW.trod_int Tryd.underlying3 h2
  simp at e0 e2
  subst e0 e2
  exact ⟨⟨a, o, c⟩, ⟨c1, rfl, o1.1⟩, o1.2⟩
theorem open_edge {fuel : Nat} {cs : List Value} {x : DataW H × List MemPlace} (hf : DataW.trod enc Tryd.prog W 0 (fun _ => true) true fuel 47 cs = some x) : ∃ f, EdAt W cs f ∧ NmMax f.par ∧ NmMax f.chi ∧ NmMax f.host := by
  obtain ⟨k1, k2, k3, k4, k5, k6, k7, k8, k9⟩ := cellsR
  obtain ⟨xs, n, _, _, hl, hx, hfd⟩ := DataW.trod_struct Tryd.underlying47 hf
  rw [k8] at hl
  match cs, hl with
  | [c0, c1, c2, c3, c4], _ =>
  match xs, hx with
  | [y0, y1, y2, y3, y4], _ =>
  have h0 : DataW.trod enc Tryd.prog W 0 (fun _ => true) true n 3 (List.take (Tryd.prog.cellsOf 3) (List.drop 0 [c0, c1, c2, c3, c4])) = some y0 := hfd 0 _ rfl
  rw [k1] at h0
  replace h0 : DataW.trod enc Tryd.prog W 0 (fun _ => true) true n 3 [c0] = some y0 := h0
  have h1 : DataW.trod enc Tryd.prog W 0 (fun _ => true) true n 39 (List.take (Tryd.prog.cellsOf 39) (List.drop 1 [c0, c1, c2, c3, c4])) = some y1 := hfd 1 _ rfl
  rw [k2] at h1
  replace h1 : DataW.trod enc Tryd.prog W 0 (fun _ => true) true n 39 [c1] = some y1 := h1
  have h2 : DataW.trod enc Tryd.prog W 0 (fun _ => true) true n 39 (List.take (Tryd.prog.cellsOf 39) (List.drop 2 [c0, c1, c2, c3, c4])) = some y2 := hfd 2 _ rfl
  rw [k2] at h2
  replace h2 : DataW.trod enc Tryd.prog W 0 (fun _ => true) true n 39 [c2] = some y2 := h2
  have h3 : DataW.trod enc Tryd.prog W 0 (fun _ => true) true n 39 (List.take (Tryd.prog.cellsOf 39) (List.drop 3 [c0, c1, c2, c3, c4])) = some y3 := hfd 3 _ rfl
  rw [k2] at h3
  replace h3 : DataW.trod enc Tryd.prog W 0 (fun _ => true) true n 39 [c3] = some y3 := h3
  have h4 : DataW.trod enc Tryd.prog W 0 (fun _ => true) true n 3 (List.take (Tryd.prog.cellsOf 3) (List.drop 4 [c0, c1, c2, c3, c4])) = some y4 := hfd 4 _ rfl
  rw [k1] at h4
  replace h4 : DataW.trod enc Tryd.prog W 0 (fun _ => true) true n 3 [c4] = some y4 := h4
  obtain ⟨a, e0, _, w0⟩ := DataW.trod_int Tryd.underlying3 h0
  obtain ⟨o, o1⟩ := open_nmR h1
  obtain ⟨p, p1⟩ := open_nmR h2
  obtain ⟨q, q1⟩ := open_nmR h3
  obtain ⟨c, e4, _, w4⟩ := DataW.trod_int Tryd.underlying3 h4
  simp at e0 e4
  subst e0 e4
  exact ⟨⟨a, o, p, q, c⟩, ⟨c1, c2, c3, rfl, o1.1, p1.1, q1.1⟩, o1.2, p1.2, q1.2⟩
theorem open_seen {fuel : Nat} {cs : List Value} {x : DataW H × List MemPlace} (hf : DataW.trod enc Tryd.prog W 0 (fun _ => true) true fuel 44 cs = some x) : ∃ f, SnAt W cs f ∧ NmMax f.nm := by
  obtain ⟨k1, k2, k3, k4, k5, k6, k7, k8, k9⟩ := cellsR
  obtain ⟨xs, n, _, _, hl, hx, hfd⟩ := DataW.trod_struct Tryd.underlying44 hf
  rw [k9] at hl
  match cs, hl with
  | [c0, c1, c2, c3], _ =>
  match xs, hx with
  | [y0, y1, y2, y3], _ =>
  have h0 : DataW.trod enc Tryd.prog W 0 (fun _ => true) true n 3 (List.take (Tryd.prog.cellsOf 3) (List.drop 0 [c0, c1, c2, c3])) = some y0 := hfd 0 _ rfl
  rw [k1] at h0
  replace h0 : DataW.trod enc Tryd.prog W 0 (fun _ => true) true n 3 [c0] = some y0 := h0
  have h1 : DataW.trod enc Tryd.prog W 0 (fun _ => true) true n 39 (List.take (Tryd.prog.cellsOf 39) (List.drop 1 [c0, c1, c2, c3])) = some y1 := hfd 1 _ rfl
  rw [k2] at h1
  replace h1 : DataW.trod enc Tryd.prog W 0 (fun _ => true) true n 39 [c1] = some y1 := h1
  have h2 : DataW.trod enc Tryd.prog W 0 (fun _ => true) true n 3 (List.take (Tryd.prog.cellsOf 3) (List.drop 2 [c0, c1, c2, c3])) = some y2 := hfd 2 _ rfl
  rw [k1] at h2
  replace h2 : DataW.trod enc Tryd.prog W 0 (fun _ => true) true n 3 [c2] = some y2 := h2
  have h3 : DataW.trod enc Tryd.prog W 0 (fun _ => true) true n 42 (List.take (Tryd.prog.cellsOf 42) (List.drop 3 [c0, c1, c2, c3])) = some y3 := hfd 3 _ rfl
  rw [k4] at h3
  replace h3 : DataW.trod enc Tryd.prog W 0 (fun _ => true) true n 42 [c3] = some y3 := h3
  obtain ⟨a, e0, _, w0⟩ := DataW.trod_int Tryd.underlying3 h0
  obtain ⟨o, o1⟩ := open_nmR h1
  obtain ⟨c, e2, _, w2⟩ := DataW.trod_int Tryd.underlying3 h2
  obtain ⟨ps, p1⟩ := open_intsR h3
  simp at e0 e2
  subst e0 e2
  exact ⟨⟨a, o, c, ps⟩, ⟨c1, c3, rfl, o1.1, p1⟩, o1.2⟩
/-- A row of elements of k cells. -/
theorem open_rowR {α : Type} [Inhabited α] {S T : TypeId} {k : Nat} (hu : Tryd.prog.underlying S = some (.slice T)) (hc : Tryd.prog.cellsOf T = k) (hk0 : 0 < k) {At : World → List Value → α → Prop} {P : α → Prop} (hAk : ∀ W cs x, At W cs x → cs.length = k)
    (hel : ∀ (fuel : Nat) (cs : List Value) (x : DataW H × List MemPlace), DataW.trod enc Tryd.prog W 0 (fun _ => true) true fuel T cs = some x → ∃ f, At W cs f ∧ P f)
    {fuel : Nat} {v : Value} {x : DataW H × List MemPlace} (hf : DataW.trod enc Tryd.prog W 0 (fun _ => true) true fuel S [v] = some x) : ∃ l : List α, RowsAt At W v l ∧ ∀ f ∈ l, P f := by
  rcases Go.Deep.open_slice hu hf with ⟨hcs, _⟩ | ⟨a, len, cap, m, n, D, Pl, hcs, _, hl, hm, hmm, _, hV⟩
  · simp at hcs
    subst hcs
    exact ⟨[], RowsAt.nil _ _, by simp⟩
  · simp at hcs
    subst hcs
    simp only [if_true] at hmm
    subst hmm
    rw [hc] at hV
    obtain ⟨F, hF⟩ := Go.Deep.choose_lt (α := List Value × α) (p := fun i z => W.cells? 0 (a.add (i * k)) k = some z.1 ∧ At W z.1 z.2 ∧ P z.2) (fun i hi => by
      obtain ⟨cs', h1, h2⟩ := hV i hi
      obtain ⟨r, hr⟩ := hel _ _ _ h2
      exact ⟨(cs', r), h1, hr⟩)
    have hlen : ∀ i, i < len → (F i).1.length = k := fun i hi => hAk _ _ _ (hF i (by omega)).2.1
    refine ⟨(List.range len).map fun i => (F i).2, ⟨(List.range len).map fun i => (F i).1, ⟨some a, m, by simp, by simpa using hl, (fun e => by cases e), ?_⟩, by simp, fun i h1 h2 => ?_⟩, fun f hf2 => ?_⟩
    · by_cases h0 : len = 0
      · subst h0; left; rfl
      · right
        obtain ⟨b, off, spot⟩ := a
        have hc0 := (World.cells?_some (hF 0 (by omega)).1).2.2 0 (by omega)
        rw [List.getElem?_eq_getElem (by rw [hlen 0 (by omega)]; omega)] at hc0
        have hspot : spot = none := by simpa [Addr.add] using World.cell?_spot hc0
        subst hspot
        have hb : b < W.heap.size := World.block_lt_of_cell? W _ (by simpa [Addr.add] using hc0 : W.cell? ⟨b, off, none⟩ = some _)
        refine ⟨b, off, rfl, hb, fun j u hj => ?_⟩
        obtain ⟨h1, h2⟩ := flatten_atR k hk0 _ (fun cs hcm => by
          obtain ⟨i, hi, rfl⟩ := List.mem_map.1 hcm
          exact hlen i (List.mem_range.1 hi)) j u hj
        have hi : j / k < len := by simpa using h1
        rw [List.getElem_map, List.getElem_range] at h2
        have hd : j % k < k := Nat.mod_lt _ hk0
        have hcl := (World.cells?_some (hF (j / k) (by omega)).1).2.2 (j % k) hd
        rw [h2] at hcl
        have hdm : j / k * k + j % k = j := by rw [Nat.mul_comm]; exact Nat.div_add_mod j k
        rw [Addr.add_lit, Addr.add_lit, Nat.add_assoc, hdm] at hcl
        exact hcl
    · simp only [List.length_map, List.length_range] at h1
      simpa using (hF i (by omega)).2.1
    · obtain ⟨i, hi, rfl⟩ := List.mem_map.1 hf2
      exact (hF i (by have := List.mem_range.1 hi; omega)).2.2
end Go.Proofs.YtbnkecmhmcligaaDoor
