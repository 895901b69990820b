/-
  The opening of an argument of type []rdata.Data.
-/
import Derived.Test.YtfcdajldpnomfaaMQ17
import Derived.Test.YtfcdajldpnomfaaMQ27
namespace Go.Proofs.Ytfcdajldpnomfaa
open Go Go.ChangeShapes Go.WideShapes Go.ChangeAt Go.RowKit Go.Shelf
set_option maxRecDepth 20000
variable {H : Type} {enc : TypeId × Value → H} {W : World}
theorem cellsDat : Try.prog.cellsOf 31 = 5 := by kernel_rfl
def dzD : Dat := ⟨0, [], [], [], []⟩
instance inhDat : Inhabited (List Value × Dat) := ⟨([], dzD)⟩
theorem open_dts {fuel : Nat} {v : Value} {x : DataW H × List MemPlace} (hf : DataW.trod enc Try.prog W 0 (fun _ => true) true fuel 22 [v] = some x) :
    ∃ (css : List (List Value)) (l : List Dat), SlK W v css ∧ DtsArg W css l := by
  rcases Go.Deep.open_slice Try.underlying22 hf with ⟨hcs, _⟩ | ⟨a, len, cap, m, n, D, Pl, hcs, _, hl, hm, hmm, _, hV⟩
  · simp at hcs
    subst hcs
    exact ⟨[], [], SlK.nil W, rfl, fun i h1 => absurd h1 (Nat.not_lt_zero _)⟩
  · simp at hcs
    subst hcs
    simp only [if_true] at hmm
    subst hmm
    rw [cellsDat] at hV
    obtain ⟨F, hF⟩ := Go.Deep.choose_lt (α := List Value × Dat) (p := fun i z => W.cells? 0 (a.add (i * 5)) 5 = some z.1 ∧ DatArg W (.agg z.1.toArray) z.2) (fun i hi => by
      obtain ⟨cs', h1, h2⟩ := hV i hi
      obtain ⟨r, hr⟩ := open_data h2
      exact ⟨(cs', r), h1, hr⟩)
    have hlen : ∀ i, i < len → (F i).1.length = 5 := fun i hi => (World.cells?_some (hF i (by omega)).1).2.1
    refine ⟨(List.range len).map fun i => (F i).1, (List.range len).map fun i => (F i).2, ⟨some a, m, by simp, by simpa using hl, (fun e => by cases e), ?_⟩, by simp, fun i h1 h2 => ?_⟩
    · by_cases h0 : len = 0
      · subst h0; left; rfl
      · right
        obtain ⟨b, off, spot⟩ := a
        have hc0 := (World.cells?_some (hF 0 (by omega)).1).2.2 0 (by omega)
        rw [List.getElem?_eq_getElem (by rw [hlen 0 (by omega)]; omega)] at hc0
        have hspot : spot = none := by simpa [Addr.add] using World.cell?_spot hc0
        subst hspot
        have hb : b < W.heap.size := World.block_lt_of_cell? W _ (by simpa [Addr.add] using hc0 : W.cell? ⟨b, off, none⟩ = some _)
        refine ⟨b, off, rfl, hb, fun j u hj => ?_⟩
        obtain ⟨h1, h2⟩ := flatten_at 5 (by omega) _ (fun cs hc => by
          obtain ⟨i, hi, rfl⟩ := List.mem_map.1 hc
          exact hlen i (List.mem_range.1 hi)) j u hj
        have hi : j / 5 < len := by simpa using h1
        rw [List.getElem_map, List.getElem_range] at h2
        have hd : j % 5 < 5 := Nat.mod_lt _ (by omega)
        have hc := (World.cells?_some (hF (j / 5) (by omega)).1).2.2 (j % 5) hd
        rw [h2] at hc
        rw [Addr.add_lit, Addr.add_lit, show off + j / 5 * 5 + j % 5 = off + j by omega] at hc
        exact hc
    · simp only [List.length_map, List.length_range] at h1
      exact ⟨by simpa using hlen i (by omega), by simpa using (hF i (by omega)).2⟩
end Go.Proofs.Ytfcdajldpnomfaa
