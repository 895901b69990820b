/-
  Rows of records as the laws' walks take them: one word for a row of the program's and of the document's.
-/
import Derived.Test.YtfcdajldpnomfaaGreatDoorMQ07
import Derived.Test.YtfcdajldpnomfaaGreatDoorMQ08
import Derived.Test.YtfcdajldpnomfaaGreatDoorMQ38
namespace Go.Proofs.YtfcdajldpnomfaaGreatDoor
open Go.RowKit Go.Shelf
set_option maxRecDepth 20000
set_option linter.unusedVariables false
set_option linter.unusedSimpArgs false

def RowR (W : World) (v : Value) (l : List Rc) : Prop := ∃ css, SlK W v css ∧ Rcs W css l
theorem RowR.below {W W' : World} {v : Value} {l : List Rc} (h : RowR W v l) (hb : Below W.heap.size W W') : RowR W' v l := by
  obtain ⟨css, h1, h2⟩ := h
  exact ⟨css, h1.below hb, h2.below hb⟩
theorem RowR.shape {W : World} {v : Value} {l : List Rc} (h : RowR W v l) : ∃ a c, v = .slice a l.length c ∧ l.length ≤ c := by
  obtain ⟨css, ⟨a, c, e, h1, _⟩, h2⟩ := h
  rw [h2.1] at e h1
  exact ⟨a, c, e, h1⟩
theorem RowR.of_own {T : TypeId} {W : World} {base : Nat} {v : Value} {css : List (List Value)} {l : List Rc} (h : OwnC 7 T W base v css) (hr : Rcs W css l) : RowR W v l := ⟨css, SlK.of_own h hr.ck, hr⟩
theorem rcs_arg {W : World} {css : List (List Value)} {l : List Rc} (h : css.length = l.length ∧ ∀ i (h1 : i < css.length) (h2 : i < l.length), RcArg W css[i] l[i]) : Rcs W css l := ⟨h.1, fun i h1 h2 => (h.2 i h1 h2).rcAt⟩
theorem fewRs_ok {W : World} {css : List (List Value)} {l : List Rc} (h : css.length = l.length ∧ ∀ i (h1 : i < css.length) (h2 : i < l.length), RcArg W css[i] l[i]) (hf : fewRs l = true) :
    l.length ≤ 60 ∧ (∀ r ∈ l, RcOK r) ∧ ∀ r ∈ l, r.data.names.length ≤ 1048576 := by
  simp only [fewRs, Bool.and_eq_true, decide_eq_true_eq, List.all_eq_true] at hf
  refine ⟨hf.1, fun r hr => ?_, fun r hr => fewR_names (hf.2 r hr)⟩
  obtain ⟨i, hi, rfl⟩ := List.mem_iff_getElem.1 hr
  exact (h.2 i (by have := h.1; omega) hi).ok (hf.2 _ hr)
theorem insR_names {x : Rc} (hx : x.data.names.length ≤ 1048576) : ∀ (l : List Rc), (∀ y ∈ l, y.data.names.length ≤ 1048576) → ∀ y ∈ insR l x, y.data.names.length ≤ 1048576
  | [], _, y, hy => by
    rw [insR, List.mem_singleton] at hy; subst hy; exact hx
  | z :: r, h, y, hy => by
    have hz := h z (by simp)
    rw [insR] at hy
    by_cases h1 : compareR z x < 0
    · rw [if_pos h1] at hy
      rcases List.mem_cons.1 hy with rfl | hy
      · exact hz
      · exact insR_names hx r (fun a ha => h a (by simp [ha])) y hy
    · rw [if_neg h1] at hy
      by_cases h2 : compareR z x = 0
      · rw [if_pos h2] at hy
        rcases List.mem_cons.1 hy with rfl | hy
        · exact hz
        · exact h y (by simp [hy])
      · rw [if_neg h2] at hy
        rcases List.mem_cons.1 hy with rfl | hy
        · exact hx
        · exact h y hy
theorem canonM_names (l : List Rc) : (∀ r ∈ l, r.data.names.length ≤ 1048576) → ∀ y ∈ canonM l, y.data.names.length ≤ 1048576 :=
  list_snoc_ind (P := fun l => (∀ r ∈ l, r.data.names.length ≤ 1048576) → ∀ y ∈ canonM l, y.data.names.length ≤ 1048576) (fun _ y hy => by cases hy) (fun l x ih h y hy => by
    rw [canonM_snoc] at hy
    exact insR_names (h x (by simp)) _ (ih fun r hr => h r (by simp [hr])) y hy) l

theorem row_Canon (v : Value) (l L : List Rc) (hL : canonM l = L) (W : World) (h : RowR W v l) (hk : ∀ r ∈ l, RcOK r) (hn : l.length ≤ 1000000) :
    Calls Tryz.prog 19 #[v] W fun e w' => ∃ v', e = .returned v' ∧ RowR w' v' L ∧ Below W.heap.size W w' := by
  subst hL
  obtain ⟨css, h1, h2⟩ := h
  refine (rec_Canon v css l W h1 h2 hk (by rw [h2.1]; omega)).mono ?_
  rintro e w' ⟨v', css', rfl, ho, hl, hf, hb⟩
  exact ⟨v', rfl, RowR.of_own ho ⟨hl, fun i a b => (hf i a b).rcAt⟩, hb⟩
theorem row_OfAll (v : Value) (l : List Rc) (W : World) (h : RowR W v l) (hN : ∀ r ∈ l, r.data.names.length ≤ 1048576) (hn : l.length ≤ 1000000) :
    Calls Tryz.prog 18 #[v] W fun e w' => ∃ v', e = .returned v' ∧ RowR w' v' l ∧ Below W.heap.size W w' := by
  obtain ⟨css, h1, h2⟩ := h
  refine (law5_OfAll W v css l W h1 h2 (Below.refl _ _) hN (by rw [h2.1]; omega)).mono ?_
  rintro e w' ⟨v', css', rfl, ho, hf, hb⟩
  exact ⟨v', rfl, RowR.of_own ho ⟨hf.1, fun i a b => (hf.2 i a b).rcAt hb⟩, hb⟩
theorem row_RCanon (v : Value) (l L : List Rc) (hL : canonM l = L) (W : World) (h : RowR W v l) (hk : ∀ r ∈ l, RcOK r) (hn : l.length ≤ 1000000) :
    Calls Tryz.prog 21 #[v] W fun e w' => ∃ v', e = .returned v' ∧ RowR w' v' L ∧ Below W.heap.size W w' := by
  subst hL
  obtain ⟨css, h1, h2⟩ := h
  refine (ref_Canon v css l W h1 h2 hk (by rw [h2.1]; omega)).mono ?_
  rintro e w' ⟨v', css', rfl, ho, hf, hb⟩
  exact ⟨v', rfl, RowR.of_own ho (hf.below hb), hb⟩
theorem row_Is (v u : Value) (l : List Rc) (W : World) (h : RowR W v l) (g : RowR W u l) (hk : ∀ r ∈ l, RcOK r) (hn : l.length ≤ 1000000) :
    Calls Tryz.prog 20 #[v, u] W fun e w' => e = .returned (.bool true) ∧ Below W.heap.size W w' := by
  obtain ⟨css, h1, h2⟩ := h
  obtain ⟨ess, g1, g2⟩ := g
  exact law5_Is v u css ess l W h1 h2 g1 g2 hk (by rw [h2.1]; omega) (by rw [g2.1]; omega)
theorem row_Same (v u : Value) (l m : List Rc) (b : Bool) (hb : sameRowM l m = b) (W : World) (h : RowR W v l) (g : RowR W u m) (hk : ∀ r ∈ l, RcOK r) (hk2 : ∀ r ∈ m, RcOK r) (hn : l.length ≤ 1000000) (hn2 : m.length ≤ 1000000) :
    Calls Tryz.prog 22 #[v, u] W fun e w' => e = .returned (.bool b) ∧ Below W.heap.size W w' := by
  subst hb
  obtain ⟨css, h1, h2⟩ := h
  obtain ⟨ess, g1, g2⟩ := g
  exact rec_SameRow v u css ess l m W h1 h2 g1 g2 hk hk2 (by rw [h2.1]; omega) (by rw [g2.1]; omega)
theorem row_RSame (v u : Value) (l m : List Rc) (b : Bool) (hb : sameRowM l m = b) (W : World) (h : RowR W v l) (g : RowR W u m) (hk : ∀ r ∈ l, RcOK r) (hk2 : ∀ r ∈ m, RcOK r) (hn : l.length ≤ 1000000) (hn2 : m.length ≤ 1000000) :
    Calls Tryz.prog 23 #[v, u] W fun e w' => e = .returned (.bool b) ∧ Below W.heap.size W w' := by
  subst hb
  obtain ⟨css, h1, h2⟩ := h
  obtain ⟨ess, g1, g2⟩ := g
  exact ref_SameRow v u css ess l m W h1 h2 g1 g2 hk hk2 (by rw [h2.1]; omega) (by rw [g2.1]; omega)
end Go.Proofs.YtfcdajldpnomfaaGreatDoor

