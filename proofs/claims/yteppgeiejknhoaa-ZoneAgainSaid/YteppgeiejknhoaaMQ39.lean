/-
  rdata.form, rdata.readHalves.
-/
import Derived.Test.YteppgeiejknhoaaMQ08
import Derived.Test.YteppgeiejknhoaaMQ30
import Derived.Lib.Repeat
namespace Go.Proofs.Yteppgeiejknhoaa
set_option maxRecDepth 20000
open Go.RowKit Go.Shelf

theorem repeat_rep (x : UInt8) : ∀ c, Lib.repeatL [x] c = List.replicate c x
  | 0 => rfl
  | c + 1 => by rw [Lib.repeatL, repeat_rep x c]; rfl

/-! ### halves -/
theorem halvesOK_snoc (l : List Wd) (x : Wd) : halvesOK (l ++ [x]) = (halvesOK l && (!x.2 && x.1.all hexB)) := by simp [halvesOK]
theorem halvesL_snoc (l : List Wd) (x : Wd) : halvesL (l ++ [x]) = halvesL l ++ x.1.map hexW := by simp [halvesL]
theorem halves_not {l : List Wd} {k : Nat} (hk : k < l.length) (h : l[k].2 = true ∨ l[k].1.all hexB = false) : halvesOK l = false := by
  cases e : halvesOK l with
  | false => rfl
  | true =>
    unfold halvesOK at e; rw [List.all_eq_true] at e
    have := e _ (List.getElem_mem hk)
    rcases h with h | h <;> rw [h] at this <;> simp at this
theorem all_not {l : List UInt8} {j : Nat} (hj : j < l.length) (h : hexB l[j] = false) : l.all hexB = false := by
  cases e : l.all hexB with
  | false => rfl
  | true => rw [List.all_eq_true] at e; have := e _ (List.getElem_mem hj); rw [h] at this; cases this
theorem hexW_nat (c : UInt8) : ((hexV c : Int)) = ((hexW c).toNat : Int) := by
  have := hexV_lt c
  unfold hexW
  have h : (UInt8.ofNat (hexV c)).toNat = hexV c := by simp; omega
  rw [h]
theorem OwnG.ne_block {α : Type} {T : TypeId} {enc : α → Value} {W : World} {base : Nat} {v : Value} {xs : List α} (h : OwnG T enc W base v xs) {B : Nat} {cs : Array Value} {t : TypeId} (hB : W.heap[B]? = some (.cells cs t)) (ht : t ≠ T) : some B ≠ v.ownBlock := by
  rcases h.2 with ⟨rfl, _⟩ | ⟨g, cap, cur, rfl, _, hg, _⟩
  · simp [Value.ownBlock]
  · intro e
    obtain rfl : B = g := by simpa [Value.ownBlock] using e
    rw [hg] at hB
    cases hB
    exact ht rfl
theorem block_new (W : World) (o : Obj) : (W.alloc o).heap[W.heap.size]? = some o := by
  show (W.heap.push o)[W.heap.size]? = some o
  simp
theorem cell_of_block {W : World} {B : Nat} {cs : Array Value} {t : TypeId} (h : W.heap[B]? = some (.cells cs t)) (j : Nat) (v : Value) (hv : cs[j]? = some v) : W.cell? ⟨B, j, none⟩ = some v := by
  simp only [World.cell?, h]
  simpa using hv
/-- What readHalves answers. -/
def HalvesPost (l : List Wd) (w : World) (e : Ending) (w' : World) : Prop := ∃ v', e = .returned (.tuple #[v', .bool (halvesOK l)]) ∧ OwnG 5 bv w' w.heap.size v' (if halvesOK l = true then halvesL l else []) ∧ Below w.heap.size w w'
theorem halves_fin {l : List Wd} {w w' : World} {e : Ending} {v : Value} (b : Bool) (xs : List UInt8) (h : halvesOK l = b) (h2 : b = true → halvesL l = xs) (h3 : b = false → xs = []) (he : e = .returned (.tuple #[v, .bool b])) (ho : OwnG 5 bv w' w.heap.size v xs) (hb : Below w.heap.size w w') : HalvesPost l w e w' := by
  subst h
  refine ⟨v, he, ?_, hb⟩
  cases hh : halvesOK l with
  | true => rw [if_pos rfl, h2 hh]; exact ho
  | false => rw [if_neg (by simp), ← h3 hh]; exact ho

end Go.Proofs.Yteppgeiejknhoaa

