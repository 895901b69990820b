/-
  Package rtype's table looked up: by the number, by the name.
-/
import Derived.Test.YteppgeiejknhoaaMQ18
import Derived.Test.YteppgeiejknhoaaMQ16
import Derived.Test.YteppgeiejknhoaaMQ43
import Derived.Test.YteppgeiejknhoaaMQ30
import Derived.Lib.AppendIntMem
import Derived.Test.YteppgeiejknhoaaMQ08
import Derived.Lib.ItoaMem
namespace Go.Proofs.Yteppgeiejknhoaa
set_option maxRecDepth 20000
open Go.RowKit Go.Shelf

theorem fin_prefix {n : Nat} {p : List (Fin n)} {x : Fin n} (h : (p ++ [x]) <+: List.finRange n) : ∀ j : Fin n, j.val < x.val → j ∈ p := by
  have hl : p.length + 1 ≤ n := by have := h.length_le; simpa using this
  have hg : ∀ i (h1 : i < p.length + 1), (p ++ [x])[i]'(by simpa using h1) = ⟨i, by omega⟩ := fun i h1 => by
    have := h.getElem (i := i) (by simpa using h1)
    rw [this]; simp
  have hx : x.val = p.length := by
    have := hg p.length (by omega)
    rw [List.getElem_append_right (Nat.le_refl _)] at this
    simp at this; rw [this]
  intro j hj
  have h1 : j.val < p.length := by omega
  have := hg j.val (by omega)
  rw [List.getElem_append_left h1] at this
  rw [← show p[j.val] = j from this]; exact List.getElem_mem h1
theorem results_sb {fn : Func} {t u : Tmp} {S B : TypeId} (h : fn.results = #[.cell t S, .cell u B]) (hS : Try.prog.underlying S = some .string) (hB : Try.prog.underlying B = some .bool) (tmps : Array Value) (W : World) {a b : Nat} {v z : Value}
    (ht : tmps.getD t undef = .pointer (some ⟨a, 0, none⟩)) (hu : tmps.getD u undef = .pointer (some ⟨b, 0, none⟩)) (hc : W.cell? ⟨a, 0, none⟩ = some v) (hd : W.cell? ⟨b, 0, none⟩ = some z) : (results fn tmps).run Try.prog W = .ok (.tuple #[v, z]) W := by
  have ht' : tmps[t]?.getD undef = .pointer (some ⟨a, 0, none⟩) := by rw [← ht]; simp
  have hu' : tmps[u]?.getD undef = .pointer (some ⟨b, 0, none⟩) := by rw [← hu]; simp
  have h1 : ∀ w, Sem.run Try.prog (underlying S) w = .ok _ w := run_underlying hS
  have h2 : ∀ w, Sem.run Try.prog (underlying B) w = .ok _ w := run_underlying hB
  simp [results, h, ht', hu', loadVar, asAddr, go_sem, h1, h2, hc, hd, isAgg]
theorem results_ib {fn : Func} {t u : Tmp} {S B : TypeId} {k : IntKind} (h : fn.results = #[.cell t S, .cell u B]) (hS : Try.prog.underlying S = some (.int k)) (hB : Try.prog.underlying B = some .bool) (tmps : Array Value) (W : World) {a b : Nat} {v z : Value}
    (ht : tmps.getD t undef = .pointer (some ⟨a, 0, none⟩)) (hu : tmps.getD u undef = .pointer (some ⟨b, 0, none⟩)) (hc : W.cell? ⟨a, 0, none⟩ = some v) (hd : W.cell? ⟨b, 0, none⟩ = some z) : (results fn tmps).run Try.prog W = .ok (.tuple #[v, z]) W := by
  have ht' : tmps[t]?.getD undef = .pointer (some ⟨a, 0, none⟩) := by rw [← ht]; simp
  have hu' : tmps[u]?.getD undef = .pointer (some ⟨b, 0, none⟩) := by rw [← hu]; simp
  have h1 : ∀ w, Sem.run Try.prog (underlying S) w = .ok _ w := run_underlying hS
  have h2 : ∀ w, Sem.run Try.prog (underlying B) w = .ok _ w := run_underlying hB
  simp [results, h, ht', hu', loadVar, asAddr, go_sem, h1, h2, hc, hd, isAgg]
theorem rowOfT_at {t : Int} {x : Fin 9} {p : List (Fin 9)} (hp : (p ++ [x]) <+: List.finRange 9) (h : typeT x.val = t) (hn : ∀ j ∈ p, typeT j.val ≠ t) : rowOfT t = some x.val :=
  rowOfT_first x.isLt h (fun j hj => hn ⟨j, Nat.lt_trans hj x.isLt⟩ (fin_prefix hp ⟨j, Nat.lt_trans hj x.isLt⟩ hj))
theorem rowOfS_at {t : List UInt8} {x : Fin 9} {p : List (Fin 9)} (hp : (p ++ [x]) <+: List.finRange 9) (h : typeS x.val = t) (hn : ∀ j ∈ p, typeS j.val ≠ t) : rowOfS t = some x.val :=
  rowOfS_first x.isLt h (fun j hj => hn ⟨j, Nat.lt_trans hj x.isLt⟩ (fin_prefix hp ⟨j, Nat.lt_trans hj x.isLt⟩ hj))
def keyOfM (s : List UInt8) : Int × Bool := match rowOfS s with | some j => (typeT j, true) | none => (0, false)

section
attribute [local go_sem] Oper.semAt_some
end
end Go.Proofs.Yteppgeiejknhoaa

/-
  The document's ParseType.
-/
namespace Go.Proofs.Yteppgeiejknhoaa
set_option maxRecDepth 20000
open Go.RowKit Go.Shelf

theorem take_type (s : List UInt8) : ((foldL s).take 4 = [116, 121, 112, 101]) ↔ ((greatL s).take 4 = [84, 89, 80, 69]) := by
  constructor
  · intro h
    have := congrArg greatL h
    rw [show greatL [116, 121, 112, 101] = [84, 89, 80, 69] by decide] at this
    rw [← this, ← greatL_fold s]; simp [greatL, List.map_take]
  · intro h
    have := congrArg foldL h
    rw [show foldL [84, 89, 80, 69] = [116, 121, 112, 101] by decide] at this
    rw [← this, ← foldL_great s]; simp [foldL, List.map_take]
theorem numM_er (l : List UInt8) (most : Nat) : (numM l most).2 = 0 ∨ (numM l most).2 = 2 ∨ (numM l most).2 = 7 := by
  unfold numM; split
  · split <;> simp
  · simp
/-- Behind the names: a number. -/
def endType (l : List UInt8) : Int × Int := if (numM l 65535).2 = 2 then (0, 6) else if (numM l 65535).2 ≠ 0 ∨ (numM l 65535).1 = 0 then (0, 7) else ((numM l 65535).1, 0)
theorem parseType_none {s : List UInt8} (h : rowOfS (greatL s) = none) : parseTypeM s = if (greatL s).take 4 = [84, 89, 80, 69] then endType (s.drop 4) else (0, 6) := by unfold parseTypeM endType; rw [h]
theorem parseType_some {s : List UInt8} {j : Nat} (h : rowOfS (greatL s) = some j) : parseTypeM s = (typeT j, 0) := by unfold parseTypeM; rw [h]
def ParseTPost (l : List UInt8) (w : World) (e : Ending) (w' : World) : Prop := e = .returned (.tuple #[.int .i64 (parseTypeM l).1, .int .i64 (parseTypeM l).2]) ∧ Below w.heap.size w w'
theorem ptype_fin {l : List UInt8} {w w' : World} {e : Ending} (v er : Int) (h : parseTypeM l = (v, er)) (he : e = .returned (.tuple #[.int .i64 v, .int .i64 er])) (hb : Below w.heap.size w w') : ParseTPost l w e w' := by
  unfold ParseTPost; rw [h]; exact ⟨he, hb⟩
theorem typeName_at (j : Nat) (hj : j < 9) : typeNameM (typeT j) = typeS j := by unfold typeNameM; rw [rowOfT_typeT j hj]

end Go.Proofs.Yteppgeiejknhoaa

/-
  Package rtype: Text, Known, Parse.
-/
namespace Go.Proofs.Yteppgeiejknhoaa
set_option maxRecDepth 20000
open Go.RowKit Go.Shelf

/-- The library's table of powers of ten lies as its text lays it. -/
def Tab (W : World) : Prop := Lib.TabIs Try.prog W "internal/strconv.uint64pow10" .u64 Lib.pow10Tab
theorem Tab.below {W W' : World} (h : Tab W) (hb : Below W.heap.size W W') : Tab W' := (Lib.tabBelow_of_tabIs h) W' hb
theorem itoa_len (n : Int) (h0 : -9223372036854775808 ≤ n) (h1 : n ≤ 9223372036854775807) : (Lib.itoa n).length ≤ 20 := by
  unfold Lib.itoa
  split
  · have := dec_len n.natAbs (by omega); simp only [List.length_cons]; omega
  · have := dec_len n.toNat (by omega); omega
theorem typeName_len (t : Int) : (typeNameM t).length ≤ 5 := by
  unfold typeNameM
  cases h : rowOfT t with
  | none => simp
  | some j => exact (typeS_ne j (find_range h).1).2.2

end Go.Proofs.Yteppgeiejknhoaa

/-
  The library's FormatUint at base 10.
-/
namespace Go.Proofs.Yteppgeiejknhoaa
set_option maxRecDepth 20000
open Go.RowKit Go.Shelf Go.Sort

end Go.Proofs.Yteppgeiejknhoaa

