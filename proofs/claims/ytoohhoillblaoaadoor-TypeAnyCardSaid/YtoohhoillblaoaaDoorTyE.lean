/-
  The document's types: Types, typeName, Known, TypeText, ParseType.
-/
import Derived.Test.YtoohhoillblaoaaDoorTyD
import Derived.Lib.PathFns
namespace Go.Proofs.YtoohhoillblaoaaDoor
open Go.RowKit Go.Shelf

theorem rowOfT_first {t : Int} {k : Nat} (hk : k < 9) (h : typeT k = t) (hn : ∀ j, j < k → typeT j ≠ t) : rowOfT t = some k := by
  unfold rowOfT; rw [List.find?_range_eq_some]
  exact ⟨decide_eq_true h, by simpa using hk, fun j hj => by simpa using hn j hj⟩
theorem rowOfT_never {t : Int} (h : ∀ j, j < 9 → typeT j ≠ t) : rowOfT t = none := by
  unfold rowOfT; rw [List.find?_eq_none]; intro j hj; simpa using h j (by simpa using hj)
theorem rowOfS_first {s : List UInt8} {k : Nat} (hk : k < 9) (h : typeS k = s) (hn : ∀ j, j < k → typeS j ≠ s) : rowOfS s = some k := by
  unfold rowOfS; rw [List.find?_range_eq_some]
  exact ⟨decide_eq_true h, by simpa using hk, fun j hj => by simpa using hn j hj⟩
theorem rowOfS_never {s : List UInt8} (h : ∀ j, j < 9 → typeS j ≠ s) : rowOfS s = none := by
  unfold rowOfS; rw [List.find?_eq_none]; intro j hj; simpa using h j (by simpa using hj)

/-- A row of integers in block g. -/
def TRow (g : Nat) (W : World) : Prop := g < W.heap.size ∧ ∀ j, j < 9 → W.cell? ⟨g, j, none⟩ = some (.int .i64 (typeT j))
theorem TRow.below {g : Nat} {W W' : World} (h : TRow g W) (hb : Below W.heap.size W W') : TRow g W' := ⟨Nat.lt_of_lt_of_le h.1 hb.size, fun j hj => (hb.cell (p := ⟨g, j, none⟩) h.1).trans (h.2 j hj)⟩
def TypesPost (w : World) (e : Ending) (w' : World) : Prop := ∃ g, e = .returned (.slice (some ⟨g, 0, none⟩) 9 9) ∧ TRow g w' ∧ Below w.heap.size w w'

set_option maxHeartbeats 400000 in
theorem ref_Types (w : World) : Calls Tryd.prog 12 #[] w (TypesPost w) := by
  go_enter Tryd.func12, Tryd.ntmps12
  go_wp2
  go_ret
  refine ⟨_, rfl, ⟨by simp, fun j hj => ?_⟩, (Below.refl _ _).alloc (Nat.le_refl _) _⟩
  have h := cells_new w ((List.range 9).map fun j => Value.int .i64 (typeT j)) 3 j (.int .i64 (typeT j)) (by simp [hj])
  have e : ((⟨w.heap.size, 0, none⟩ : Addr).add j) = ⟨w.heap.size, j, none⟩ := by unfold Addr.add; by_cases hj : j = 0 <;> simp [hj]
  rw [e] at h
  exact h

set_option maxHeartbeats 2000000 in
theorem ref_typeName (t : Int) (w : World) :
    Calls Tryd.prog 19 #[.int .i64 t] w fun e w' => e = .returned (.string ⟨(typeNameM t).toArray⟩) ∧ Below w.heap.size w w' := by
  go_enter Tryd.func19, Tryd.ntmps19
  go_wp2_with (go_at_call 12; refine (ref_Types _).mono ?_; rintro e w1 ⟨g, rfl, hT, hb1⟩)
  have hS : ∀ j, j < 9 → (w1.alloc (.cells #[.string ⟨#[65]⟩, .string ⟨#[78, 83]⟩, .string ⟨#[67, 78, 65, 77, 69]⟩, .string ⟨#[83, 79, 65]⟩, .string ⟨#[80, 84, 82]⟩, .string ⟨#[77, 88]⟩, .string ⟨#[84, 88, 84]⟩, .string ⟨#[65, 65, 65, 65]⟩, .string ⟨#[68, 78, 65, 77, 69]⟩] 9)).cell? ⟨w1.heap.size, j, none⟩ = some (strV (typeS j)) := by
    intro j hj
    have h := cells_new w1 ((List.range 9).map fun j => strV (typeS j)) 9 j (strV (typeS j)) (by simp [hj])
    have e : ((⟨w1.heap.size, 0, none⟩ : Addr).add j) = ⟨w1.heap.size, j, none⟩ := by unfold Addr.add; by_cases hj : j = 0 <;> simp [hj]
    rw [e] at h
    exact h
  have hT2 := hT.below ((Below.refl _ w1).alloc (Nat.le_refl _) (.cells #[.string ⟨#[65]⟩, .string ⟨#[78, 83]⟩, .string ⟨#[67, 78, 65, 77, 69]⟩, .string ⟨#[83, 79, 65]⟩, .string ⟨#[80, 84, 82]⟩, .string ⟨#[77, 88]⟩, .string ⟨#[84, 88, 84]⟩, .string ⟨#[65, 65, 65, 65]⟩, .string ⟨#[68, 78, 65, 77, 69]⟩] 9))
  have hb2 := hb1.alloc hb1.size (.cells #[.string ⟨#[65]⟩, .string ⟨#[78, 83]⟩, .string ⟨#[67, 78, 65, 77, 69]⟩, .string ⟨#[83, 79, 65]⟩, .string ⟨#[80, 84, 82]⟩, .string ⟨#[77, 88]⟩, .string ⟨#[84, 88, 84]⟩, .string ⟨#[65, 65, 65, 65]⟩, .string ⟨#[68, 78, 65, 77, 69]⟩] 9)
  generalize w1.alloc (.cells #[.string ⟨#[65]⟩, .string ⟨#[78, 83]⟩, .string ⟨#[67, 78, 65, 77, 69]⟩, .string ⟨#[83, 79, 65]⟩, .string ⟨#[80, 84, 82]⟩, .string ⟨#[77, 88]⟩, .string ⟨#[84, 88, 84]⟩, .string ⟨#[65, 65, 65, 65]⟩, .string ⟨#[68, 78, 65, 77, 69]⟩] 9) = w2 at *
  generalize w1.heap.size = g2 at *
  have HS := Lib.hid hS
  clear hS hT hb1
  go_loopw [5] (fun i wr => ∃ k : Nat, i = .int .i64 k ∧ k ≤ 9 ∧ Hid (∀ j, j < k → typeT j ≠ t) ∧ wr = w2) (fun i _ => 9 - (intOf i).toNat)
  case atStart => exact ⟨0, rfl, by omega, Lib.hid (by intro j h; omega), rfl⟩
  case round =>
    obtain ⟨k, rfl, hk, HN, rfl⟩ := hrel
    by_cases hlt : k < 9
    · have c1 := hT2.2 k hlt
      have c2 := HS.out k hlt
      have hb : typeT k = t → typeNameM t = typeS k := fun h => by unfold typeNameM; rw [rowOfT_first hlt h HN.out]
      have HB := Lib.hid hb
      have HN2 : Hid (typeT k ≠ t → ∀ j, j < k + 1 → typeT j ≠ t) := Lib.hid (fun h j hj => by
        by_cases e : j = k
        · rw [e]; exact h
        · exact HN.out j (by omega))
      unfold strV at c2
      obtain ⟨sk, hsk⟩ : ∃ sk, (⟨(typeS k).toArray⟩ : ByteArray) = sk := ⟨_, rfl⟩
      rw [hsk] at c2
      obtain ⟨x, hx⟩ : ∃ x, typeT k = x := ⟨_, rfl⟩
      rw [hx] at c1
      by_cases he : (x == t) = true
      · have H0 : Hid ((⟨(typeNameM t).toArray⟩ : ByteArray) = sk) := Lib.hid (by rw [HB.out (by rw [hx]; simpa using he), hsk])
        clear hb HB HN2 hsk hx HN
        go_wp2
        go_ret
        exact ⟨by rw [H0.out]; rfl, hb2⟩
      · have he0 : (x == t) = false := by simpa using he
        have HN3 := Lib.hid (HN2.out (by rw [hx]; simpa using he0))
        clear hb HB HN2 hsk hx HN he
        go_wp2
        go_roundw
        case rel => exact ⟨k + 1, by go_num, by omega, HN3, trivial⟩
        case measure => simp [intOf]; omega
    · obtain rfl : k = 9 := by omega
      have H0 : Hid (typeNameM t = []) := Lib.hid (by unfold typeNameM; rw [rowOfT_never HN.out])
      go_wp2
      go_ret
      exact ⟨by rw [H0.out]; rfl, hb2⟩

theorem name_known (t : Int) : knownM t = !(typeNameM t).isEmpty := by
  unfold knownM typeNameM
  cases h : rowOfT t with
  | none => rfl
  | some j =>
    have := (typeS_ne j (find_range h).1).1
    simp only [Option.isSome_some]
    cases hs : typeS j with
    | nil => exact absurd hs this
    | cons a b => rfl

set_option maxHeartbeats 1000000 in
theorem ref_Known (t : Int) (w : World) :
    Calls Tryd.prog 9 #[.int .i64 t] w fun e w' => e = .returned (.bool (knownM t)) ∧ Below w.heap.size w w' := by
  have hN := ref_typeName t w
  have hk : knownM t = !(⟨(typeNameM t).toArray⟩ : ByteArray).toList.isEmpty := by
    rw [name_known, toList_data]
  have HK := Lib.hid hk
  clear hk
  generalize (⟨(typeNameM t).toArray⟩ : ByteArray) = s at *
  go_enter Tryd.func9, Tryd.ntmps9
  go_wp2_with (go_at_call 19; refine hN.mono ?_; rintro e w1 ⟨rfl, hb1⟩)
  go_ret
  exact ⟨by rw [HK.out]; rfl, hb1⟩

set_option maxHeartbeats 1000000 in
theorem ref_TypeText (t : Nat) (w : World) (ht : t ≤ 4611686018427387904) :
    Calls Tryd.prog 13 #[.int .i64 (t : Int)] w fun e w' => e = .returned (.string ⟨(typeTextM t).toArray⟩) ∧ Below w.heap.size w w' := by
  have hK := fun W => ref_Known t W
  have hN := fun W => ref_typeName t W
  have hD := fun W => ref_Decimal t W ht
  cases hk : knownM t with
  | true =>
    rw [hk] at hK
    have H0 : Hid (typeTextM t = typeNameM t) := Lib.hid (by
      unfold knownM at hk; unfold typeTextM typeNameM
      cases h : rowOfT (t : Int) with
      | none => rw [h] at hk; cases hk
      | some j => rfl)
    clear hk hD
    obtain ⟨s, hs⟩ : ∃ s, (⟨(typeNameM (t : Int)).toArray⟩ : ByteArray) = s := ⟨_, rfl⟩
    rw [hs] at hN
    have HS := Lib.hid hs
    clear hs
    go_enter Tryd.func13, Tryd.ntmps13
    go_wp2_with (first | (go_at_call 9; refine (hK _).mono ?_; rintro e w1 ⟨rfl, hb1⟩) | (go_at_call 19; refine (hN _).mono ?_; rintro e w2 ⟨rfl, hb2⟩))
    go_ret
    exact ⟨by rw [H0.out, HS.out]; rfl, hb1.trans (hb2.mono hb1.size)⟩
  | false =>
    rw [hk] at hK
    have H0 : Hid (typeTextM t = [84, 89, 80, 69] ++ Lib.decDigits t) := Lib.hid (by
      unfold knownM at hk; unfold typeTextM
      cases h : rowOfT (t : Int) with
      | none => simp only [Lib.itoa_nonneg]
      | some j => rw [h] at hk; cases hk)
    have hl := dec_len t (by omega)
    have a1 := fun W => run_string_add_sum (P := Tryd.prog) W ⟨#[84, 89, 80, 69]⟩ ⟨(Lib.decDigits t).toArray⟩ (by rw [mk_size (Lib.decDigits t)]; show 4 + (Lib.decDigits t).length ≤ _; omega)
    have e1 : (⟨#[84, 89, 80, 69]⟩ : ByteArray) ++ ⟨(Lib.decDigits t).toArray⟩ = ⟨([84, 89, 80, 69] ++ Lib.decDigits t).toArray⟩ := mk_append [84, 89, 80, 69] _
    rw [e1] at a1
    clear e1 hk hN hl
    generalize (⟨(Lib.decDigits t).toArray⟩ : ByteArray) = dt at *
    go_enter Tryd.func13, Tryd.ntmps13
    go_wp2_with (first | (go_at_call 9; refine (hK _).mono ?_; rintro e w1 ⟨rfl, hb1⟩) | (go_at_call 25; refine (hD _).mono ?_; rintro e w2 ⟨rfl, hb2⟩))
    go_ret
    exact ⟨by rw [H0.out]; rfl, hb1.trans (hb2.mono hb1.size)⟩
end Go.Proofs.YtoohhoillblaoaaDoor
