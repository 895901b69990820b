/-
  Decimals written: the document's Decimal.
-/
import Derived.Test.YtbnkecmhmcligaaDoorMQ10
import Derived.Laws.Concat
import Derived.Lib.PathFns
namespace Go.Proofs.YtbnkecmhmcligaaDoor
set_option linter.unusedVariables false
set_option linter.unusedSimpArgs false
set_option maxRecDepth 20000
open Go.RowKit Go.Shelf

def preD (n : Nat) : List UInt8 := if n < 10 then [] else Lib.decDigits (n / 10)
theorem dec_pre (n : Nat) : Lib.decDigits n = preD n ++ [UInt8.ofNat (48 + n % 10)] := by
  rw [Lib.decDigits]; unfold preD
  by_cases h : n < 10
  · rw [dif_pos h, if_pos h, Nat.mod_eq_of_lt h]; rfl
  · rw [dif_neg h, if_neg h]
theorem dec_len (u : Nat) (h : u < 10 ^ 19) : (Lib.decDigits u).length ≤ 19 := by
  rw [Lib.decDigits_length]
  have : ∀ k u, u < 10 ^ k → Lib.nDigits u ≤ max k 1 := by
    intro k
    induction k with
    | zero => intro u h; rw [Lib.nDigits_small (by simp at h; omega)]; omega
    | succ k ih =>
      intro u h
      rw [Lib.nDigits]
      by_cases h10 : u < 10
      · rw [dif_pos h10]; omega
      · rw [dif_neg h10]
        have := ih (u / 10) (by rw [Nat.pow_succ] at h; omega)
        rcases k with _ | k
        · simp at h; omega
        · omega
  have := this 19 u h
  omega

theorem one_byte (W : World) (x : Int) (c : UInt8) (h : x = (c.toNat : Int)) :
    (convert 58 9 (.slice (some ⟨W.heap.size, 0, none⟩) 1 1)).run Tryd.prog (W.alloc (.cells #[.int .u8 x] 5)) = .ok (.string ⟨#[c]⟩) (W.alloc (.cells #[.int .u8 x] 5)) := by
  subst h
  refine run_convert_bytes_back _ _ _ _ _ 1 [c] Tryd.underlying58 Tryd.underlying5 Tryd.underlying9 ?_
  intro j hj
  refine cells_new W [.int .u8 (c.toNat : Int)] 5 j _ ?_
  obtain rfl : j = 0 := by simp at hj; exact hj
  rfl
theorem digit_int (n : Nat) : (48 : Int) + (n : Int) % 10 = ((UInt8.ofNat (48 + n % 10)).toNat : Int) := by
  have : (UInt8.ofNat (48 + n % 10)).toNat = 48 + n % 10 := by simp; omega
  rw [this]; omega

set_option maxHeartbeats 4000000 in
theorem ref_Decimal (u : Nat) (w : World) (hu : u ≤ 4611686018427387904) :
    Calls Tryd.prog 28 #[.int .i64 (u : Int)] w fun e w' => e = .returned (.string ⟨(Lib.decDigits u).toArray⟩) ∧ Below w.heap.size w w' := by
  have h0 : (0 : Int) ≤ (u : Int) := by omega
  have hui : (u : Int) ≤ 4611686018427387904 := by omega
  have hne : ((u : Int) == -9223372036854775808) = false := by simp only [beq_eq_false_iff_ne, ne_eq]; omega
  have hb1 := fun W => one_byte W _ _ (digit_int u)
  have hd0 := Lib.hid (dec_pre u)
  have hdl := dec_len u (by omega)
  generalize UInt8.ofNat (48 + u % 10) = c0 at *
  go_enter Tryd.func28, Tryd.ntmps28
  go_wp2
  go_loopw [0, 3] (fun a t wr => ∃ (n : Nat) (l : List UInt8), a = .int .i64 (n : Int) ∧ t = .string ⟨l.toArray⟩ ∧ n ≤ u ∧ l.length ≤ 19 ∧ Hid (Lib.decDigits u = preD n ++ l) ∧ Below w.heap.size w wr) (fun a _ _ => (intOf a).toNat)
  case atStart => exact ⟨u, [c0], rfl, rfl, Nat.le_refl _, by simp, hd0, (Below.refl _ _).alloc (Nat.le_refl _) _⟩
  case round =>
    obtain ⟨n, l, rfl, rfl, hn, hl, HD, hB⟩ := hrel
    have hn0 : (0 : Int) ≤ (n : Int) := by omega
    by_cases h10 : 10 ≤ (n : Int)
    · have hpre : preD n = preD (n / 10) ++ [UInt8.ofNat (48 + n / 10 % 10)] := by
        rw [← dec_pre]; unfold preD; rw [if_neg (by omega)]
      have HD2 : Hid (Lib.decDigits u = preD (n / 10) ++ (UInt8.ofNat (48 + n / 10 % 10) :: l)) := Lib.hid (by rw [HD.out, hpre]; simp)
      have hlen2 : l.length + 1 ≤ 19 := by
        have h1 : (Lib.decDigits u).length ≤ 19 := hdl
        rw [HD2.out] at h1; simp at h1; omega
      have hdi := digit_int (n / 10)
      rw [show ((n / 10 : Nat) : Int) = (n : Int) / 10 by omega] at hdi
      have hb2 := fun W => one_byte W _ _ hdi
      generalize UInt8.ofNat (48 + n / 10 % 10) = c at *
      have a1 := fun W => run_string_add_sum (P := Tryd.prog) W ⟨#[c]⟩ ⟨l.toArray⟩ (by rw [mk_size l]; show 1 + l.length ≤ _; omega)
      have e1 : (⟨#[c]⟩ : ByteArray) ++ ⟨l.toArray⟩ = ⟨(c :: l).toArray⟩ := mk_append [c] l
      rw [e1] at a1
      have hBa := fun o => hB.alloc hB.size o
      clear e1 hpre hdi hb1 HD hdl
      go_wp2
      go_roundw
      case rel => exact ⟨n / 10, c :: l, congrArg (Value.int .i64) (by omega), rfl, by omega, by simp; omega, HD2, hBa _⟩
      case measure => simp [intOf]; omega
    · have HD2 : Hid (Lib.decDigits u = l) := Lib.hid (by rw [HD.out]; unfold preD; rw [if_pos (by omega)]; rfl)
      clear hb1 HD
      go_wp2
      go_ret
      exact ⟨by rw [HD2.out]; rfl, hB⟩
end Go.Proofs.YtbnkecmhmcligaaDoor

/-
  The document's types: Types, typeName, Known, TypeText, ParseType.
-/
namespace Go.Proofs.YtbnkecmhmcligaaDoor
set_option linter.unusedVariables false
set_option linter.unusedSimpArgs false
set_option maxRecDepth 20000
open Go.RowKit Go.Shelf

theorem rowOfT_first {t : Int} {k : Nat} (hk : k < 9) (h : typeT k = t) (hn : ∀ j, j < k → typeT j ≠ t) : rowOfT t = some k := by
  unfold rowOfT; rw [List.find?_range_eq_some]
  exact ⟨decide_eq_true h, by simpa using hk, fun j hj => by simpa using hn j hj⟩
theorem rowOfT_never {t : Int} (h : ∀ j, j < 9 → typeT j ≠ t) : rowOfT t = none := by
  unfold rowOfT; rw [List.find?_eq_none]; intro j hj; simpa using h j (by simpa using hj)
theorem rowOfS_first {s : List UInt8} {k : Nat} (hk : k < 9) (h : typeS k = s) (hn : ∀ j, j < k → typeS j ≠ s) : rowOfS s = some k := by
  unfold rowOfS; rw [List.find?_range_eq_some]
  exact ⟨decide_eq_true h, by simpa using hk, fun j hj => by simpa using hn j hj⟩
theorem rowOfS_never {s : List UInt8} (h : ∀ j, j < 9 → typeS j ≠ s) : rowOfS s = none := by
  unfold rowOfS; rw [List.find?_eq_none]; intro j hj; simpa using h j (by simpa using hj)

/-- A row of integers in block g. -/
def TRow (g : Nat) (W : World) : Prop := g < W.heap.size ∧ ∀ j, j < 9 → W.cell? ⟨g, j, none⟩ = some (.int .i64 (typeT j))
theorem TRow.below {g : Nat} {W W' : World} (h : TRow g W) (hb : Below W.heap.size W W') : TRow g W' := ⟨Nat.lt_of_lt_of_le h.1 hb.size, fun j hj => (hb.cell (p := ⟨g, j, none⟩) h.1).trans (h.2 j hj)⟩
def TypesPost (w : World) (e : Ending) (w' : World) : Prop := ∃ g, e = .returned (.slice (some ⟨g, 0, none⟩) 9 9) ∧ TRow g w' ∧ Below w.heap.size w w'

set_option maxHeartbeats 400000 in
theorem ref_Types (w : World) : Calls Tryd.prog 42 #[] w (TypesPost w) := by
  go_enter Tryd.func42, Tryd.ntmps42
  go_wp2
  go_ret
  refine ⟨_, rfl, ⟨by simp, fun j hj => ?_⟩, (Below.refl _ _).alloc (Nat.le_refl _) _⟩
  have h := cells_new w ((List.range 9).map fun j => Value.int .i64 (typeT j)) 3 j (.int .i64 (typeT j)) (by simp [hj])
  have e : ((⟨w.heap.size, 0, none⟩ : Addr).add j) = ⟨w.heap.size, j, none⟩ := by unfold Addr.add; by_cases hj : j = 0 <;> simp [hj]
  rw [e] at h
  exact h

set_option maxHeartbeats 2000000 in
theorem ref_typeName (t : Int) (w : World) :
    Calls Tryd.prog 31 #[.int .i64 t] w fun e w' => e = .returned (.string ⟨(typeNameM t).toArray⟩) ∧ Below w.heap.size w w' := by
  go_enter Tryd.func31, Tryd.ntmps31
  go_wp2_with (go_at_call 42; refine (ref_Types _).mono ?_; rintro e w1 ⟨g, rfl, hT, hb1⟩)
  have hS : ∀ j, j < 9 → (w1.alloc (.cells #[.string ⟨#[65]⟩, .string ⟨#[78, 83]⟩, .string ⟨#[67, 78, 65, 77, 69]⟩, .string ⟨#[83, 79, 65]⟩, .string ⟨#[80, 84, 82]⟩, .string ⟨#[77, 88]⟩, .string ⟨#[84, 88, 84]⟩, .string ⟨#[65, 65, 65, 65]⟩, .string ⟨#[68, 78, 65, 77, 69]⟩] 9)).cell? ⟨w1.heap.size, j, none⟩ = some (strV (typeS j)) := by
    intro j hj
    have h := cells_new w1 ((List.range 9).map fun j => strV (typeS j)) 9 j (strV (typeS j)) (by simp [hj])
    have e : ((⟨w1.heap.size, 0, none⟩ : Addr).add j) = ⟨w1.heap.size, j, none⟩ := by unfold Addr.add; by_cases hj : j = 0 <;> simp [hj]
    rw [e] at h
    exact h
  have hT2 := hT.below ((Below.refl _ w1).alloc (Nat.le_refl _) (.cells #[.string ⟨#[65]⟩, .string ⟨#[78, 83]⟩, .string ⟨#[67, 78, 65, 77, 69]⟩, .string ⟨#[83, 79, 65]⟩, .string ⟨#[80, 84, 82]⟩, .string ⟨#[77, 88]⟩, .string ⟨#[84, 88, 84]⟩, .string ⟨#[65, 65, 65, 65]⟩, .string ⟨#[68, 78, 65, 77, 69]⟩] 9))
  have hb2 := hb1.alloc hb1.size (.cells #[.string ⟨#[65]⟩, .string ⟨#[78, 83]⟩, .string ⟨#[67, 78, 65, 77, 69]⟩, .string ⟨#[83, 79, 65]⟩, .string ⟨#[80, 84, 82]⟩, .string ⟨#[77, 88]⟩, .string ⟨#[84, 88, 84]⟩, .string ⟨#[65, 65, 65, 65]⟩, .string ⟨#[68, 78, 65, 77, 69]⟩] 9)
  generalize w1.alloc (.cells #[.string ⟨#[65]⟩, .string ⟨#[78, 83]⟩, .string ⟨#[67, 78, 65, 77, 69]⟩, .string ⟨#[83, 79, 65]⟩, .string ⟨#[80, 84, 82]⟩, .string ⟨#[77, 88]⟩, .string ⟨#[84, 88, 84]⟩, .string ⟨#[65, 65, 65, 65]⟩, .string ⟨#[68, 78, 65, 77, 69]⟩] 9) = w2 at *
  generalize w1.heap.size = g2 at *
  have HS := Lib.hid hS
  clear hS hT hb1
  go_loopw [5] (fun i wr => ∃ k : Nat, i = .int .i64 k ∧ k ≤ 9 ∧ Hid (∀ j, j < k → typeT j ≠ t) ∧ wr = w2) (fun i _ => 9 - (intOf i).toNat)
  case atStart => exact ⟨0, rfl, by omega, Lib.hid (by intro j h; omega), rfl⟩
  case round =>
    obtain ⟨k, rfl, hk, HN, rfl⟩ := hrel
    by_cases hlt : k < 9
    · have c1 := hT2.2 k hlt
      have c2 := HS.out k hlt
      have hb : typeT k = t → typeNameM t = typeS k := fun h => by unfold typeNameM; rw [rowOfT_first hlt h HN.out]
      have HB := Lib.hid hb
      have HN2 : Hid (typeT k ≠ t → ∀ j, j < k + 1 → typeT j ≠ t) := Lib.hid (fun h j hj => by
        by_cases e : j = k
        · rw [e]; exact h
        · exact HN.out j (by omega))
      unfold strV at c2
      obtain ⟨sk, hsk⟩ : ∃ sk, (⟨(typeS k).toArray⟩ : ByteArray) = sk := ⟨_, rfl⟩
      rw [hsk] at c2
      obtain ⟨x, hx⟩ : ∃ x, typeT k = x := ⟨_, rfl⟩
      rw [hx] at c1
      by_cases he : (x == t) = true
      · have H0 : Hid ((⟨(typeNameM t).toArray⟩ : ByteArray) = sk) := Lib.hid (by rw [HB.out (by rw [hx]; simpa using he), hsk])
        clear hb HB HN2 hsk hx HN
        go_wp2
        go_ret
        exact ⟨by rw [H0.out]; rfl, hb2⟩
      · have he0 : (x == t) = false := by simpa using he
        have HN3 := Lib.hid (HN2.out (by rw [hx]; simpa using he0))
        clear hb HB HN2 hsk hx HN he
        go_wp2
        go_roundw
        case rel => exact ⟨k + 1, by go_num, by omega, HN3, trivial⟩
        case measure => simp [intOf]; omega
    · obtain rfl : k = 9 := by omega
      have H0 : Hid (typeNameM t = []) := Lib.hid (by unfold typeNameM; rw [rowOfT_never HN.out])
      go_wp2
      go_ret
      exact ⟨by rw [H0.out]; rfl, hb2⟩

theorem name_known (t : Int) : knownM t = !(typeNameM t).isEmpty := by
  unfold knownM typeNameM
  cases h : rowOfT t with
  | none => rfl
  | some j =>
    have := (typeS_ne j (find_range h).1).1
    simp only [Option.isSome_some]
    cases hs : typeS j with
    | nil => exact absurd hs this
    | cons a b => rfl

set_option maxHeartbeats 1000000 in
theorem ref_Known (t : Int) (w : World) :
    Calls Tryd.prog 30 #[.int .i64 t] w fun e w' => e = .returned (.bool (knownM t)) ∧ Below w.heap.size w w' := by
  have hN := ref_typeName t w
  have hk : knownM t = !(⟨(typeNameM t).toArray⟩ : ByteArray).toList.isEmpty := by
    rw [name_known, toList_data]
  have HK := Lib.hid hk
  clear hk
  generalize (⟨(typeNameM t).toArray⟩ : ByteArray) = s at *
  go_enter Tryd.func30, Tryd.ntmps30
  go_wp2_with (go_at_call 31; refine hN.mono ?_; rintro e w1 ⟨rfl, hb1⟩)
  go_ret
  exact ⟨by rw [HK.out]; rfl, hb1⟩

set_option maxHeartbeats 1000000 in
theorem ref_TypeText (t : Nat) (w : World) (ht : t ≤ 4611686018427387904) :
    Calls Tryd.prog 14 #[.int .i64 (t : Int)] w fun e w' => e = .returned (.string ⟨(typeTextM t).toArray⟩) ∧ Below w.heap.size w w' := by
  have hK := fun W => ref_Known t W
  have hN := fun W => ref_typeName t W
  have hD := fun W => ref_Decimal t W ht
  cases hk : knownM t with
  | true =>
    rw [hk] at hK
    have H0 : Hid (typeTextM t = typeNameM t) := Lib.hid (by
      unfold knownM at hk; unfold typeTextM typeNameM
      cases h : rowOfT (t : Int) with
      | none => rw [h] at hk; cases hk
      | some j => rfl)
    clear hk hD
    obtain ⟨s, hs⟩ : ∃ s, (⟨(typeNameM (t : Int)).toArray⟩ : ByteArray) = s := ⟨_, rfl⟩
    rw [hs] at hN
    have HS := Lib.hid hs
    clear hs
    go_enter Tryd.func14, Tryd.ntmps14
    go_wp2_with (first | (go_at_call 30; refine (hK _).mono ?_; rintro e w1 ⟨rfl, hb1⟩) | (go_at_call 31; refine (hN _).mono ?_; rintro e w2 ⟨rfl, hb2⟩))
    go_ret
    exact ⟨by rw [H0.out, HS.out]; rfl, hb1.trans (hb2.mono hb1.size)⟩
  | false =>
    rw [hk] at hK
    have H0 : Hid (typeTextM t = [84, 89, 80, 69] ++ Lib.decDigits t) := Lib.hid (by
      unfold knownM at hk; unfold typeTextM
      cases h : rowOfT (t : Int) with
      | none => simp only [Lib.itoa_nonneg]
      | some j => rw [h] at hk; cases hk)
    have hl := dec_len t (by omega)
    have a1 := fun W => run_string_add_sum (P := Tryd.prog) W ⟨#[84, 89, 80, 69]⟩ ⟨(Lib.decDigits t).toArray⟩ (by rw [mk_size (Lib.decDigits t)]; show 4 + (Lib.decDigits t).length ≤ _; omega)
    have e1 : (⟨#[84, 89, 80, 69]⟩ : ByteArray) ++ ⟨(Lib.decDigits t).toArray⟩ = ⟨([84, 89, 80, 69] ++ Lib.decDigits t).toArray⟩ := mk_append [84, 89, 80, 69] _
    rw [e1] at a1
    clear e1 hk hN hl
    generalize (⟨(Lib.decDigits t).toArray⟩ : ByteArray) = dt at *
    go_enter Tryd.func14, Tryd.ntmps14
    go_wp2_with (first | (go_at_call 30; refine (hK _).mono ?_; rintro e w1 ⟨rfl, hb1⟩) | (go_at_call 28; refine (hD _).mono ?_; rintro e w2 ⟨rfl, hb2⟩))
    go_ret
    exact ⟨by rw [H0.out]; rfl, hb1.trans (hb2.mono hb1.size)⟩
end Go.Proofs.YtbnkecmhmcligaaDoor

