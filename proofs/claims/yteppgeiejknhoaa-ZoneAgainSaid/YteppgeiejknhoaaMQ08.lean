/-
  Words of data as they lie in memory; small laws that rdata's readers use: strings.Split at one octet, slices of octets.
-/
import Derived.Test.YteppgeiejknhoaaMQ37
import Derived.Test.YteppgeiejknhoaaMQ30
import Derived.Test.YteppgeiejknhoaaMQ13
import Derived.Lib.Split
namespace Go.Proofs.Yteppgeiejknhoaa
set_option maxRecDepth 20000
open Go.RowKit Go.Shelf
set_option maxRecDepth 20000

theorem elemU8 : ElemT 5 46 1 := ⟨Try.underlying46, _, _, rfl, rfl, rfl, rfl, rfl⟩
theorem elemU32 : ElemT 43 45 4 := ⟨Try.underlying45, _, _, rfl, rfl, rfl, rfl, rfl⟩
theorem bv_one1 (c : UInt8) : (bv c).oneCell' = true := rfl
theorem u32_one1 (c : Nat) : (u32V c).oneCell' = true := rfl
theorem bv_of {x : Int} {c : UInt8} (h : x = (c.toNat : Int)) : Value.int .u8 x = bv c := by subst h; rfl

/-- Octets and an error. -/
def BytesE (l : List UInt8) (er : Int) (w : World) (e : Ending) (w' : World) : Prop := ∃ v', e = .returned (.tuple #[v', .int .i64 er]) ∧ OwnG 5 bv w' w.heap.size v' l ∧ Below w.heap.size w w'
theorem bytesE_fin {q : List UInt8 × Int} {w w' : World} {e : Ending} {v : Value} (l : List UInt8) (er : Int) (h : q = (l, er)) (he : e = .returned (.tuple #[v, .int .i64 er])) (ho : OwnG 5 bv w' w.heap.size v l) (hb : Below w.heap.size w w') : BytesE q.1 q.2 w e w' := by
  subst h; exact ⟨v, he, ho, hb⟩
/-- Texts. -/
def StrsRes (l : Nm) (w : World) (e : Ending) (w' : World) : Prop := ∃ v', e = .returned v' ∧ OwnG 9 strV w' w.heap.size v' l ∧ Below w.heap.size w w'

/-! ### strings.Split at one octet -/
theorem idx_cons (b c : UInt8) (l : List UInt8) : Lib.index (b :: l) [c] = if b = c then 0 else if Lib.index l [c] = -1 then -1 else Lib.index l [c] + 1 := by
  have e : Lib.index (b :: l) [c] = if ([c] : List UInt8).isPrefixOf (b :: l) then 0 else if Lib.index l [c] == -1 then -1 else Lib.index l [c] + 1 := rfl
  rw [e]
  have h : (([c] : List UInt8).isPrefixOf (b :: l)) = decide (b = c) := by
    simp only [List.isPrefixOf, Bool.and_true]
    by_cases h : b = c
    · subst h; simp
    · have h2 : ¬ c = b := fun e => h e.symm
      simp [h, h2]
  rw [h]
  by_cases h1 : b = c
  · simp [h1]
  · simp [h1]
theorem split_one' (c : UInt8) : ∀ s, Lib.split s [c] = splitAtU c s ∧ (splitAtU c s).length = Lib.count s [c] + 1
  | [] => ⟨rfl, rfl⟩
  | b :: l => by
    obtain ⟨ih, ihl⟩ := split_one' c l
    have hn : ([c] : List UInt8) ≠ [] := by simp
    by_cases h : b = c
    · subst h
      have hi : Lib.index (b :: l) [b] = ((0 : Nat) : Int) := by rw [idx_cons, if_pos rfl]; rfl
      have hc := Lib.count_hit hn hi
      have e : Lib.split (b :: l) [b] = [] :: Lib.split l [b] := by
        unfold Lib.split
        rw [hc, Nat.add_comm 1]
        show (if Lib.index (b :: l) [b] == -1 then [b :: l] else _) = _
        rw [if_neg (by rw [hi]; decide), hi]
        rfl
      have e0 : splitAtU b (b :: l) = [] :: splitAtU b l := by
        show (if b = b then _ else _) = _
        rw [if_pos rfl]
      rw [e, ih, e0]
      refine ⟨rfl, ?_⟩
      rw [List.length_cons, ihl, hc]
      show _ = 1 + Lib.count l [b] + 1
      omega
    · have e0 : splitAtU c (b :: l) = match splitAtU c l with | [] => [[b]] | x :: t => (b :: x) :: t := by
        rw [splitAtU, if_neg h]
        cases splitAtU c l <;> rfl
      rcases Lib.index_spec l [c] with ⟨h1, _⟩ | ⟨i, h1, hi, _⟩
      · have hi : Lib.index (b :: l) [c] = -1 := by rw [idx_cons, if_neg h, if_pos h1]
        have e1 : Lib.split (b :: l) [c] = [b :: l] := by unfold Lib.split; rw [Lib.count_miss hi]; rfl
        have e2 : Lib.split l [c] = [l] := by unfold Lib.split; rw [Lib.count_miss h1]; rfl
        refine ⟨by rw [e1, e0, ← ih, e2], ?_⟩
        rw [e0, ← ih, e2, Lib.count_miss hi]; rfl
      · have hi2 : Lib.index (b :: l) [c] = ((i + 1 : Nat) : Int) := by rw [idx_cons, if_neg h, if_neg (by omega), h1]; rfl
        have hc2 := Lib.count_hit hn hi2
        have hc1 := Lib.count_hit hn h1
        have ed : (b :: l).drop (i + 1 + [c].length) = l.drop (i + [c].length) := by
          rw [show i + 1 + [c].length = (i + [c].length) + 1 by omega, List.drop_succ_cons]
        rw [ed] at hc2
        have e1 : Lib.split (b :: l) [c] = (b :: l.take i) :: Lib.split (l.drop (i + [c].length)) [c] := by
          unfold Lib.split
          rw [hc2, Nat.add_comm 1]
          show (if Lib.index (b :: l) [c] == -1 then [b :: l] else _) = _
          rw [if_neg (by rw [hi2]; simp <;> omega), hi2]
          show (b :: l).take (((i + 1 : Nat) : Int).toNat + 0) :: Lib.splitK [c] 0 _ ((b :: l).drop (((i + 1 : Nat) : Int).toNat + [c].length)) = _
          rw [Int.toNat_natCast, ed]
          try rfl
        have e2 : Lib.split l [c] = l.take i :: Lib.split (l.drop (i + [c].length)) [c] := by
          unfold Lib.split
          rw [hc1, Nat.add_comm 1]
          show (if Lib.index l [c] == -1 then [l] else _) = _
          rw [if_neg (by rw [h1]; simp <;> omega), h1]
          rfl
        refine ⟨by rw [e1, e0, ← ih, e2], ?_⟩
        have hl : (splitAtU c (b :: l)).length = (splitAtU c l).length := by rw [e0, ← ih, e2]; rfl
        rw [hl, ihl, hc2, hc1]
theorem split_one (c : UInt8) (s : List UInt8) : Lib.split s [c] = splitAtU c s := (split_one' c s).1
/-! ### words -/
def WdsAt (W : World) (v : Value) (l : List Wd) : Prop :=
  ∃ a c, v = .slice a l.length c ∧ l.length ≤ c ∧ (a = none → c = 0) ∧ (l = [] ∨ ∃ b off, a = some ⟨b, off, none⟩ ∧ b < W.heap.size ∧ ∀ j (hj : j < l.length), W.cell? ⟨b, off + j * 2, none⟩ = some (strV l[j].1) ∧ W.cell? ⟨b, off + j * 2 + 1, none⟩ = some (.bool l[j].2))
theorem WdsAt.below {W W' : World} {v : Value} {l : List Wd} (h : WdsAt W v l) (hb : Below W.heap.size W W') : WdsAt W' v l := by
  obtain ⟨a, c, e, h1, h2, h⟩ := h
  refine ⟨a, c, e, h1, h2, ?_⟩
  rcases h with h | ⟨b, off, ea, hlt, hc⟩
  · exact .inl h
  · exact .inr ⟨b, off, ea, Nat.lt_of_lt_of_le hlt hb.size, fun j hj => ⟨(hb.cell (p := ⟨b, off + j * 2, none⟩) hlt).trans (hc j hj).1, (hb.cell (p := ⟨b, off + j * 2 + 1, none⟩) hlt).trans (hc j hj).2⟩⟩
theorem WdsAt.cell {W W' : World} {a : Option Addr} {n c : Nat} {l : List Wd} (h : WdsAt W (.slice a n c) l) (hb : Below W.heap.size W W') (j : Nat) (hj : j < l.length) :
    ∃ b off, a = some ⟨b, off, none⟩ ∧ b < W.heap.size ∧ W'.cell? ⟨b, off + j * 2, none⟩ = some (strV l[j].1) ∧ W'.cell? ⟨b, off + j * 2 + 1, none⟩ = some (.bool l[j].2) := by
  obtain ⟨a', c', e, _, _, h⟩ := h
  cases e
  rcases h with h | ⟨b, off, ea, hlt, hc⟩
  · subst h; simp at hj
  · exact ⟨b, off, ea, hlt, (hb.cell (p := ⟨b, off + j * 2, none⟩) hlt).trans (hc j hj).1, (hb.cell (p := ⟨b, off + j * 2 + 1, none⟩) hlt).trans (hc j hj).2⟩
def WdsOK (l : List Wd) : Prop := l.length ≤ 1048576 ∧ ∀ x ∈ l, x.1.length ≤ 500000
end Go.Proofs.Yteppgeiejknhoaa

