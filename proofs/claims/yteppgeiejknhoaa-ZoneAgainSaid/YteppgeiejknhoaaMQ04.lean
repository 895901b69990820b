/-
  rdata.readOctets.
-/
import Derived.Test.YteppgeiejknhoaaMQ39
import Derived.Test.YteppgeiejknhoaaMQ16
import Derived.Test.YteppgeiejknhoaaMQ31
import Derived.Test.YteppgeiejknhoaaMQ40
import Derived.Deep.RegionHeld3
import Derived.Deep.AppendLies
import Derived.Outline
import Derived.IntWalk
namespace Go.Proofs.Yteppgeiejknhoaa
set_option maxRecDepth 20000
open Go.RowKit Go.Shelf

theorem WdsAt.drop {W : World} {g off n c : Nat} {l : List Wd} (h : WdsAt W (.slice (some ⟨g, off, none⟩) n c) l) (hn : l.length = n) (h1 : 1 ≤ n) :
    WdsAt W (.slice (if c = 1 then some ⟨g, off, none⟩ else some ⟨g, off + 2, none⟩) (n - 1) (c - 1)) (l.drop 1) := by
  obtain ⟨a, c', e, h2, h3, h⟩ := h
  rw [Value.slice.injEq] at e
  obtain ⟨rfl, _, rfl⟩ := e
  refine ⟨_, _, by rw [List.length_drop, hn], by rw [List.length_drop, hn]; omega, ?_, ?_⟩
  · intro h; split at h <;> cases h
  · rcases h with h | ⟨b, o, e, hb, hcell⟩
    · subst h; simp at hn; omega
    · rw [Option.some.injEq] at e
      cases e
      by_cases h4 : c = 1
      · left; exact List.eq_nil_of_length_eq_zero (by rw [List.length_drop]; omega)
      · right
        rw [if_neg h4]
        refine ⟨g, off + 2, rfl, hb, fun j hj => ?_⟩
        have hj' : j + 1 < l.length := by rw [List.length_drop] at hj; omega
        have := hcell (j + 1) hj'
        rw [show off + (j + 1) * 2 = off + 2 + j * 2 by omega] at this
        rw [List.getElem_drop]
        simp only [Nat.add_comm 1 j]
        exact this
theorem WdsOK.drop {l : List Wd} (h : WdsOK l) (k : Nat) : WdsOK (l.drop k) := ⟨by have := h.1; rw [List.length_drop]; omega, fun x hx => h.2 x (List.mem_of_mem_drop hx)⟩
theorem halvesL_len (l : List Wd) (h : WdsOK l) : (halvesL l).length ≤ l.length * 500000 := by
  have h := h.2
  have key : ∀ l : List Wd, (∀ x ∈ l, x.1.length ≤ 500000) → (halvesL l).length ≤ l.length * 500000 := by
    intro l h
    induction l with
    | nil => simp [halvesL]
    | cons x r ih =>
      have h1 := h x (by simp)
      have h2 := ih (fun y hy => h y (by simp [hy]))
      simp only [halvesL, List.flatMap_cons, List.length_append, List.length_map, List.length_cons] at h2 ⊢
      omega
  exact key l h
theorem pairUp_len : ∀ (n : Nat) (l : List UInt8), l.length = 2 * n → (pairUp l).length = n
  | 0, l, h => by
    have e : l = [] := List.eq_nil_of_length_eq_zero (by omega)
    subst e; rfl
  | n + 1, a :: b :: r, h => by simp only [pairUp, List.length_cons] at h ⊢; rw [pairUp_len n r (by omega)]
  | n + 1, [], h => by simp at h
  | n + 1, [_], h => by simp at h; omega
theorem pairUp_snoc : ∀ (n : Nat) (l : List UInt8) (h : 2 * n + 1 < l.length), pairUp (l.take (2 * (n + 1))) = pairUp (l.take (2 * n)) ++ [UInt8.ofNat (16 * l[2 * n].toNat + l[2 * n + 1].toNat)]
  | 0, a :: b :: r, _ => by simp [pairUp]
  | n + 1, a :: b :: r, h => by
    have h' : 2 * n + 1 < r.length := by simp at h; omega
    have ih := pairUp_snoc n r h'
    have e1 : (a :: b :: r).take (2 * (n + 1 + 1)) = a :: b :: r.take (2 * (n + 1)) := by
      rw [show 2 * (n + 1 + 1) = 2 * (n + 1) + 1 + 1 by omega]; rfl
    have e2 : (a :: b :: r).take (2 * (n + 1)) = a :: b :: r.take (2 * n) := by
      rw [show 2 * (n + 1) = 2 * n + 1 + 1 by omega]; rfl
    rw [e1, e2]
    simp only [pairUp, ih, List.cons_append, List.cons.injEq, List.append_cancel_left_eq, and_true, true_and]
    congr 1
  | 0, [], h => by simp at h
  | 0, [_], h => by simp at h
  | n + 1, [], h => by simp at h
  | n + 1, [_], h => by simp at h
theorem halves_lt {l : List Wd} {x : UInt8} (h : x ∈ halvesL l) : x.toNat < 16 := by
  unfold halvesL at h
  obtain ⟨y, _, hy⟩ := List.mem_flatMap.1 h
  obtain ⟨c, _, rfl⟩ := List.mem_map.1 hy
  have := hexV_lt c
  unfold hexW
  have h : (UInt8.ofNat (hexV c)).toNat = hexV c := by simp; omega
  omega
theorem nibbles (a b : UInt8) (h1 : a.toNat < 16) (h2 : b.toNat < 16) : [Value.int .u8 (bits .or .u8 (IntKind.u8.wrap ((a.toNat : Int) * 16)) (b.toNat : Int))] = [UInt8.ofNat (16 * a.toNat + b.toNat)].map bv := by
  rw [show IntKind.u8.wrap ((a.toNat : Int) * 16) = (a.toNat : Int) * 16 by rw [IntKind.wrap_u8]; omega]
  have h : bits .or .u8 ((a.toNat : Int) * 16) (b.toNat : Int) = ((16 * a.toNat + b.toNat : Nat) : Int) := by
    rw [show ((a.toNat : Int) * 16) = ((16 * a.toNat : Nat) : Int) by omega, u8_or_nat _ _ (by omega) (by omega)]
    congr 1
    have key : ∀ x y : Fin 16, 16 * x.val ||| y.val = 16 * x.val + y.val := by decide
    exact key ⟨_, h1⟩ ⟨_, h2⟩
  have e : (UInt8.ofNat (16 * a.toNat + b.toNat)).toNat = 16 * a.toNat + b.toNat := by simp; omega
  simp only [List.map_cons, List.map_nil, bv, h, e]
theorem counted_addr (t : Int) (xs : List UInt8) (h : t = 1 ∨ t = 28) : countedM ⟨t, [], [], [], xs⟩ = decide (¬ (t = 1 ∧ xs.length ≠ 4 ∨ t = 28 ∧ xs.length ≠ 16)) := by
  rcases h with rfl | rfl
  · rw [countedM_lit _ 0 0 4 rfl (by show (1 : Int) ≠ 16; decide)]; apply decide_eq_decide.2; simp
  · rw [countedM_lit _ 0 0 16 rfl (by show (28 : Int) ≠ 16; decide)]; apply decide_eq_decide.2; simp
/-- The loop over the pairs, cut off: what octetsD says behind its tests. -/
theorem octetsD_known {t : Int} {l : List Wd} (h : knownM t = true) (h2 : ¬ (t = 1 ∨ t = 28)) : octetsD t l = ([], 6) := by unfold octetsD; rw [if_pos ⟨h, h2⟩]
theorem octetsD_nil {t : Int} (h : ¬ (knownM t = true ∧ ¬ (t = 1 ∨ t = 28))) : octetsD t [] = ([], 2) := by unfold octetsD; rw [if_neg h]
theorem octetsD_cons {t : Int} {s : List UInt8} {q : Bool} {r : List Wd} (h : ¬ (knownM t = true ∧ ¬ (t = 1 ∨ t = 28))) : octetsD t ((s, q) :: r) =
    if q then ([], 2) else if (numM s 4294967295).2 ≠ 0 then ([], (numM s 4294967295).2) else if 1024 < (numM s 4294967295).1 then ([], 3) else
    if halvesOK r = false ∨ (halvesL r).length ≠ 2 * (numM s 4294967295).1 then ([], 2) else if (t = 1 ∧ (numM s 4294967295).1 ≠ 4) ∨ (t = 28 ∧ (numM s 4294967295).1 ≠ 16) then ([], 2) else (pairUp (halvesL r), 0) := by
  unfold octetsD; rw [if_neg h]

end Go.Proofs.Yteppgeiejknhoaa

