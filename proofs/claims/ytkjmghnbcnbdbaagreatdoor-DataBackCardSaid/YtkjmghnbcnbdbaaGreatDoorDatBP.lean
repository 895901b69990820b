/-
  Plain facts for DataBack: a text of data taken apart into words, and the words read, are the data again.
-/
import Derived.Test.YtkjmghnbcnbdbaaGreatDoorMQ17
import Derived.Test.YtkjmghnbcnbdbaaGreatDoorMQ14
import Derived.Test.YtkjmghnbcnbdbaaGreatDoorMQ22
import Derived.Test.YtkjmghnbcnbdbaaGreatDoorRefY
import Derived.Test.YtkjmghnbcnbdbaaGreatDoorDatJ4
namespace Go.Proofs.YtkjmghnbcnbdbaaGreatDoor
open Go.RowKit Go.Shelf
set_option maxRecDepth 20000

/-! ### a text as words -/
def wordsG (q : Bool) (w : List UInt8) (l : List UInt8) : List Wd :=
  match l with
  | [] => if w = [] then [] else [(w, false)]
  | c :: r =>
    if c = 92 ∧ r ≠ [] then wordsG q (w ++ c :: r.take 1) (r.drop 1)
    else if c = 34 then (if q then (w, true) :: wordsG false [] r else wordsG true w r)
    else if q then wordsG q (w ++ [c]) r
    else if c = 32 then (if w = [] then wordsG false [] r else (w, false) :: wordsG false [] r)
    else wordsG q (w ++ [c]) r
termination_by l.length
decreasing_by all_goals simp <;> omega
theorem wg_nil (q : Bool) (w : List UInt8) : wordsG q w [] = if w = [] then [] else [(w, false)] := by rw [wordsG]
theorem wg_pair (q : Bool) (w : List UInt8) (y : UInt8) (r : List UInt8) : wordsG q w (92 :: y :: r) = wordsG q (w ++ [92, y]) r := by
  rw [wordsG, if_pos ⟨rfl, by simp⟩]; rfl
theorem wg_shut (w r : List UInt8) : wordsG true w (34 :: r) = (w, true) :: wordsG false [] r := by
  rw [wordsG, if_neg (by rintro ⟨h, _⟩; revert h; decide), if_pos rfl, if_pos rfl]
theorem wg_open (w r : List UInt8) : wordsG false w (34 :: r) = wordsG true w r := by
  rw [wordsG, if_neg (by rintro ⟨h, _⟩; revert h; decide), if_pos rfl, if_neg (by simp)]
theorem wg_in {c : UInt8} (w r : List UInt8) (h1 : c = 92 → r = []) (h2 : c ≠ 34) : wordsG true w (c :: r) = wordsG true (w ++ [c]) r := by
  rw [wordsG, if_neg (by rintro ⟨h, h'⟩; exact h' (h1 h)), if_neg h2, if_pos rfl]
theorem wg_blank (w r : List UInt8) : wordsG false w (32 :: r) = if w = [] then wordsG false [] r else (w, false) :: wordsG false [] r := by
  rw [wordsG, if_neg (by rintro ⟨h, _⟩; revert h; decide), if_neg (by decide), if_neg (by simp), if_pos rfl]
theorem wg_out {c : UInt8} (w r : List UInt8) (h1 : c = 92 → r = []) (h2 : c ≠ 34) (h3 : c ≠ 32) : wordsG false w (c :: r) = wordsG false (w ++ [c]) r := by
  rw [wordsG, if_neg (by rintro ⟨h, h'⟩; exact h' (h1 h)), if_neg h2, if_neg (by simp), if_neg h3]

/-! ### plain words -/
inductive Pl : List UInt8 → Prop
  | nil : Pl []
  | one {c : UInt8} {r : List UInt8} : c ≠ 92 → c ≠ 34 → c ≠ 32 → Pl r → Pl (c :: r)
  | pair {y : UInt8} {r : List UInt8} : Pl r → Pl (92 :: y :: r)
theorem Pl.app {a b : List UInt8} (ha : Pl a) (hb : Pl b) : Pl (a ++ b) := by
  induction ha with
  | nil => exact hb
  | one h1 h2 h3 _ ih => exact .one h1 h2 h3 ih
  | pair _ ih => exact .pair ih
theorem Pl.flat {α : Type} {f : α → List UInt8} (h : ∀ x, Pl (f x)) : ∀ l : List α, Pl (l.flatMap f)
  | [] => .nil
  | x :: r => by rw [List.flatMap_cons]; exact (h x).app (Pl.flat h r)
theorem wg_pl {p : List UInt8} (hp : Pl p) : ∀ (w rest : List UInt8), wordsG false w (p ++ rest) = wordsG false (w ++ p) rest := by
  induction hp with
  | nil => intro w rest; simp
  | one h1 h2 h3 _ ih =>
    intro w rest
    rw [List.cons_append, wg_out _ _ (fun e => absurd e h1) h2 h3, ih]; simp
  | pair _ ih =>
    intro w rest
    rw [List.cons_append, List.cons_append, wg_pair, ih]; simp
theorem wg_sep : ∀ ps : Nm, (∀ p ∈ ps, Pl p ∧ p ≠ []) → wordsG false [] (sepBy [32] ps) = ps.map fun p => (p, false)
  | [], _ => by show wordsG false [] [] = []; rw [wg_nil]; rfl
  | [x], h => by
    obtain ⟨h1, h2⟩ := h x (by simp)
    show wordsG false [] x = [(x, false)]
    have e := wg_pl h1 [] []
    rw [List.append_nil, List.nil_append] at e
    rw [e, wg_nil, if_neg h2]
  | x :: y :: r, h => by
    obtain ⟨h1, h2⟩ := h x (by simp)
    have ih := wg_sep (y :: r) (fun p hp => h p (by simp [hp]))
    have e : sepBy [32] (x :: y :: r) = x ++ (32 :: sepBy [32] (y :: r)) := by simp [sepBy]
    rw [e, wg_pl h1, List.nil_append, wg_blank, if_neg h2, ih]; rfl

/-! ### quoted words -/
theorem u8_all {p : UInt8 → Prop} (h : ∀ n : Fin 256, p (UInt8.ofNat n.1)) (c : UInt8) : p c := by
  have e : UInt8.ofNat c.toNat = c := by simp
  rw [← e]; exact h ⟨c.toNat, c.toNat_lt⟩
theorem esc_digits (c : UInt8) : ((48 + c / 10 % 10 : UInt8) ≠ 34 ∧ (48 + c / 10 % 10 : UInt8) ≠ 92 ∧ (48 + c / 10 % 10 : UInt8) ≠ 32) ∧ ((48 + c % 10 : UInt8) ≠ 34 ∧ (48 + c % 10 : UInt8) ≠ 92 ∧ (48 + c % 10 : UInt8) ≠ 32) := by
  have e2 : (48 + c / 10 % 10 : UInt8).toNat = 48 + c.toNat / 10 % 10 := by have := c.toNat_lt; rw [UInt8.toNat_add, UInt8.toNat_mod, UInt8.toNat_div]; simp only [UInt8.reduceToNat]; omega
  have e3 : (48 + c % 10 : UInt8).toNat = 48 + c.toNat % 10 := by have := c.toNat_lt; rw [UInt8.toNat_add, UInt8.toNat_mod]; simp only [UInt8.reduceToNat]; omega
  have ne : ∀ {x : UInt8} {n : Nat} {k : UInt8}, x.toNat = n → n ≠ k.toNat → x ≠ k := fun h h2 e => h2 (by rw [← h, e])
  refine ⟨⟨ne e2 ?_, ne e2 ?_, ne e2 ?_⟩, ne e3 ?_, ne e3 ?_, ne e3 ?_⟩ <;> (simp only [UInt8.reduceToNat]; omega)
theorem wg_quoteW (c : UInt8) (w rest : List UInt8) : wordsG true w (quoteW c ++ rest) = wordsG true (w ++ quoteW c) rest := by
  unfold quoteW
  by_cases h1 : c = 34 ∨ c = 92
  · rw [if_pos h1]
    show wordsG true w (92 :: c :: rest) = _
    rw [wg_pair]
  · rw [if_neg h1]
    by_cases h2 : c.toNat < 32 ∨ 126 < c.toNat
    · rw [if_pos h2]
      obtain ⟨⟨a1, a2, _⟩, b1, b2, _⟩ := esc_digits c
      show wordsG true w (92 :: (48 + c / 100) :: (48 + c / 10 % 10) :: (48 + c % 10) :: rest) = _
      rw [wg_pair, wg_in _ _ (fun e => absurd e a2) a1, wg_in _ _ (fun e => absurd e b2) b1]
      simp [octetEsc]
    · rw [if_neg h2]
      show wordsG true w (c :: rest) = _
      rw [wg_in _ _ (fun e => absurd (.inr e) h1) (fun e => h1 (.inl e))]
theorem wg_quoteF : ∀ (t w rest : List UInt8), wordsG true w (quoteF t ++ rest) = wordsG true (w ++ quoteF t) rest
  | [], w, rest => by simp [quoteF]
  | c :: t, w, rest => by
    have ih := wg_quoteF t (w ++ quoteW c) rest
    have e : quoteF (c :: t) = quoteW c ++ quoteF t := by simp [quoteF]
    rw [e, List.append_assoc, wg_quoteW, ih]; simp
theorem wg_one (t rest : List UInt8) : wordsG false [] (quotedM t ++ rest) = (quoteF t, true) :: wordsG false [] rest := by
  have e : quotedM t ++ rest = 34 :: (quoteF t ++ 34 :: rest) := by simp [quotedM, quoteF]
  rw [e, wg_open, wg_quoteF, List.nil_append, wg_shut]
theorem wg_txt : ∀ ts : Nm, wordsG false [] (sepBy [32] (ts.map quotedM)) = ts.map fun t => (quoteF t, true)
  | [] => by show wordsG false [] [] = []; rw [wg_nil]; rfl
  | [x] => by
    have e := wg_one x []
    rw [List.append_nil, wg_nil, if_pos rfl] at e
    exact e
  | x :: y :: r => by
    have ih := wg_txt (y :: r)
    have e : sepBy [32] ((x :: y :: r).map quotedM) = quotedM x ++ (32 :: sepBy [32] ((y :: r).map quotedM)) := by simp [sepBy]
    rw [e, wg_one, wg_blank, if_pos rfl, ih]; rfl

/-! ### which words are plain -/
theorem pl_digits {l : List UInt8} (h : allDigits l = true) : Pl l := by
  induction l with
  | nil => exact .nil
  | cons c r ih =>
    unfold allDigits at h
    rw [List.all_cons, Bool.and_eq_true] at h
    have hd := (digitU_iff c).1 h.1
    have ne : ∀ k : UInt8, (k.toNat < 48 ∨ 57 < k.toNat) → c ≠ k := fun k hk e => by subst e; omega
    exact .one (ne 92 (by decide)) (ne 34 (by decide)) (ne 32 (by decide)) (ih h.2)
theorem pl_dec (u : Nat) : Pl (Lib.decDigits u) ∧ Lib.decDigits u ≠ [] := ⟨pl_digits (dec_facts u).1, (dec_facts u).2.2.1⟩
theorem pl_octetW (c : UInt8) : Pl (octetW c) := by
  by_cases hsp : specialU c = true
  · rw [octetW_special hsp]; exact .pair .nil
  have hsp0 : specialU c = false := by simpa using hsp
  by_cases h2 : (c.toNat : Int) < 33 ∨ 126 < (c.toNat : Int)
  · rw [octetW_esc hsp0 h2]
    obtain ⟨⟨a1, a2, a3⟩, b1, b2, b3⟩ := esc_digits c
    exact .pair (.one a2 a1 a3 (.one b2 b1 b3 .nil))
  · rw [octetW_plain hsp0 (by omega) (by omega)]
    have h92 : c ≠ 92 := by intro e; subst e; revert hsp0; decide
    have h34 : c ≠ 34 := by intro e; subst e; revert hsp0; decide
    have h32 : c ≠ 32 := by intro e; subst e; revert h2; decide
    exact .one h92 h34 h32 .nil
theorem pl_textN (n : Nm) : Pl (textN n) ∧ textN n ≠ [] := by
  unfold textN
  by_cases h : n = []
  · rw [if_pos h]; exact ⟨.one (by decide) (by decide) (by decide) .nil, by simp⟩
  · rw [if_neg h]
    refine ⟨Pl.flat (fun x => (Pl.flat pl_octetW x).app (.one (by decide) (by decide) (by decide) .nil)) n, ?_⟩
    cases n with
    | nil => exact absurd rfl h
    | cons x r => simp
theorem pl_sep (sep : UInt8) (h1 : sep ≠ 92) (h2 : sep ≠ 34) (h3 : sep ≠ 32) : ∀ ps : Nm, (∀ p ∈ ps, Pl p) → Pl (sepBy [sep] ps)
  | [], _ => .nil
  | [x], h => h x (by simp)
  | x :: y :: r, h => by
    have ih := pl_sep sep h1 h2 h3 (y :: r) (fun p hp => h p (by simp [hp]))
    have e : sepBy [sep] (x :: y :: r) = x ++ (sep :: sepBy [sep] (y :: r)) := by simp [sepBy]
    rw [e]; exact (h x (by simp)).app (.one h1 h2 h3 ih)
theorem hexC_facts : ∀ k : Fin 16, hexC k.1 ≠ 92 ∧ hexC k.1 ≠ 34 ∧ hexC k.1 ≠ 32 ∧ hexC k.1 ≠ 58 ∧ hexU (hexC k.1) = some k.1 := by decide
theorem hexC_is (k : Nat) (h : k < 16) : hexC k ≠ 92 ∧ hexC k ≠ 34 ∧ hexC k ≠ 32 ∧ hexC k ≠ 58 ∧ hexU (hexC k) = some k := hexC_facts ⟨k, h⟩
theorem pl_hexC (k : Nat) (h : k < 16) : Pl [hexC k] := .one (hexC_is k h).1 (hexC_is k h).2.1 (hexC_is k h).2.2.1 .nil
theorem pl_hexD : ∀ n : Nat, Pl (hexD n) := by
  intro n
  induction n using Nat.strongRecOn with
  | _ n ih =>
    by_cases h : n < 16
    · rw [hexD_small h]; exact pl_hexC n h
    · rw [hexD_big h]; exact (ih (n / 16) (by omega)).app (pl_hexC _ (Nat.mod_lt _ (by omega)))
theorem pl_hex2 (c : UInt8) : Pl (hex2 c) := by
  have := c.toNat_lt
  exact (pl_hexC (c.toNat / 16) (by omega)).app (pl_hexC (c.toNat % 16) (by omega))
theorem hexes_mem : ∀ (l : List UInt8), ∀ x ∈ hexes l, ∃ n, n < 65536 ∧ x = hexD n
  | [], x, h => by simp [hexes] at h
  | [_], x, h => by simp [hexes] at h
  | a :: b :: r, x, h => by
    have h : x = hexD (256 * a.toNat + b.toNat) ∨ x ∈ hexes r := by simpa [hexes] using h
    rcases h with rfl | h
    · exact ⟨_, by have := a.toNat_lt; have := b.toNat_lt; omega, rfl⟩
    · exact hexes_mem r x h
end Go.Proofs.YtkjmghnbcnbdbaaGreatDoor
