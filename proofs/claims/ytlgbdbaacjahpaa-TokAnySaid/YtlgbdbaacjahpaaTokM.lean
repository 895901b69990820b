/-
  Words of a zone's text, as plain functions: the program's octet by octet, the document's line by line; they come to the same.
-/
import Derived.Test.YtlgbdbaacjahpaaBytes
namespace Go.Proofs.Ytlgbdbaacjahpaa
set_option maxRecDepth 20000
set_option linter.unusedVariables false

abbrev TW := List UInt8 × Bool
structure Ent where
  line : Nat
  blank : Bool
  words : List TW

/-! ### octet by octet -/
structure KS where
  done : List Ent
  eline : Nat
  eblank : Bool
  ewords : List TW
  begun : Bool
  opn : List Nat
  fresh : Bool
  blank : Bool
  remark : Bool
  word : List UInt8
  inW : Bool
  quoted : Bool
  taken : Bool
def kEndWord (x : KS) : KS := { x with ewords := if x.inW then x.ewords ++ [(x.word, x.quoted)] else x.ewords, word := [], inW := false, quoted := false }
def kStart (x : KS) : KS := if x.begun then x else { x with begun := true, eblank := x.blank }
def kBegin (n : Nat) (x : KS) : KS := if x.inW then x else (if x.ewords = [] then { kStart x with inW := true, eline := n } else { kStart x with inW := true })
def kAdd (n : Nat) (c : UInt8) (x : KS) : KS := { kBegin n x with word := (kBegin n x).word ++ [c] }
def kOpen (n : Nat) (x : KS) : KS × Int := if x.opn.length = 8 then (x, 10) else ({ kStart x with opn := (kStart x).opn ++ [n] }, 0)
def kShut (x : KS) : KS × Int := if x.opn = [] then (x, 2) else ({ x with opn := x.opn.dropLast }, 0)
def kPlain (n : Nat) (c : UInt8) (x : KS) : KS × Int :=
  if c = 32 ∨ c = 9 then (kEndWord x, 0)
  else if c = 59 then ({ kEndWord x with remark := true }, 0)
  else if c = 40 then kOpen n (kEndWord x)
  else if c = 41 then kShut (kEndWord x)
  else if c = 34 then (if x.quoted then (kEndWord x, 0) else ({ kBegin n (kEndWord x) with quoted := true }, 0))
  else (kAdd n c x, 0)
def kRest (x : KS) : KS :=
  if x.opn ≠ [] then x else { x with done := (if x.ewords = [] then x.done else x.done ++ [⟨x.eline, x.eblank, x.ewords⟩]), eline := 0, eblank := false, ewords := [], begun := false }
def kEnd (x : KS) : KS × Int := if x.taken = true ∨ x.quoted = true then (x, 2) else (kRest { kEndWord x with fresh := true, remark := false }, 0)
def kFresh (c : UInt8) (x : KS) : KS := if x.fresh then { x with fresh := false, blank := decide (c = 32 ∨ c = 9) } else x
def kTake0 (n : Nat) (c : UInt8) (x : KS) : KS × Int :=
  if c = 10 then kEnd x
  else if x.remark then (x, 0)
  else if x.taken then ({ x with taken := false, word := x.word ++ [c] }, 0)
  else if c = 92 then ({ kAdd n c x with taken := true }, 0)
  else if x.quoted = true ∧ c ≠ 34 then ({ x with word := x.word ++ [c] }, 0)
  else kPlain n c x
def kTake (n : Nat) (c : UInt8) (x : KS) : KS × Int := kTake0 n c (kFresh c x)
def kRun (n : Nat) : List UInt8 → KS → KS × Int
  | [], x => (x, 0)
  | c :: r, x => if (kTake n c x).2 = 0 then kRun n r (kTake n c x).1 else kTake n c x

/-! ### line by line -/
structure LS where
  out : List Ent
  eline : Nat
  eblank : Bool
  ewords : List TW
  on : Bool
  opn : Nat
  first : Nat
  w : List UInt8
  inn : Bool
def lPut (q : Bool) (n : Nat) (y : LS) : LS := { y with eline := (if y.ewords = [] then n else y.eline), ewords := y.ewords ++ [(y.w, q)], w := [], inn := false }
def lFlush (n : Nat) (y : LS) : LS := if y.inn then lPut false n y else y
def lBegin (b : Bool) (y : LS) : LS := if y.on then y else { y with on := true, eblank := b }
def lEnd (y : LS) : LS := if 0 < y.opn then y else { y with out := (if y.ewords = [] then y.out else y.out ++ [⟨y.eline, y.eblank, y.ewords⟩]), eline := 0, eblank := false, ewords := [], on := false }
def lQuote (w : List UInt8) (l : List UInt8) : Option (List UInt8 × List UInt8) :=
  match l with
  | [] => none
  | c :: r => if c = 34 then some (w, r) else if c = 92 then (match r with | [] => none | y :: r2 => lQuote (w ++ [92, y]) r2) else lQuote (w ++ [c]) r
termination_by l.length
decreasing_by all_goals simp <;> omega
theorem lQ_nil (w : List UInt8) : lQuote w [] = none := by rw [lQuote.eq_def]
theorem lQ_cons (w : List UInt8) (c : UInt8) (r : List UInt8) : lQuote w (c :: r) = if c = 34 then some (w, r) else if c = 92 then (match r with | [] => none | y :: r2 => lQuote (w ++ [92, y]) r2) else lQuote (w ++ [c]) r := by rw [lQuote.eq_def]
theorem lQuote_lt : ∀ (n : Nat) (l w : List UInt8), l.length ≤ n → ∀ p, lQuote w l = some p → p.2.length < l.length := by
  intro n
  induction n with
  | zero =>
    intro l w hl p h
    obtain rfl : l = [] := List.eq_nil_of_length_eq_zero (by omega)
    rw [lQ_nil] at h; cases h
  | succ n ih =>
    intro l w hl p h
    match l with
    | [] => rw [lQ_nil] at h; cases h
    | c :: r =>
      rw [lQ_cons] at h
      simp only [List.length_cons] at hl ⊢
      by_cases h1 : c = 34
      · rw [if_pos h1] at h; cases h; exact Nat.lt_succ_self _
      rw [if_neg h1] at h
      by_cases h2 : c = 92
      · rw [if_pos h2] at h
        match r with
        | [] => cases h
        | y :: r2 =>
          simp only [List.length_cons] at hl ⊢
          have := ih r2 _ (by omega) p h
          omega
      · rw [if_neg h2] at h
        have := ih r _ (by omega) p h
        omega
def lLine (b : Bool) (n : Nat) (l : List UInt8) (y : LS) : LS × Int :=
  match l with
  | [] => (lEnd (lFlush n y), 0)
  | c :: r =>
    if c = 59 then (lEnd (lFlush n y), 0)
    else if c = 32 ∨ c = 9 then lLine b n r (lFlush n y)
    else if c = 40 then
      (if 8 < (lBegin b (lFlush n y)).opn + 1 then (y, 10)
       else lLine b n r { lBegin b (lFlush n y) with first := (if (lBegin b (lFlush n y)).opn = 0 then n else (lBegin b (lFlush n y)).first), opn := (lBegin b (lFlush n y)).opn + 1 })
    else if c = 41 then
      (if (lFlush n y).opn = 0 then (y, 2) else lLine b n r { lFlush n y with opn := (lFlush n y).opn - 1 })
    else if c = 34 then
      (match h : lQuote (lBegin b (lFlush n y)).w r with
       | none => (y, 2)
       | some p => lLine b n p.2 (lPut true n { lBegin b (lFlush n y) with w := p.1 }))
    else if c = 92 then
      (match r with
       | [] => (y, 2)
       | z :: r2 => lLine b n r2 { lBegin b y with inn := true, w := (lBegin b y).w ++ [92, z] })
    else lLine b n r { lBegin b y with inn := true, w := (lBegin b y).w ++ [c] }
termination_by l.length
decreasing_by all_goals (first | (simp only [List.length_cons]; have := lQuote_lt _ _ _ (Nat.le_refl _) _ h; omega) | (simp <;> omega))
end Go.Proofs.Ytlgbdbaacjahpaa
