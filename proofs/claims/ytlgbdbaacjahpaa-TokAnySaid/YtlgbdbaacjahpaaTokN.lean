/-
  Words of a zone's text: octet by octet and line by line come to the same, for one line.
-/
import Derived.Test.YtlgbdbaacjahpaaTokM
namespace Go.Proofs.Ytlgbdbaacjahpaa
set_option maxRecDepth 20000
set_option linter.unusedSimpArgs false

def kOf (n : Nat) (b : Bool) (y : LS) (ol : List Nat) : KS := ⟨y.out, if y.inn = true ∧ y.ewords = [] then n else y.eline, y.eblank, y.ewords, y.on, ol, false, b, false, y.w, y.inn, false, false⟩
def LOk (y : LS) (ol : List Nat) : Prop := ol.length = y.opn ∧ (0 < y.opn → ol.head? = some y.first) ∧ (y.inn = false → y.w = []) ∧ (y.inn = true → y.on = true) ∧ y.opn ≤ 8
/-- At a line's beginning. -/
def kLs (b : Bool) (y : LS) (ol : List Nat) : KS := { kOf 0 b y ol with fresh := true }

theorem flush_inn (n : Nat) (y : LS) : (lFlush n y).inn = false := by
  unfold lFlush lPut
  cases h : y.inn <;> simp [h]
theorem flush_ok {n : Nat} {y : LS} {ol : List Nat} (h : LOk y ol) : LOk (lFlush n y) ol := by
  obtain ⟨h1, h2, h3, h4, h5⟩ := h
  unfold lFlush lPut LOk
  cases hi : y.inn
  · simp only [Bool.false_eq_true, if_false]; exact ⟨h1, h2, h3, h4, h5⟩
  · simp only [if_true]; exact ⟨h1, h2, fun _ => trivial, fun e => by simp at e, h5⟩
theorem end_word (n : Nat) (b : Bool) {y : LS} {ol : List Nat} (h : LOk y ol) : kEndWord (kOf n b y ol) = kOf n b (lFlush n y) ol := by
  obtain ⟨_, _, h3, _, _⟩ := h
  unfold kEndWord kOf lFlush lPut
  cases hi : y.inn
  · simp [hi, h3 hi]
  · simp [hi]
theorem begin_ok {b : Bool} {y : LS} {ol : List Nat} (h : LOk y ol) : LOk (lBegin b y) ol := by
  obtain ⟨h1, h2, h3, h4, h5⟩ := h
  unfold lBegin LOk
  cases ho : y.on
  · simp only [Bool.false_eq_true, if_false]; exact ⟨h1, h2, h3, fun _ => trivial, h5⟩
  · simp only [if_true]; exact ⟨h1, h2, h3, h4, h5⟩
theorem start_is (n : Nat) (b : Bool) (y : LS) (ol : List Nat) : kStart (kOf n b y ol) = kOf n b (lBegin b y) ol := by
  unfold kStart kOf lBegin
  cases ho : y.on <;> simp [ho]
theorem begin_is (n : Nat) (b : Bool) {y : LS} {ol : List Nat} (h : LOk y ol) : kBegin n (kOf n b y ol) = kOf n b { lBegin b y with inn := true } ol := by
  obtain ⟨_, _, _, h4, _⟩ := h
  cases hi : y.inn
  · unfold kBegin
    rw [start_is]
    have h0 : (kOf n b y ol).inW = false := hi
    have he : (kOf n b y ol).ewords = y.ewords := rfl
    rw [h0, he, if_neg (by simp)]
    by_cases hw : y.ewords = []
    · rw [if_pos hw]
      unfold kOf lBegin
      cases ho : y.on <;> simp [ho, hw]
    · rw [if_neg hw]
      unfold kOf lBegin
      cases ho : y.on <;> simp [ho, hw, hi]
  · have ho := h4 hi
    have h0 : (kOf n b y ol).inW = true := hi
    unfold kBegin
    rw [h0, if_pos rfl]
    unfold kOf lBegin
    simp [ho, hi]
theorem add_is (n : Nat) (b : Bool) (c : UInt8) {y : LS} {ol : List Nat} (h : LOk y ol) : kAdd n c (kOf n b y ol) = kOf n b { lBegin b y with inn := true, w := (lBegin b y).w ++ [c] } ol := by
  unfold kAdd
  rw [begin_is n b h]
  rfl
theorem add_ok {b : Bool} {y : LS} {ol : List Nat} (h : LOk y ol) (w : List UInt8) : LOk { lBegin b y with inn := true, w := w } ol := by
  obtain ⟨h1, h2, h3, h4, h5⟩ := begin_ok (b := b) h
  refine ⟨h1, h2, fun e => by simp at e, fun _ => ?_, h5⟩
  show (lBegin b y).on = true
  unfold lBegin
  cases ho : y.on <;> simp [ho]
theorem put_ok {n : Nat} {y : LS} {ol : List Nat} (h1 : ol.length = y.opn) (h2 : 0 < y.opn → ol.head? = some y.first) (h5 : y.opn ≤ 8) (q : Bool) : LOk (lPut q n y) ol :=
  ⟨h1, h2, fun _ => rfl, fun e => by simp [lPut] at e, h5⟩

theorem take_not_fresh (n : Nat) (c : UInt8) {x : KS} (h : x.fresh = false) : kTake n c x = kTake0 n c x := by
  unfold kTake kFresh
  rw [if_neg (by rw [h]; simp)]
theorem run_cons_ok {n : Nat} {c : UInt8} {r : List UInt8} {x y : KS} (h : kTake n c x = (y, 0)) : kRun n (c :: r) x = kRun n r y := by
  unfold kRun
  rw [h, if_pos rfl]
  cases r <;> rfl
theorem run_cons_err {n : Nat} {c : UInt8} {r : List UInt8} {x y : KS} {e : Int} (h : kTake n c x = (y, e)) (he : e ≠ 0) : kRun n (c :: r) x = (y, e) := by
  unfold kRun
  rw [h, if_neg he]

/-- Behind a remark's sign nothing is read to the line's end. -/
theorem run_remark (n : Nat) : ∀ (r : List UInt8) (x : KS), x.fresh = false → x.remark = true → (∀ c ∈ r, c ≠ 10) → kRun n (r ++ [10]) x = kEnd x
  | [], x, hf, hr, _ => by
    show kRun n [10] x = _
    have ht : kTake n 10 x = kEnd x := by rw [take_not_fresh n 10 hf]; unfold kTake0; rw [if_pos rfl]
    unfold kRun
    rw [ht]
    by_cases h : (kEnd x).2 = 0
    · rw [if_pos h]
      unfold kRun
      exact Prod.ext rfl h.symm
    · rw [if_neg h]
  | c :: r, x, hf, hr, h => by
    have ht : kTake n c x = (x, 0) := by
      rw [take_not_fresh n c hf]
      unfold kTake0
      rw [if_neg (h c (by simp)), if_pos hr]
    rw [List.cons_append, run_cons_ok ht]
    exact run_remark n r x hf hr (fun d hd => h d (by simp [hd]))

/-- Within quotes. -/
def kQ (n : Nat) (b : Bool) (y : LS) (ol : List Nat) (w : List UInt8) : KS := { kOf n b { y with inn := true } ol with word := w, quoted := true }
theorem q_plain (n : Nat) (b : Bool) (y : LS) (ol : List Nat) (w : List UInt8) (c : UInt8) (h1 : c ≠ 10) (h2 : c ≠ 92) (h3 : c ≠ 34) : kTake n c (kQ n b y ol w) = (kQ n b y ol (w ++ [c]), 0) := by
  rw [take_not_fresh n c rfl]
  unfold kTake0
  rw [if_neg h1, if_neg (by simp [kQ, kOf]), if_neg (by simp [kQ, kOf]), if_neg h2, if_pos ⟨rfl, h3⟩]
  rfl
theorem q_pair (n : Nat) (b : Bool) (y : LS) (ol : List Nat) (w : List UInt8) (c : UInt8) (r : List UInt8) (h1 : c ≠ 10) : kRun n (92 :: c :: r) (kQ n b y ol w) = kRun n r (kQ n b y ol (w ++ [92, c])) := by
  have t1 : kTake n 92 (kQ n b y ol w) = ({ kQ n b y ol (w ++ [92]) with taken := true }, 0) := by
    rw [take_not_fresh n 92 rfl]
    unfold kTake0
    rw [if_neg (by decide), if_neg (by simp [kQ, kOf]), if_neg (by simp [kQ, kOf]), if_pos rfl]
    unfold kAdd kBegin
    rw [if_pos (by rfl)]
    rfl
  have t2 : kTake n c { kQ n b y ol (w ++ [92]) with taken := true } = (kQ n b y ol (w ++ [92, c]), 0) := by
    rw [take_not_fresh n c rfl]
    unfold kTake0
    rw [if_neg h1, if_neg (by simp [kQ, kOf]), if_pos rfl]
    simp [kQ, kOf]
  rw [run_cons_ok t1, run_cons_ok t2]
theorem q_shut (n : Nat) (b : Bool) {y : LS} {ol : List Nat} (w : List UInt8) : kTake n 34 (kQ n b y ol w) = (kOf n b (lPut true n { y with w := w }) ol, 0) := by
  rw [take_not_fresh n 34 rfl]
  unfold kTake0
  rw [if_neg (by decide), if_neg (by simp [kQ, kOf]), if_neg (by simp [kQ, kOf]), if_neg (by decide), if_neg (by simp)]
  unfold kPlain
  rw [if_neg (by decide), if_neg (by decide), if_neg (by decide), if_neg (by decide), if_pos rfl, if_pos (by rfl)]
  unfold kEndWord kQ kOf lPut
  simp
theorem q_end (n : Nat) (b : Bool) (y : LS) (ol : List Nat) (w : List UInt8) : (kRun n [10] (kQ n b y ol w)).2 = 2 := by
  have ht : kTake n 10 (kQ n b y ol w) = (kQ n b y ol w, 2) := by
    rw [take_not_fresh n 10 rfl]
    unfold kTake0 kEnd
    rw [if_pos rfl, if_pos (.inr rfl)]
  rw [run_cons_err ht (by decide)]
theorem q_end2 (n : Nat) (b : Bool) (y : LS) (ol : List Nat) (w : List UInt8) : (kRun n [92, 10] (kQ n b y ol w)).2 = 2 := by
  have t1 : kTake n 92 (kQ n b y ol w) = ({ kQ n b y ol (w ++ [92]) with taken := true }, 0) := by
    rw [take_not_fresh n 92 rfl]
    unfold kTake0
    rw [if_neg (by decide), if_neg (by simp [kQ, kOf]), if_neg (by simp [kQ, kOf]), if_pos rfl]
    unfold kAdd kBegin
    rw [if_pos (by rfl)]
    rfl
  have t2 : kTake n 10 { kQ n b y ol (w ++ [92]) with taken := true } = ({ kQ n b y ol (w ++ [92]) with taken := true }, 2) := by
    rw [take_not_fresh n 10 rfl]
    unfold kTake0 kEnd
    rw [if_pos rfl, if_pos (.inl rfl)]
  rw [run_cons_ok t1, run_cons_err t2 (by decide)]
theorem q_run (n : Nat) (b : Bool) (y : LS) (ol : List Nat) : ∀ (m : Nat) (r : List UInt8) (w : List UInt8), r.length ≤ m → (∀ c ∈ r, c ≠ 10) →
    match lQuote w r with
    | none => (kRun n (r ++ [10]) (kQ n b y ol w)).2 = 2
    | some p => kRun n (r ++ [10]) (kQ n b y ol w) = kRun n (p.2 ++ [10]) (kOf n b (lPut true n { y with w := p.1 }) ol) ∧ (∀ c ∈ p.2, c ∈ r) := by
  intro m
  induction m with
  | zero =>
    intro r w hl h
    obtain rfl : r = [] := List.eq_nil_of_length_eq_zero (by omega)
    rw [lQ_nil]
    exact q_end n b y ol w
  | succ m ih =>
    intro r w hl h
    match r with
    | [] => rw [lQ_nil]; exact q_end n b y ol w
    | c :: r =>
      simp only [List.length_cons] at hl
      rw [lQ_cons]
      by_cases h1 : c = 34
      · subst h1
        rw [if_pos rfl]
        exact ⟨by rw [List.cons_append, run_cons_ok (q_shut n b w)], fun c hc => by simp [hc]⟩
      rw [if_neg h1]
      by_cases h2 : c = 92
      · subst h2
        rw [if_pos rfl]
        match r with
        | [] => exact q_end2 n b y ol w
        | z :: r2 =>
          simp only [List.length_cons] at hl
          have i := ih r2 (w ++ [92, z]) (by omega) (fun d hd => h d (by simp [hd]))
          have e : kRun n (92 :: z :: r2 ++ [10]) (kQ n b y ol w) = kRun n (r2 ++ [10]) (kQ n b y ol (w ++ [92, z])) := by rw [List.cons_append, List.cons_append]; exact q_pair n b y ol w z (r2 ++ [10]) (h z (by simp))
          simp only
          rw [e]
          cases hq : lQuote (w ++ [92, z]) r2 with
          | none => rw [hq] at i; exact i
          | some p => rw [hq] at i; exact ⟨i.1, fun d hd => by have := i.2 d hd; simp [this]⟩
      · rw [if_neg h2]
        have i := ih r (w ++ [c]) (by omega) (fun d hd => h d (by simp [hd]))
        have e : kRun n (c :: r ++ [10]) (kQ n b y ol w) = kRun n (r ++ [10]) (kQ n b y ol (w ++ [c])) := run_cons_ok (q_plain n b y ol w c (h c (by simp)) h2 h1)
        rw [e]
        cases hq : lQuote (w ++ [c]) r with
        | none => rw [hq] at i; exact i
        | some p => rw [hq] at i; exact ⟨i.1, fun d hd => by have := i.2 d hd; simp [this]⟩

/-! ### the document's line, case by case -/
theorem lL_nil (b : Bool) (n : Nat) (y : LS) : lLine b n [] y = (lEnd (lFlush n y), 0) := by rw [lLine.eq_def]
theorem lL_remark (b : Bool) (n : Nat) (r : List UInt8) (y : LS) : lLine b n (59 :: r) y = (lEnd (lFlush n y), 0) := by rw [lLine.eq_def]; simp
theorem lL_blank {c : UInt8} (b : Bool) (n : Nat) (r : List UInt8) (y : LS) (h : c = 32 ∨ c = 9) : lLine b n (c :: r) y = lLine b n r (lFlush n y) := by
  rw [lLine.eq_def]
  have h59 : c ≠ 59 := by rcases h with rfl | rfl <;> decide
  simp [h59, h]
theorem lL_open (b : Bool) (n : Nat) (r : List UInt8) (y : LS) : lLine b n (40 :: r) y = (if 8 < (lBegin b (lFlush n y)).opn + 1 then (y, 10)
       else lLine b n r { lBegin b (lFlush n y) with first := (if (lBegin b (lFlush n y)).opn = 0 then n else (lBegin b (lFlush n y)).first), opn := (lBegin b (lFlush n y)).opn + 1 }) := by
  rw [lLine.eq_def]; simp
theorem lL_shut (b : Bool) (n : Nat) (r : List UInt8) (y : LS) : lLine b n (41 :: r) y = (if (lFlush n y).opn = 0 then (y, 2) else lLine b n r { lFlush n y with opn := (lFlush n y).opn - 1 }) := by
  rw [lLine.eq_def]; simp
theorem lL_quote_no (b : Bool) (n : Nat) (r : List UInt8) (y : LS) (h : lQuote (lBegin b (lFlush n y)).w r = none) : lLine b n (34 :: r) y = (y, 2) := by
  rw [lLine.eq_def]
  simp only [show ¬ ((34 : UInt8) = 59) from by decide, show ¬ ((34 : UInt8) = 32 ∨ (34 : UInt8) = 9) from by decide, show ¬ ((34 : UInt8) = 40) from by decide, show ¬ ((34 : UInt8) = 41) from by decide, if_false, if_true]
  split
  · rfl
  · rename_i p h2; rw [h] at h2; cases h2
theorem lL_quote (b : Bool) (n : Nat) (r : List UInt8) (y : LS) (p : List UInt8 × List UInt8) (h : lQuote (lBegin b (lFlush n y)).w r = some p) : lLine b n (34 :: r) y = lLine b n p.2 (lPut true n { lBegin b (lFlush n y) with w := p.1 }) := by
  rw [lLine.eq_def]
  simp only [show ¬ ((34 : UInt8) = 59) from by decide, show ¬ ((34 : UInt8) = 32 ∨ (34 : UInt8) = 9) from by decide, show ¬ ((34 : UInt8) = 40) from by decide, show ¬ ((34 : UInt8) = 41) from by decide, if_false, if_true]
  split
  · rename_i h2; rw [h] at h2; cases h2
  · rename_i p2 h2; rw [h] at h2; cases h2; rfl
theorem lL_stroke_no (b : Bool) (n : Nat) (y : LS) : lLine b n [92] y = (y, 2) := by rw [lLine.eq_def]; simp
theorem lL_stroke (b : Bool) (n : Nat) (z : UInt8) (r : List UInt8) (y : LS) : lLine b n (92 :: z :: r) y = lLine b n r { lBegin b y with inn := true, w := (lBegin b y).w ++ [92, z] } := by rw [lLine.eq_def]; simp
theorem lL_else {c : UInt8} (b : Bool) (n : Nat) (r : List UInt8) (y : LS) (h1 : c ≠ 59) (h2 : ¬ (c = 32 ∨ c = 9)) (h3 : c ≠ 40) (h4 : c ≠ 41) (h5 : c ≠ 34) (h6 : c ≠ 92) : lLine b n (c :: r) y = lLine b n r { lBegin b y with inn := true, w := (lBegin b y).w ++ [c] } := by
  rw [lLine.eq_def]; simp [h1, h2, h3, h4, h5, h6]

theorem rest_is (n : Nat) (b : Bool) {y : LS} {ol : List Nat} (h : LOk y ol) (hi : y.inn = false) : kRest { kOf n b y ol with fresh := true, remark := false } = kLs b (lEnd y) ol ∧ LOk (lEnd y) ol ∧ (lEnd y).inn = false := by
  obtain ⟨h1, h2, h3, h4, h5⟩ := h
  unfold kRest lEnd kLs
  by_cases ho : 0 < y.opn
  · have hol : ol ≠ [] := by intro e; subst e; simp at h1; omega
    rw [if_pos ho, if_pos (show ({ kOf n b y ol with fresh := true, remark := false } : KS).opn ≠ [] from hol)]
    exact ⟨by unfold kOf; simp [hi], ⟨h1, h2, h3, h4, h5⟩, hi⟩
  · have hol : ol = [] := List.eq_nil_of_length_eq_zero (by omega)
    subst hol
    rw [if_neg ho, if_neg (by simp [kOf])]
    refine ⟨by unfold kOf; simp [hi], ⟨h1, fun e => absurd e ho, fun e => h3 e, fun e => ?_, h5⟩, hi⟩
    rw [show ({ y with out := (if y.ewords = [] then y.out else y.out ++ [⟨y.eline, y.eblank, y.ewords⟩]), eline := 0, eblank := false, ewords := [], on := false } : LS).inn = y.inn from rfl, hi] at e
    cases e
theorem end_is (n : Nat) (b : Bool) {y : LS} {ol : List Nat} (h : LOk y ol) : kEnd (kOf n b y ol) = (kLs b (lEnd (lFlush n y)) ol, 0) ∧ LOk (lEnd (lFlush n y)) ol ∧ (lEnd (lFlush n y)).inn = false := by
  obtain ⟨e1, e2, e3⟩ := rest_is n b (flush_ok (n := n) h) (flush_inn n y)
  refine ⟨?_, e2, e3⟩
  unfold kEnd
  rw [if_neg (by simp [kOf]), end_word n b h, e1]

/-- A line, its end with it. -/
theorem line_run (b : Bool) (n : Nat) : ∀ (m : Nat) (t : List UInt8), t.length ≤ m → (∀ c ∈ t, c ≠ 10) → ∀ (y : LS) (ol : List Nat), LOk y ol →
    ((lLine b n t y).2 = 0 ∧ ∃ ol', kRun n (t ++ [10]) (kOf n b y ol) = (kLs b (lLine b n t y).1 ol', 0) ∧ LOk (lLine b n t y).1 ol' ∧ (lLine b n t y).1.inn = false) ∨
    ((lLine b n t y).2 ≠ 0 ∧ (kRun n (t ++ [10]) (kOf n b y ol)).2 = (lLine b n t y).2) := by
  intro m
  induction m with
  | zero =>
    intro t hl _ y ol hok
    obtain rfl : t = [] := List.eq_nil_of_length_eq_zero (by omega)
    obtain ⟨e1, e2, e3⟩ := end_is n b hok
    have ht : kTake n 10 (kOf n b y ol) = (kLs b (lEnd (lFlush n y)) ol, 0) := by
      rw [take_not_fresh n 10 rfl]; unfold kTake0; rw [if_pos rfl, e1]
    left
    rw [lL_nil]
    exact ⟨rfl, ol, run_cons_ok (r := []) ht, e2, e3⟩
  | succ m ih =>
    intro t hl h10 y ol hok
    match t with
    | [] =>
      obtain ⟨e1, e2, e3⟩ := end_is n b hok
      have ht : kTake n 10 (kOf n b y ol) = (kLs b (lEnd (lFlush n y)) ol, 0) := by
        rw [take_not_fresh n 10 rfl]; unfold kTake0; rw [if_pos rfl, e1]
      left
      rw [lL_nil]
      exact ⟨rfl, ol, run_cons_ok (r := []) ht, e2, e3⟩
    | c :: r =>
      simp only [List.length_cons] at hl
      have hc10 : c ≠ 10 := h10 c (by simp)
      have hr10 : ∀ d ∈ r, d ≠ 10 := fun d hd => h10 d (by simp [hd])
      have hfl := flush_ok (n := n) hok
      -- a step that the plain way takes
      have plain : c ≠ 92 → kTake n c (kOf n b y ol) = kPlain n c (kOf n b y ol) := by
        intro h
        rw [take_not_fresh n c rfl]
        unfold kTake0
        rw [if_neg hc10, if_neg (by simp [kOf]), if_neg (by simp [kOf]), if_neg h, if_neg (by simp [kOf])]
      rw [List.cons_append]
      by_cases h59 : c = 59
      · subst h59
        have ht : kTake n 59 (kOf n b y ol) = ({ kOf n b (lFlush n y) ol with remark := true }, 0) := by
          rw [plain (by decide)]
          unfold kPlain
          rw [if_neg (by decide), if_pos rfl, end_word n b hok]
        obtain ⟨e1, e2, e3⟩ := rest_is n b hfl (flush_inn n y)
        left
        rw [lL_remark, run_cons_ok ht, run_remark n r _ rfl rfl hr10]
        refine ⟨rfl, ol, ?_, e2, e3⟩
        unfold kEnd
        rw [if_neg (by simp [kOf])]
        have he : kEndWord { kOf n b (lFlush n y) ol with remark := true } = { kOf n b (lFlush n y) ol with remark := true } := by
          have := flush_inn n y
          have hw := hfl.2.2.1 this
          unfold kEndWord kOf
          simp [this, hw]
        rw [he]
        show (kRest { kOf n b (lFlush n y) ol with fresh := true, remark := false }, 0) = _
        rw [e1]
      by_cases hbl : c = 32 ∨ c = 9
      · have ht : kTake n c (kOf n b y ol) = (kOf n b (lFlush n y) ol, 0) := by
          rw [plain (by rcases hbl with rfl | rfl <;> decide)]
          unfold kPlain
          rw [if_pos hbl, end_word n b hok]
        rw [lL_blank b n r y hbl, run_cons_ok ht]
        exact ih r (by omega) hr10 _ _ hfl
      by_cases h40 : c = 40
      · subst h40
        have hb := begin_ok (b := b) hfl
        have ht0 : kTake n 40 (kOf n b y ol) = kOpen n (kOf n b (lFlush n y) ol) := by
          rw [plain (by decide)]
          unfold kPlain
          rw [if_neg (by decide), if_neg (by decide), if_pos rfl, end_word n b hok]
        have hopn : (lBegin b (lFlush n y)).opn = (lFlush n y).opn := by unfold lBegin; split <;> rfl
        rw [lL_open]
        have hl8 := hb.1
        by_cases h8 : 8 < (lBegin b (lFlush n y)).opn + 1
        · have h8' : ol.length = 8 := by have := hb.2.2.2.2; omega
          have ht : kTake n 40 (kOf n b y ol) = (kOf n b (lFlush n y) ol, 10) := by
            rw [ht0]; unfold kOpen; rw [if_pos (show (kOf n b (lFlush n y) ol).opn.length = 8 from h8')]
          right
          rw [if_pos h8, run_cons_err ht (by decide)]
          exact ⟨by simp, rfl⟩
        · have h8' : ol.length ≠ 8 := by omega
          have ht : kTake n 40 (kOf n b y ol) = (kOf n b { lBegin b (lFlush n y) with first := (if (lBegin b (lFlush n y)).opn = 0 then n else (lBegin b (lFlush n y)).first), opn := (lBegin b (lFlush n y)).opn + 1 } (ol ++ [n]), 0) := by
            rw [ht0]
            unfold kOpen
            rw [if_neg (show ¬ (kOf n b (lFlush n y) ol).opn.length = 8 from h8'), start_is]
            rfl
          rw [if_neg h8, run_cons_ok ht]
          refine ih r (by omega) hr10 _ _ ⟨?_, fun _ => ?_, hb.2.2.1, hb.2.2.2.1, ?_⟩
          · show (ol ++ [n]).length = (lBegin b (lFlush n y)).opn + 1
            rw [List.length_append, hl8]; rfl
          · show (ol ++ [n]).head? = some (if (lBegin b (lFlush n y)).opn = 0 then n else (lBegin b (lFlush n y)).first)
            by_cases h0 : (lBegin b (lFlush n y)).opn = 0
            · obtain rfl : ol = [] := List.eq_nil_of_length_eq_zero (by omega)
              rw [if_pos h0]; rfl
            · rw [if_neg h0]
              have := hb.2.1 (by omega)
              cases ol with
              | nil => simp at this
              | cons a l => exact this
          · show (lBegin b (lFlush n y)).opn + 1 ≤ 8
            omega
      by_cases h41 : c = 41
      · subst h41
        have ht0 : kTake n 41 (kOf n b y ol) = kShut (kOf n b (lFlush n y) ol) := by
          rw [plain (by decide)]
          unfold kPlain
          rw [if_neg (by decide), if_neg (by decide), if_neg (by decide), if_pos rfl, end_word n b hok]
        have hl1 := hfl.1
        rw [lL_shut]
        by_cases h0 : (lFlush n y).opn = 0
        · obtain rfl : ol = [] := List.eq_nil_of_length_eq_zero (by omega)
          have ht : kTake n 41 (kOf n b y []) = (kOf n b (lFlush n y) [], 2) := by
            rw [ht0]; unfold kShut; rw [if_pos (by rfl)]
          right
          rw [if_pos h0, run_cons_err ht (by decide)]
          exact ⟨by simp, rfl⟩
        · have hne : ol ≠ [] := by intro e; subst e; simp at hl1; omega
          have ht : kTake n 41 (kOf n b y ol) = (kOf n b { lFlush n y with opn := (lFlush n y).opn - 1 } ol.dropLast, 0) := by
            rw [ht0]; unfold kShut; rw [if_neg (show ¬ (kOf n b (lFlush n y) ol).opn = [] from hne)]; rfl
          rw [if_neg h0, run_cons_ok ht]
          refine ih r (by omega) hr10 _ _ ⟨?_, fun h => ?_, hfl.2.2.1, hfl.2.2.2.1, ?_⟩
          · show ol.dropLast.length = (lFlush n y).opn - 1
            rw [List.length_dropLast, hl1]
          · have h : 0 < (lFlush n y).opn - 1 := h
            show ol.dropLast.head? = some (lFlush n y).first
            have := hfl.2.1 (by omega)
            match ol with
            | [] => simp at this
            | [a] => simp at hl1; omega
            | a :: a2 :: l => exact this
          · show (lFlush n y).opn - 1 ≤ 8
            have := hfl.2.2.2.2; omega
      by_cases h34 : c = 34
      · subst h34
        have hb := begin_ok (b := b) hfl
        have hw0 : (lBegin b (lFlush n y)).w = [] := by
          have h1 := hfl.2.2.1 (flush_inn n y)
          unfold lBegin
          split <;> exact h1
        have ht : kTake n 34 (kOf n b y ol) = (kQ n b (lBegin b (lFlush n y)) ol [], 0) := by
          rw [plain (by decide)]
          unfold kPlain
          rw [if_neg (by decide), if_neg (by decide), if_neg (by decide), if_neg (by decide), if_pos rfl, if_neg (by simp [kOf]), end_word n b hok, begin_is n b hfl]
          unfold kQ kOf
          simp [hw0]
        have hq := q_run n b (lBegin b (lFlush n y)) ol r.length r [] (Nat.le_refl _) hr10
        rw [run_cons_ok ht]
        cases hlq : lQuote [] r with
        | none =>
          rw [hlq] at hq
          right
          rw [lL_quote_no b n r y (by rw [hw0]; exact hlq)]
          exact ⟨by simp, hq⟩
        | some p =>
          rw [hlq] at hq
          obtain ⟨q1, q2⟩ := hq
          have hlt := lQuote_lt _ r [] (Nat.le_refl _) p hlq
          rw [lL_quote b n r y p (by rw [hw0]; exact hlq), q1]
          exact ih p.2 (by omega) (fun d hd => hr10 d (q2 d hd)) _ _ (put_ok (n := n) (y := { lBegin b (lFlush n y) with w := p.1 }) hb.1 hb.2.1 hb.2.2.2.2 true)
      by_cases h92 : c = 92
      · subst h92
        have ht : kTake n 92 (kOf n b y ol) = ({ kOf n b { lBegin b y with inn := true, w := (lBegin b y).w ++ [92] } ol with taken := true }, 0) := by
          rw [take_not_fresh n 92 rfl]
          unfold kTake0
          rw [if_neg (by decide), if_neg (by simp [kOf]), if_neg (by simp [kOf]), if_pos rfl, add_is n b 92 hok]
        rw [run_cons_ok ht]
        match r with
        | [] =>
          have t2 : kTake n 10 { kOf n b { lBegin b y with inn := true, w := (lBegin b y).w ++ [92] } ol with taken := true } = ({ kOf n b { lBegin b y with inn := true, w := (lBegin b y).w ++ [92] } ol with taken := true }, 2) := by
            rw [take_not_fresh n 10 rfl]
            unfold kTake0 kEnd
            rw [if_pos rfl, if_pos (.inl rfl)]
          right
          rw [lL_stroke_no]
          refine ⟨by simp, ?_⟩
          show (kRun n [10] _).2 = 2
          rw [run_cons_err t2 (by decide)]
        | z :: r2 =>
          simp only [List.length_cons] at hl
          have hz10 : z ≠ 10 := hr10 z (by simp)
          have t2 : kTake n z { kOf n b { lBegin b y with inn := true, w := (lBegin b y).w ++ [92] } ol with taken := true } = (kOf n b { lBegin b y with inn := true, w := (lBegin b y).w ++ [92, z] } ol, 0) := by
            rw [take_not_fresh n z rfl]
            unfold kTake0
            rw [if_neg hz10, if_neg (by simp [kOf]), if_pos rfl]
            simp [kOf]
          rw [lL_stroke, List.cons_append, run_cons_ok t2]
          exact ih r2 (by omega) (fun d hd => hr10 d (by simp [hd])) _ _ (add_ok hok _)
      have ht : kTake n c (kOf n b y ol) = (kOf n b { lBegin b y with inn := true, w := (lBegin b y).w ++ [c] } ol, 0) := by
        rw [plain h92]
        unfold kPlain
        rw [if_neg hbl, if_neg h59, if_neg h40, if_neg h41, if_neg h34, add_is n b c hok]
      rw [lL_else b n r y h59 hbl h40 h41 h34 h92, run_cons_ok ht]
      exact ih r (by omega) hr10 _ _ (add_ok hok _)
end Go.Proofs.Ytlgbdbaacjahpaa
