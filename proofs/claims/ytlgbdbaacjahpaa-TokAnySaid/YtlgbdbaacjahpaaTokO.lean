/-
  Words of a zone's text: octet by octet and line by line come to the same, for a whole text.
-/
import Derived.Test.YtlgbdbaacjahpaaTokN
namespace Go.Proofs.Ytlgbdbaacjahpaa
set_option maxRecDepth 20000
set_option linter.unusedSimpArgs false

/-- The text's octets with their lines; every line has an end. -/
def octE (n : Nat) (p : Bool) : List UInt8 → List (Nat × UInt8)
  | [] => if p then [(n, 10)] else []
  | c :: r => if c = 13 ∧ r.head? = some 10 then octE n true r else (n, c) :: octE (if c = 10 then n + 1 else n) (decide (c ≠ 10)) r
def kTxt : List (Nat × UInt8) → KS → KS × Nat × Int
  | [], x => (x, 0, 0)
  | p :: r, x => if (kTake p.1 p.2 x).2 = 0 then kTxt r (kTake p.1 p.2 x).1 else ((kTake p.1 p.2 x).1, p.1, (kTake p.1 p.2 x).2)
/-- A line without its end: a 13 right ahead of the end is left out. -/
def noCR (t : List UInt8) : List UInt8 := if t.getLast? = some 13 then t.dropLast else t
def blankOf (t : List UInt8) : Bool := match t with | [] => false | c :: _ => decide (c = 32 ∨ c = 9)
/-- The line at the head of a text and what is behind it; none behind: it has no end. -/
def lTxt : Nat → Nat → List UInt8 → LS → LS × Nat × Int
  | 0, _, _, y => (y, 0, 0)
  | m + 1, n, l, y =>
    if l = [] then (y, 0, 0)
    else match l.dropWhile (fun c => c != 10) with
      | [] => if (lLine (blankOf l) n l y).2 = 0 then ((lLine (blankOf l) n l y).1, 0, 0) else ((lLine (blankOf l) n l y).1, n, (lLine (blankOf l) n l y).2)
      | _ :: r =>
        if (lLine (blankOf (noCR (l.takeWhile (fun c => c != 10)))) n (noCR (l.takeWhile (fun c => c != 10))) y).2 = 0 then lTxt m (n + 1) r (lLine (blankOf (noCR (l.takeWhile (fun c => c != 10)))) n (noCR (l.takeWhile (fun c => c != 10))) y).1
        else ((lLine (blankOf (noCR (l.takeWhile (fun c => c != 10)))) n (noCR (l.takeWhile (fun c => c != 10))) y).1, n, (lLine (blankOf (noCR (l.takeWhile (fun c => c != 10)))) n (noCR (l.takeWhile (fun c => c != 10))) y).2)

theorem txt_append (n : Nat) : ∀ (t : List UInt8) (r : List (Nat × UInt8)) (x : KS),
    kTxt (t.map (fun c => (n, c)) ++ r) x = if (kRun n t x).2 = 0 then kTxt r (kRun n t x).1 else ((kRun n t x).1, n, (kRun n t x).2) := by
  intro t
  induction t with
  | nil => intro r x; simp [kRun]
  | cons c t ih =>
    intro r x
    rw [List.map_cons, List.cons_append, kTxt, kRun.eq_def]
    simp only
    by_cases h : (kTake n c x).2 = 0
    · rw [if_pos h, if_pos h, ih]
    · rw [if_neg h, if_neg h, if_neg h]

theorem oct_open (n : Nat) : ∀ (t : List UInt8) (p : Bool), (∀ c ∈ t, c ≠ 10) → t ≠ [] → octE n p t = (t ++ [10]).map (fun c => (n, c)) := by
  intro t
  induction t with
  | nil => intro p _ h; exact absurd rfl h
  | cons c t ih =>
    intro p h10 _
    have hc : c ≠ 10 := h10 c (by simp)
    have hn : ¬ (c = 13 ∧ t.head? = some 10) := by
      rintro ⟨_, h⟩
      cases t with
      | nil => cases h
      | cons d t =>
        simp only [List.head?_cons, Option.some.injEq] at h
        exact h10 d (by simp) h
    rw [octE, if_neg hn, if_neg hc]
    by_cases ht : t = []
    · subst ht; simp [octE, hc]
    · rw [ih _ (fun d hd => h10 d (by simp [hd])) ht]; rfl

theorem noCR_cons (c : UInt8) (d : UInt8) (t : List UInt8) : noCR (c :: d :: t) = c :: noCR (d :: t) := by
  unfold noCR
  rw [List.getLast?_cons_cons]
  by_cases h : (d :: t).getLast? = some 13
  · rw [if_pos h, if_pos h]; rfl
  · rw [if_neg h, if_neg h]

theorem oct_line (n : Nat) : ∀ (t r : List UInt8) (p : Bool), (∀ c ∈ t, c ≠ 10) → octE n p (t ++ 10 :: r) = (noCR t ++ [10]).map (fun c => (n, c)) ++ octE (n + 1) false r := by
  intro t
  induction t with
  | nil => intro r p _; simp [octE, noCR]
  | cons c t ih =>
    intro r p h10
    have hc : c ≠ 10 := h10 c (by simp)
    have h10' : ∀ d ∈ t, d ≠ 10 := fun d hd => h10 d (by simp [hd])
    rw [List.cons_append, octE]
    cases t with
    | nil =>
      by_cases h13 : c = 13
      · subst h13; simp [octE, noCR]
      · rw [if_neg (by rintro ⟨h, _⟩; exact h13 h), if_neg hc, ih r _ h10']
        have : noCR [c] = [c] := by unfold noCR; rw [if_neg (by simpa using h13)]
        rw [this]
        simp [noCR]
    | cons d t =>
      have hd : d ≠ 10 := h10' d (by simp)
      rw [if_neg (by rintro ⟨_, h⟩; simp only [List.cons_append, List.head?_cons, Option.some.injEq] at h; exact hd h), if_neg hc, ih r _ h10', noCR_cons]
      rfl

theorem noCR_10 {t : List UInt8} (h : ∀ c ∈ t, c ≠ 10) : ∀ c ∈ noCR t, c ≠ 10 := by
  intro c hc
  unfold noCR at hc
  split at hc
  · exact h c (List.dropLast_subset t hc)
  · exact h c hc

theorem kls_of (n : Nat) (b : Bool) {y : LS} (ol : List Nat) (hi : y.inn = false) : kLs b y ol = { kOf n b y ol with fresh := true } := by
  unfold kLs kOf
  simp [hi]

/-- The first octet of a line tells whether it begins with a blank. -/
theorem fresh_run (n : Nat) (b : Bool) {y : LS} (ol : List Nat) (hi : y.inn = false) (t : List UInt8) : kRun n (t ++ [10]) (kLs b y ol) = kRun n (t ++ [10]) (kOf n (blankOf t) y ol) := by
  have key : ∀ (c : UInt8) (r : List UInt8) (b' : Bool), decide (c = 32 ∨ c = 9) = b' → kRun n (c :: r) (kLs b y ol) = kRun n (c :: r) (kOf n b' y ol) := by
    intro c r b' hb
    have h : kTake n c (kLs b y ol) = kTake n c (kOf n b' y ol) := by
      rw [take_not_fresh n c (x := kOf n b' y ol) rfl, kls_of n b ol hi]
      unfold kTake kFresh
      rw [if_pos rfl, hb]
      rfl
    rw [kRun.eq_def, kRun.eq_def]
    simp only
    rw [h]
  cases t with
  | nil => exact key 10 [] false (by decide)
  | cons c r => exact key c (r ++ [10]) _ rfl

theorem take_10 (l : List UInt8) : ∀ c ∈ l.takeWhile (fun c => c != 10), c ≠ 10 := by
  induction l with
  | nil => intro c hc; simp at hc
  | cons d l ih =>
    intro c hc
    rw [List.takeWhile_cons] at hc
    split at hc
    · rename_i hd
      rcases List.mem_cons.1 hc with e | e
      · subst e; simpa using hd
      · exact ih c e
    · simp at hc
theorem drop_10 {l : List UInt8} {c : UInt8} {r : List UInt8} (h : l.dropWhile (fun c => c != 10) = c :: r) : c = 10 := by
  induction l with
  | nil => simp at h
  | cons d l ih =>
    rw [List.dropWhile_cons] at h
    split at h
    · exact ih h
    · rename_i hd
      cases h
      simpa using hd

theorem txt_run : ∀ (m : Nat) (l : List UInt8), l.length < m → ∀ (n : Nat) (b : Bool) (y : LS) (ol : List Nat), LOk y ol → y.inn = false →
    ((lTxt m n l y).2 = (0, 0) ∧ ∃ b' ol', kTxt (octE n false l) (kLs b y ol) = (kLs b' (lTxt m n l y).1 ol', 0, 0) ∧ LOk (lTxt m n l y).1 ol') ∨
    ((lTxt m n l y).2.2 ≠ 0 ∧ (kTxt (octE n false l) (kLs b y ol)).2 = (lTxt m n l y).2) := by
  intro m
  induction m with
  | zero => intro l hl; omega
  | succ m ih =>
    intro l hl n b y ol hok hi
    by_cases hl0 : l = []
    · subst hl0
      left
      exact ⟨rfl, b, ol, rfl, hok⟩
    have hsplit := List.takeWhile_append_dropWhile (p := fun c : UInt8 => c != 10) (l := l)
    have h10 := take_10 l
    cases hd : l.dropWhile (fun c => c != 10) with
    | nil =>
      rw [hd, List.append_nil] at hsplit
      rw [hsplit] at h10
      have hlT : lTxt (m + 1) n l y = if (lLine (blankOf l) n l y).2 = 0 then ((lLine (blankOf l) n l y).1, 0, 0) else ((lLine (blankOf l) n l y).1, n, (lLine (blankOf l) n l y).2) := by
        rw [lTxt, if_neg hl0, hd]
      have hk : kTxt (octE n false l) (kLs b y ol) = if (kRun n (l ++ [10]) (kOf n (blankOf l) y ol)).2 = 0 then ((kRun n (l ++ [10]) (kOf n (blankOf l) y ol)).1, 0, 0) else ((kRun n (l ++ [10]) (kOf n (blankOf l) y ol)).1, n, (kRun n (l ++ [10]) (kOf n (blankOf l) y ol)).2) := by
        have e := txt_append n (l ++ [10]) [] (kLs b y ol)
        rw [List.append_nil] at e
        rw [oct_open n l false h10 hl0, e, fresh_run n b ol hi]
        rfl
      rcases line_run (blankOf l) n l.length l (Nat.le_refl _) h10 y ol hok with ⟨h0, ol', e1, e2, _⟩ | ⟨h0, e1⟩
      · left
        rw [hlT, if_pos h0, hk, e1]
        exact ⟨rfl, _, ol', rfl, e2⟩
      · right
        rw [hlT, if_neg h0, hk, e1, if_neg h0]
        exact ⟨h0, rfl⟩
    | cons c r =>
      obtain rfl := drop_10 hd
      rw [hd] at hsplit
      have hlen : r.length < m := by
        have := congrArg List.length hsplit
        simp only [List.length_append, List.length_cons] at this
        omega
      have hlT : lTxt (m + 1) n l y = if (lLine (blankOf (noCR (l.takeWhile (fun c => c != 10)))) n (noCR (l.takeWhile (fun c => c != 10))) y).2 = 0 then lTxt m (n + 1) r (lLine (blankOf (noCR (l.takeWhile (fun c => c != 10)))) n (noCR (l.takeWhile (fun c => c != 10))) y).1
        else ((lLine (blankOf (noCR (l.takeWhile (fun c => c != 10)))) n (noCR (l.takeWhile (fun c => c != 10))) y).1, n, (lLine (blankOf (noCR (l.takeWhile (fun c => c != 10)))) n (noCR (l.takeWhile (fun c => c != 10))) y).2) := by
        rw [lTxt, if_neg hl0, hd]
      rw [hlT]
      generalize hgt : l.takeWhile (fun c => c != 10) = t at hsplit h10 ⊢
      have hk : kTxt (octE n false l) (kLs b y ol) = if (kRun n (noCR t ++ [10]) (kOf n (blankOf (noCR t)) y ol)).2 = 0 then kTxt (octE (n + 1) false r) (kRun n (noCR t ++ [10]) (kOf n (blankOf (noCR t)) y ol)).1 else ((kRun n (noCR t ++ [10]) (kOf n (blankOf (noCR t)) y ol)).1, n, (kRun n (noCR t ++ [10]) (kOf n (blankOf (noCR t)) y ol)).2) := by
        rw [← hsplit, oct_line n t r false h10, txt_append, fresh_run n b ol hi]
      rcases line_run (blankOf (noCR t)) n (noCR t).length (noCR t) (Nat.le_refl _) (noCR_10 h10) y ol hok with ⟨h0, ol', e1, e2, e3⟩ | ⟨h0, e1⟩
      · rw [if_pos h0, hk, e1, if_pos rfl]
        exact ih r hlen (n + 1) _ _ ol' e2 e3
      · right
        rw [if_neg h0, hk, e1, if_neg h0]
        exact ⟨h0, rfl⟩

/-! ### the answers -/
def ls0 : LS := ⟨[], 0, false, [], false, 0, 0, [], false⟩
def ks0 : KS := ⟨[], 0, false, [], false, [], true, false, false, [], false, false, false⟩
def entK (s : List UInt8) : List Ent × Nat × Int :=
  if (kTxt (octE 1 false s) ks0).2.2 ≠ 0 then ([], (kTxt (octE 1 false s) ks0).2.1, (kTxt (octE 1 false s) ks0).2.2)
  else match (kTxt (octE 1 false s) ks0).1.opn with
    | a :: _ => ([], a, 2)
    | [] => ((kTxt (octE 1 false s) ks0).1.done, 0, 0)
def entL (s : List UInt8) : List Ent × Nat × Int :=
  if (lTxt (s.length + 1) 1 s ls0).2.2 ≠ 0 then ([], (lTxt (s.length + 1) 1 s ls0).2.1, (lTxt (s.length + 1) 1 s ls0).2.2)
  else if 0 < (lTxt (s.length + 1) 1 s ls0).1.opn then ([], (lTxt (s.length + 1) 1 s ls0).1.first, 2)
  else ((lTxt (s.length + 1) 1 s ls0).1.out, 0, 0)
theorem ent_same (s : List UInt8) : entK s = entL s := by
  have h0 : LOk ls0 [] := ⟨rfl, fun h => absurd h (by decide), fun _ => rfl, fun h => absurd h (by decide), by decide⟩
  have hr := txt_run (s.length + 1) s (Nat.lt_succ_self _) 1 false ls0 [] h0 rfl
  have hk : kLs false ls0 [] = ks0 := rfl
  rw [hk] at hr
  unfold entK entL
  rcases hr with ⟨e1, b', ol', e2, e3⟩ | ⟨e1, e2⟩
  · rw [e1, e2]
    simp only [ne_eq, not_true_eq_false, if_false]
    obtain ⟨f1, f2, _⟩ := e3
    have ho : (kLs b' (lTxt (s.length + 1) 1 s ls0).1 ol').opn = ol' := rfl
    have hd : (kLs b' (lTxt (s.length + 1) 1 s ls0).1 ol').done = (lTxt (s.length + 1) 1 s ls0).1.out := rfl
    rw [ho, hd]
    cases ol' with
    | nil =>
      simp only [List.length_nil] at f1
      rw [if_neg (by omega)]
    | cons a ol' =>
      simp only [List.length_cons] at f1
      have := f2 (by omega)
      simp only [List.head?_cons, Option.some.injEq] at this
      rw [if_pos (by omega), ← this]
  · rw [e2, if_pos e1, if_pos e1]
end Go.Proofs.Ytlgbdbaacjahpaa
