/-
  The document's data: small helpers (apart, counts).
-/
import Derived.Test.YteppgeiejknhoaaMQ26
import Derived.Test.YteppgeiejknhoaaMQ18
import Derived.Shelf.Small.Wraps
import Derived.Ground.Names2Prog
import Derived.Shelf.Slices.Clone
import Derived.Shelf.Slices.SearchI
import Derived.Ground.SlgnProg
import Derived.Shelf.SlicesE.Clone
import Derived.Test.YteppgeiejknhoaaProg
namespace Go.Proofs.Yteppgeiejknhoaa
set_option maxRecDepth 20000
open Go.RowKit Go.Shelf

/-- How many names, numbers, octets a type has. -/
def countsM (t : Int) : Int × Int × Int :=
  if t = 1 then (0, 0, 4) else if t = 28 then (0, 0, 16) else if t = 2 ∨ t = 5 ∨ t = 12 ∨ t = 39 then (1, 0, 0) else if t = 15 then (1, 1, 0) else if t = 6 then (2, 5, 0) else if t = 16 then (0, 0, 0) else (0, 0, -1)
def CountsPost (t : Int) (w : World) (e : Ending) (w' : World) : Prop := e = .returned (.tuple #[.int .i64 (countsM t).1, .int .i64 (countsM t).2.1, .int .i64 (countsM t).2.2]) ∧ w' = w

set_option maxHeartbeats 2000000 in
theorem ref_counts (t : Int) (w : World) : Calls Try.prog 89 #[.int .i64 t] w (CountsPost t w) := by
  have lit : ∀ k : Int, t = k → ∀ c, countsM k = c → Calls Try.prog 89 #[.int .i64 k] w (fun e w' => e = .returned (.tuple #[.int .i64 c.1, .int .i64 c.2.1, .int .i64 c.2.2]) ∧ w' = w) → Calls Try.prog 89 #[.int .i64 t] w (CountsPost t w) := by
    rintro k rfl c rfl h; exact h
  by_cases h1 : t = 1
  · refine lit _ h1 _ rfl ?_
    go_enter Try.func89, Try.ntmps89
    go_wp2
    go_ret3
    exact ⟨rfl, rfl⟩
  by_cases h2 : t = 28
  · refine lit _ h2 _ rfl ?_
    go_enter Try.func89, Try.ntmps89
    go_wp2
    go_ret3
    exact ⟨rfl, rfl⟩
  by_cases h3 : t = 2
  · refine lit _ h3 _ rfl ?_
    go_enter Try.func89, Try.ntmps89
    go_wp2
    go_ret3
    exact ⟨rfl, rfl⟩
  by_cases h4 : t = 5
  · refine lit _ h4 _ rfl ?_
    go_enter Try.func89, Try.ntmps89
    go_wp2
    go_ret3
    exact ⟨rfl, rfl⟩
  by_cases h5 : t = 12
  · refine lit _ h5 _ rfl ?_
    go_enter Try.func89, Try.ntmps89
    go_wp2
    go_ret3
    exact ⟨rfl, rfl⟩
  by_cases h6 : t = 39
  · refine lit _ h6 _ rfl ?_
    go_enter Try.func89, Try.ntmps89
    go_wp2
    go_ret3
    exact ⟨rfl, rfl⟩
  by_cases h7 : t = 15
  · refine lit _ h7 _ rfl ?_
    go_enter Try.func89, Try.ntmps89
    go_wp2
    go_ret3
    exact ⟨rfl, rfl⟩
  by_cases h8 : t = 6
  · refine lit _ h8 _ rfl ?_
    go_enter Try.func89, Try.ntmps89
    go_wp2
    go_ret3
    exact ⟨rfl, rfl⟩
  by_cases h9 : t = 16
  · refine lit _ h9 _ rfl ?_
    go_enter Try.func89, Try.ntmps89
    go_wp2
    go_ret3
    exact ⟨rfl, rfl⟩
  have hc : countsM t = (0, 0, -1) := by
    unfold countsM
    rw [if_neg h1, if_neg h2, if_neg (by omega), if_neg h7, if_neg h8, if_neg h9]
  have HC := Lib.hid hc; clear hc lit
  have e1 : (t == 1) = false := by simpa using h1
  have e2 : (t == 28) = false := by simpa using h2
  have e3 : (t == 2) = false := by simpa using h3
  have e4 : (t == 5) = false := by simpa using h4
  have e5 : (t == 12) = false := by simpa using h5
  have e6 : (t == 39) = false := by simpa using h6
  have e7 : (t == 15) = false := by simpa using h7
  have e8 : (t == 6) = false := by simpa using h8
  have e9 : (t == 16) = false := by simpa using h9
  clear h1 h2 h3 h4 h5 h6 h7 h8 h9
  go_enter Try.func89, Try.ntmps89
  go_wp2
  go_ret3
  exact ⟨by rw [HC.out]; rfl, rfl⟩
end Go.Proofs.Yteppgeiejknhoaa

/-
  Data: what they may be, as plain functions and facts.
-/
namespace Go.Proofs.Yteppgeiejknhoaa
set_option maxRecDepth 20000
open Go.RowKit Go.Shelf

/-! ### scanning by steps -/
section
variable (f : List UInt8 → List UInt8 × Nat × Int)
/-- A step reads something from the front: what, how many octets, an error. -/
def gscanM : Nat → List UInt8 → List UInt8 × Int
  | _, [] => ([], 0)
  | 0, _ :: _ => ([], 2)
  | n + 1, x :: r =>
    if (f (x :: r)).2.2 = 0 then
      (if (gscanM n ((x :: r).drop (f (x :: r)).2.1)).2 = 0 then ((f (x :: r)).1 ++ (gscanM n ((x :: r).drop (f (x :: r)).2.1)).1, 0) else ([], (gscanM n ((x :: r).drop (f (x :: r)).2.1)).2))
    else ([], (f (x :: r)).2.2)
def gscan (l : List UInt8) : List UInt8 × Int := gscanM f l.length l
def GStep : Prop := ∀ l, l ≠ [] → (f l).2.2 = 0 → 1 ≤ (f l).2.1 ∧ (f l).2.1 ≤ l.length
variable {f}
theorem gscanM_fuel (hf : GStep f) : ∀ (n : Nat) (l : List UInt8), l.length ≤ n → gscanM f n l = gscan f l := by
  intro n
  induction n using Nat.strongRecOn with
  | _ n ih =>
    intro l hl
    match l, n with
    | [], _ => simp [gscanM, gscan]
    | x :: r, 0 => simp at hl
    | x :: r, n + 1 =>
      unfold gscan
      simp only [List.length_cons, gscanM]
      by_cases h : (f (x :: r)).2.2 = 0
      · have hs := hf _ (by simp) h
        have hd : ((x :: r).drop (f (x :: r)).2.1).length ≤ r.length := by simp at hs ⊢; omega
        simp only [List.length_cons] at hl
        have e1 := ih n (by omega) _ (Nat.le_trans hd (by omega))
        rw [e1]
        by_cases hn : r.length = n
        · rw [hn, e1]
        · rw [ih r.length (by omega) _ hd]
      · simp [h]
theorem gscanM_clean (n : Nat) (l : List UInt8) (h : (gscanM f n l).2 ≠ 0) : (gscanM f n l).1 = [] := by
  match n, l with
  | _, [] => simp [gscanM]
  | 0, _ :: _ => simp [gscanM]
  | n + 1, x :: r =>
    simp only [gscanM] at h ⊢
    by_cases h1 : (f (x :: r)).2.2 = 0
    · by_cases h2 : (gscanM f n ((x :: r).drop (f (x :: r)).2.1)).2 = 0
      · simp [h1, h2] at h
      · simp [h1, h2]
    · simp [h1]
theorem gscan_nil : gscan f [] = ([], 0) := rfl
theorem gscan_err {l : List UInt8} (h0 : l ≠ []) (h : (f l).2.2 ≠ 0) : gscan f l = ([], (f l).2.2) := by
  match l, h0 with
  | x :: r, _ => unfold gscan; simp only [List.length_cons, gscanM]; rw [if_neg h]
theorem gscan_ok (hf : GStep f) {l : List UInt8} (h0 : l ≠ []) (h : (f l).2.2 = 0) : gscan f l = join (f l).1 (gscan f (l.drop (f l).2.1)) := by
  match l, h0 with
  | x :: r, _ =>
    have hs := hf (x :: r) (by simp) h
    have hd : ((x :: r).drop (f (x :: r)).2.1).length ≤ r.length := by simp at hs ⊢; omega
    have e : gscan f (x :: r) = gscanM f (r.length + 1) (x :: r) := rfl
    rw [e, gscanM, if_pos h, gscanM_fuel hf _ _ hd]
    unfold join; simp
theorem gjoin_nil (l : List UInt8) : gscan f l = join [] (gscan f l) := by
  unfold join
  by_cases h : (gscan f l).2 = 0
  · rw [if_pos h, List.nil_append, ← h]
  · rw [if_neg h, ← gscanM_clean (f := f) l.length l h]; rfl
end

/-! ### texts -/
def tSize (l : List UInt8) : Nat := min (match l with | _ :: y :: _ => if digitU y then 4 else 2 | _ => 2) l.length
def tStep (l : List UInt8) : List UInt8 × Nat × Int :=
  match l with
  | [] => ([], 0, 2)
  | x :: r => if x ≠ 92 then ([x], 1, 0) else ((parseM ((x :: r).take (tSize (x :: r)))).1, tSize (x :: r), (parseM ((x :: r).take (tSize (x :: r)))).2)
theorem tStep_ok : GStep tStep := by
  intro l h0 _
  match l, h0 with
  | x :: r, _ =>
    have e : tStep (x :: r) = if x ≠ 92 then ([x], 1, 0) else ((parseM ((x :: r).take (tSize (x :: r)))).1, tSize (x :: r), (parseM ((x :: r).take (tSize (x :: r)))).2) := rfl
    rw [e]
    by_cases h : x ≠ 92
    · rw [if_pos h]; exact ⟨Nat.le_refl _, by simp⟩
    · rw [if_neg h]
      have h2 : 1 ≤ tSize (x :: r) ∧ tSize (x :: r) ≤ (x :: r).length := by
        unfold tSize
        refine ⟨?_, Nat.min_le_right _ _⟩
        rw [Nat.le_min]
        refine ⟨?_, by simp⟩
        split <;> first | omega | (split <;> omega)
      exact h2
def readTextM (l : List UInt8) : List UInt8 × Int := if (gscan tStep l).2 = 0 then (if 255 < (gscan tStep l).1.length then ([], 3) else ((gscan tStep l).1, 0)) else ([], (gscan tStep l).2)
def quoteW (c : UInt8) : List UInt8 := if c = 34 ∨ c = 92 then [92, c] else if c.toNat < 32 ∨ 126 < c.toNat then octetEsc c else [c]
def quotedM (l : List UInt8) : List UInt8 := 34 :: (l.flatMap quoteW ++ [34])

/-! ### hexadecimal digits -/
def hexU (c : UInt8) : Option Nat :=
  if 48 ≤ c.toNat ∧ c.toNat ≤ 57 then some (c.toNat - 48) else if 97 ≤ c.toNat ∧ c.toNat ≤ 102 then some (c.toNat - 97 + 10) else if 65 ≤ c.toNat ∧ c.toNat ≤ 70 then some (c.toNat - 65 + 10) else none
def hexC (n : Nat) : UInt8 := if n < 10 then UInt8.ofNat (48 + n) else UInt8.ofNat (97 + (n - 10))
theorem hexU_lt {c : UInt8} {v : Nat} (h : hexU c = some v) : v < 16 := by
  unfold hexU at h
  split at h
  · cases h; omega
  split at h
  · cases h; omega
  split at h
  · cases h; omega
  · cases h
def hexV (c : UInt8) : Nat := (hexU c).getD 0
def hexB (c : UInt8) : Bool := (hexU c).isSome
theorem hexV_lt (c : UInt8) : hexV c < 16 := by
  unfold hexV
  cases h : hexU c with
  | none => simp
  | some v => exact hexU_lt h
def hexW (c : UInt8) : UInt8 := UInt8.ofNat (hexV c)
/-- Pairs of halves as octets. -/
def pairUp : List UInt8 → List UInt8
  | a :: b :: r => UInt8.ofNat (16 * a.toNat + b.toNat) :: pairUp r
  | _ => []
abbrev Wd := List UInt8 × Bool
def halvesOK (l : List Wd) : Bool := l.all fun x => !x.2 && x.1.all hexB
def halvesL (l : List Wd) : List UInt8 := l.flatMap fun x => x.1.map hexW

/-! ### what data may be -/
def countedM (d : Dat) : Bool := decide (d.names.length = (countsM d.ty).1 ∧ d.nums.length = (countsM d.ty).2.1 ∧ (if d.ty = 16 then 1 ≤ d.texts.length ∧ d.texts.length ≤ 32 else d.texts.length = 0) ∧ (0 ≤ (countsM d.ty).2.2 → (d.raw.length : Int) = (countsM d.ty).2.2))
def checkNs : List Nm → Int
  | [] => 0
  | n :: r => if checkN n = 0 then checkNs r else checkN n
def longT (l : Nm) : Bool := l.any fun s => decide (255 < s.length)
def checkD (d : Dat) : Int :=
  if d.ty < 1 ∨ 65535 < d.ty then 6 else if countedM d = false then 2 else if checkNs d.names ≠ 0 then checkNs d.names
  else if d.ty = 15 ∧ 65535 < d.nums.headD 0 then 7 else if longT d.texts then 3 else if 1024 < d.raw.length then 3 else 0
theorem checkNs_snoc (l : List Nm) (n : Nm) : checkNs (l ++ [n]) = if checkNs l = 0 then checkN n else checkNs l := by
  induction l with
  | nil => simp only [List.nil_append, checkNs, if_true]; split <;> simp_all
  | cons x r ih =>
    have e : ∀ l, checkNs (x :: l) = if checkN x = 0 then checkNs l else checkN x := fun _ => rfl
    rw [List.cons_append]
    by_cases h : checkN x = 0
    · have e1 : ∀ l, checkNs (x :: l) = checkNs l := fun l => by rw [e, if_pos h]
      rw [e1, e1, ih]
    · have e1 : ∀ l, checkNs (x :: l) = checkN x := fun l => by rw [e, if_neg h]
      rw [e1, e1, if_neg h]
theorem checkNs_stop {a p : List Nm} (h : p <+: a) (hp : checkNs p ≠ 0) : checkNs a = checkNs p := by
  obtain ⟨t, rfl⟩ := h
  induction p with
  | nil => exact absurd rfl hp
  | cons x r ih =>
    simp only [List.cons_append, checkNs] at hp ⊢
    by_cases h : checkN x = 0
    · rw [if_pos h] at hp ⊢; rw [if_pos h]; exact ih hp
    · rw [if_neg h, if_neg h]

/-! ### words -/
def formD (t : Int) (n : Nat) : List UInt8 :=
  if t = 1 then [52] else if t = 28 then [54] else if t = 2 ∨ t = 5 ∨ t = 12 ∨ t = 39 then [110] else if t = 15 then [112, 110] else if t = 6 then [110, 110, 117, 117, 117, 117, 117]
  else if t = 16 ∧ n ≤ 32 then List.replicate n 116 else []
/-- A text at each of an octet. -/
def splitAtU (sep : UInt8) : List UInt8 → List (List UInt8)
  | [] => [[]]
  | c :: r => if c = sep then [] :: splitAtU sep r else match splitAtU sep r with | [] => [[c]] | x :: t => (c :: x) :: t
def addrsM : List (List UInt8) → List UInt8 × Int
  | [] => ([], 0)
  | p :: r => if (numM p 255).2 ≠ 0 then ([], (numM p 255).2) else if (addrsM r).2 = 0 then (UInt8.ofNat (numM p 255).1 :: (addrsM r).1, 0) else ([], (addrsM r).2)
def addressM (s : List UInt8) : List UInt8 × Int := if (splitAtU 46 s).length = 4 then addrsM (splitAtU 46 s) else ([], 2)
def groupV (l : List UInt8) : Nat := l.foldl (fun n c => 16 * n + hexV c) 0
def groupsR : List (List UInt8) → List UInt8 × Int
  | [] => ([], 0)
  | p :: r => if p.length < 1 ∨ 4 < p.length ∨ p.all hexB = false then ([], 2)
    else if (groupsR r).2 = 0 then (UInt8.ofNat (groupV p / 256) :: UInt8.ofNat (groupV p % 256) :: (groupsR r).1, 0) else ([], (groupsR r).2)
def groupsM (s : List UInt8) : List UInt8 × Int := if (splitAtU 58 s).length = 8 then groupsR (splitAtU 58 s) else ([], 2)
def errD (k : UInt8) (s : List UInt8) (o : Nm) : Int :=
  if k = 110 then (parseN s o).2 else if k = 117 then (numM s 4294967295).2 else if k = 112 then (numM s 65535).2 else if k = 116 then (readTextM s).2 else if k = 52 then (addressM s).2 else if k = 54 then (groupsM s).2 else 0
def addD (d : Dat) (k : UInt8) (s : List UInt8) (o : Nm) : Dat :=
  if k = 110 then { d with names := d.names ++ [(parseN s o).1] } else if k = 117 then { d with nums := d.nums ++ [(numM s 4294967295).1] } else if k = 112 then { d with nums := d.nums ++ [(numM s 65535).1] }
  else if k = 116 then { d with texts := d.texts ++ [(readTextM s).1] } else if k = 52 then { d with raw := (addressM s).1 } else if k = 54 then { d with raw := (groupsM s).1 } else d
def wordsD (d : Dat) (o : Nm) : List UInt8 → List Wd → Dat × Int
  | k :: ks, (s, q) :: l => if q ∧ k ≠ 116 then (d, 2) else if errD k s o ≠ 0 then (d, errD k s o) else wordsD (addD d k s o) o ks l
  | _, _ => (d, 0)
def octetsD (t : Int) (l : List Wd) : List UInt8 × Int :=
  if knownM t ∧ ¬ (t = 1 ∨ t = 28) then ([], 6) else match l with
  | [] => ([], 2)
  | (s, q) :: r => if q then ([], 2) else if (numM s 4294967295).2 ≠ 0 then ([], (numM s 4294967295).2) else if 1024 < (numM s 4294967295).1 then ([], 3) else
    if halvesOK r = false ∨ (halvesL r).length ≠ 2 * (numM s 4294967295).1 then ([], 2) else if (t = 1 ∧ (numM s 4294967295).1 ≠ 4) ∨ (t = 28 ∧ (numM s 4294967295).1 ≠ 16) then ([], 2) else (pairUp (halvesL r), 0)
def Dat.of (t : Int) : Dat := ⟨t, [], [], [], []⟩
def parseD (t : Int) (l : List Wd) (o : Nm) : Dat × Int :=
  if t < 1 ∨ 65535 < t then (Dat.none, 6) else
  if l.head? = some ([92, 35], false) then (if (octetsD t (l.drop 1)).2 = 0 then (⟨t, [], [], [], (octetsD t (l.drop 1)).1⟩, 0) else (Dat.none, (octetsD t (l.drop 1)).2))
  else if formD t l.length = [] ∨ (formD t l.length).length ≠ l.length then (Dat.none, 2)
  else if (wordsD (Dat.of t) o (formD t l.length) l).2 = 0 then ((wordsD (Dat.of t) o (formD t l.length) l).1, 0) else (Dat.none, (wordsD (Dat.of t) o (formD t l.length) l).2)

/-! ### data in words -/
def sepBy (sep : List UInt8) : List (List UInt8) → List UInt8
  | [] => []
  | [x] => x
  | x :: y :: r => x ++ sep ++ sepBy sep (y :: r)
/-- A number's hexadecimal digits, at least one. -/
def hexD (n : Nat) : List UInt8 := if _h : n < 16 then [hexC n] else hexD (n / 16) ++ [hexC (n % 16)]
termination_by n
decreasing_by omega
def hexes : List UInt8 → List (List UInt8)
  | a :: b :: r => hexD (256 * a.toNat + b.toNat) :: hexes r
  | _ => []
def hex2 (c : UInt8) : List UInt8 := [hexC (c.toNat / 16), hexC (c.toNat % 16)]
def octetWordsM (raw : List UInt8) : List UInt8 := [92, 35, 32] ++ Lib.decDigits raw.length ++ (if raw = [] then [] else 32 :: raw.flatMap hex2)
def textD (d : Dat) : List UInt8 :=
  if d.ty = 1 then sepBy [46] (d.raw.map fun c => Lib.decDigits c.toNat)
  else if d.ty = 28 then sepBy [58] (hexes d.raw)
  else if d.ty = 2 ∨ d.ty = 5 ∨ d.ty = 12 ∨ d.ty = 39 ∨ d.ty = 6 then sepBy [32] (d.names.map textN ++ d.nums.map Lib.decDigits)
  else if d.ty = 15 then sepBy [32] (d.nums.map Lib.decDigits ++ d.names.map textN)
  else if d.ty = 16 then sepBy [32] (d.texts.map quotedM)
  else octetWordsM d.raw

end Go.Proofs.Yteppgeiejknhoaa

/-
  The shelf's contracts at this dump that the proofs of this seat use (cut out of what the kit's lay-plain writes).
-/
namespace Go.Proofs
open Go.Shelf
end Go.Proofs

/-
  rdata: digitOf, counted.
-/
namespace Go.Proofs.Yteppgeiejknhoaa
set_option maxRecDepth 20000
open Go.RowKit Go.Shelf

theorem hex_fin {c : UInt8} {w : World} {e : Ending} (v : Int) (b : Bool) (h : (hexU c = none ∧ v = 0 ∧ b = false) ∨ ∃ n : Nat, hexU c = some n ∧ v = n ∧ b = true) (he : e = .returned (.tuple #[.int .i64 v, .bool b])) :
    e = .returned (.tuple #[.int .i64 (hexV c : Int), .bool (hexB c)]) ∧ w = w := by
  subst he
  refine ⟨?_, rfl⟩
  unfold hexV hexB
  rcases h with ⟨h, rfl, rfl⟩ | ⟨n, h, rfl, rfl⟩ <;> rw [h] <;> rfl
end Go.Proofs.Yteppgeiejknhoaa

