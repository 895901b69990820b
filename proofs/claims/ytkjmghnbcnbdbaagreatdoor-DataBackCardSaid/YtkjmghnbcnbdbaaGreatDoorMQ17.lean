/-
  The document's data: small helpers (apart, counts).
-/
import Derived.Test.YtkjmghnbcnbdbaaGreatDoorMQ23
import Derived.Test.YtkjmghnbcnbdbaaGreatDoorMQ22
import Derived.Test.YtkjmghnbcnbdbaaGreatDoorMQ35
import Derived.Lib.ConvBytes
import Derived.Lib.IndexBytes
import Derived.Laws.Concat
import Derived.Lib.PathFns
namespace Go.Proofs.YtkjmghnbcnbdbaaGreatDoor
open Go.RowKit Go.Shelf

set_option maxHeartbeats 2000000 in
theorem ref_apart (a b : Int) (w : World) : Calls Tryz.prog 39 #[.int .i64 a, .int .i64 b] w fun e w' => e = .returned (.int .i64 (cmpI a b)) ∧ w' = w := by
  unfold cmpI
  by_cases h1 : a < b
  · rw [if_pos h1]
    go_enter Tryz.func39, Tryz.ntmps39
    go_wp2
    go_ret
    exact ⟨rfl, rfl⟩
  · rw [if_neg h1]
    by_cases h2 : b < a
    · rw [if_pos h2]
      go_enter Tryz.func39, Tryz.ntmps39
      go_wp2
      go_ret
      exact ⟨rfl, rfl⟩
    · rw [if_neg h2]
      go_enter Tryz.func39, Tryz.ntmps39
      go_wp2
      go_ret
      exact ⟨rfl, rfl⟩

/-- How many names, numbers, octets a type has. -/
def countsM (t : Int) : Int × Int × Int :=
  if t = 1 then (0, 0, 4) else if t = 28 then (0, 0, 16) else if t = 2 ∨ t = 5 ∨ t = 12 ∨ t = 39 then (1, 0, 0) else if t = 15 then (1, 1, 0) else if t = 6 then (2, 5, 0) else if t = 16 then (0, 0, 0) else (0, 0, -1)
def CountsPost (t : Int) (w : World) (e : Ending) (w' : World) : Prop := e = .returned (.tuple #[.int .i64 (countsM t).1, .int .i64 (countsM t).2.1, .int .i64 (countsM t).2.2]) ∧ w' = w

set_option maxHeartbeats 2000000 in
theorem ref_counts (t : Int) (w : World) : Calls Tryz.prog 23 #[.int .i64 t] w (CountsPost t w) := by
  have lit : ∀ k : Int, t = k → ∀ c, countsM k = c → Calls Tryz.prog 23 #[.int .i64 k] w (fun e w' => e = .returned (.tuple #[.int .i64 c.1, .int .i64 c.2.1, .int .i64 c.2.2]) ∧ w' = w) → Calls Tryz.prog 23 #[.int .i64 t] w (CountsPost t w) := by
    rintro k rfl c rfl h; exact h
  by_cases h1 : t = 1
  · refine lit _ h1 _ rfl ?_
    go_enter Tryz.func23, Tryz.ntmps23
    go_wp2
    go_ret3
    exact ⟨rfl, rfl⟩
  by_cases h2 : t = 28
  · refine lit _ h2 _ rfl ?_
    go_enter Tryz.func23, Tryz.ntmps23
    go_wp2
    go_ret3
    exact ⟨rfl, rfl⟩
  by_cases h3 : t = 2
  · refine lit _ h3 _ rfl ?_
    go_enter Tryz.func23, Tryz.ntmps23
    go_wp2
    go_ret3
    exact ⟨rfl, rfl⟩
  by_cases h4 : t = 5
  · refine lit _ h4 _ rfl ?_
    go_enter Tryz.func23, Tryz.ntmps23
    go_wp2
    go_ret3
    exact ⟨rfl, rfl⟩
  by_cases h5 : t = 12
  · refine lit _ h5 _ rfl ?_
    go_enter Tryz.func23, Tryz.ntmps23
    go_wp2
    go_ret3
    exact ⟨rfl, rfl⟩
  by_cases h6 : t = 39
  · refine lit _ h6 _ rfl ?_
    go_enter Tryz.func23, Tryz.ntmps23
    go_wp2
    go_ret3
    exact ⟨rfl, rfl⟩
  by_cases h7 : t = 15
  · refine lit _ h7 _ rfl ?_
    go_enter Tryz.func23, Tryz.ntmps23
    go_wp2
    go_ret3
    exact ⟨rfl, rfl⟩
  by_cases h8 : t = 6
  · refine lit _ h8 _ rfl ?_
    go_enter Tryz.func23, Tryz.ntmps23
    go_wp2
    go_ret3
    exact ⟨rfl, rfl⟩
  by_cases h9 : t = 16
  · refine lit _ h9 _ rfl ?_
    go_enter Tryz.func23, Tryz.ntmps23
    go_wp2
    go_ret3
    exact ⟨rfl, rfl⟩
  have hc : countsM t = (0, 0, -1) := by
    unfold countsM
    rw [if_neg h1, if_neg h2, if_neg (by omega), if_neg h7, if_neg h8, if_neg h9]
  have HC := Lib.hid hc; clear hc lit
  have e1 : (t == 1) = false := by simpa using h1
  have e2 : (t == 28) = false := by simpa using h2
  have e3 : (t == 2) = false := by simpa using h3
  have e4 : (t == 5) = false := by simpa using h4
  have e5 : (t == 12) = false := by simpa using h5
  have e6 : (t == 39) = false := by simpa using h6
  have e7 : (t == 15) = false := by simpa using h7
  have e8 : (t == 6) = false := by simpa using h8
  have e9 : (t == 16) = false := by simpa using h9
  clear h1 h2 h3 h4 h5 h6 h7 h8 h9
  go_enter Tryz.func23, Tryz.ntmps23
  go_wp2
  go_ret3
  exact ⟨by rw [HC.out]; rfl, rfl⟩
end Go.Proofs.YtkjmghnbcnbdbaaGreatDoor

/-
  Data: what they may be, as plain functions and facts.
-/
namespace Go.Proofs.YtkjmghnbcnbdbaaGreatDoor
open Go.RowKit Go.Shelf

/-! ### scanning by steps -/
section
variable (f : List UInt8 → List UInt8 × Nat × Int)
/-- A step reads something from the front: what, how many octets, an error. -/
def gscanM : Nat → List UInt8 → List UInt8 × Int
  | _, [] => ([], 0)
  | 0, _ :: _ => ([], 2)
  | n + 1, x :: r =>
    if (f (x :: r)).2.2 = 0 then
      (if (gscanM n ((x :: r).drop (f (x :: r)).2.1)).2 = 0 then ((f (x :: r)).1 ++ (gscanM n ((x :: r).drop (f (x :: r)).2.1)).1, 0) else ([], (gscanM n ((x :: r).drop (f (x :: r)).2.1)).2))
    else ([], (f (x :: r)).2.2)
def gscan (l : List UInt8) : List UInt8 × Int := gscanM f l.length l
def GStep : Prop := ∀ l, l ≠ [] → (f l).2.2 = 0 → 1 ≤ (f l).2.1 ∧ (f l).2.1 ≤ l.length
variable {f}
theorem gscanM_fuel (hf : GStep f) : ∀ (n : Nat) (l : List UInt8), l.length ≤ n → gscanM f n l = gscan f l := by
  intro n
  induction n using Nat.strongRecOn with
  | _ n ih =>
    intro l hl
    match l, n with
    | [], _ => simp [gscanM, gscan]
    | x :: r, 0 => simp at hl
    | x :: r, n + 1 =>
      unfold gscan
      simp only [List.length_cons, gscanM]
      by_cases h : (f (x :: r)).2.2 = 0
      · have hs := hf _ (by simp) h
        have hd : ((x :: r).drop (f (x :: r)).2.1).length ≤ r.length := by simp at hs ⊢; omega
        simp only [List.length_cons] at hl
        have e1 := ih n (by omega) _ (Nat.le_trans hd (by omega))
        rw [e1]
        by_cases hn : r.length = n
        · rw [hn, e1]
        · rw [ih r.length (by omega) _ hd]
      · simp [h]
theorem gscanM_clean (n : Nat) (l : List UInt8) (h : (gscanM f n l).2 ≠ 0) : (gscanM f n l).1 = [] := by
  match n, l with
  | _, [] => simp [gscanM]
  | 0, _ :: _ => simp [gscanM]
  | n + 1, x :: r =>
    simp only [gscanM] at h ⊢
    by_cases h1 : (f (x :: r)).2.2 = 0
    · by_cases h2 : (gscanM f n ((x :: r).drop (f (x :: r)).2.1)).2 = 0
      · simp [h1, h2] at h
      · simp [h1, h2]
    · simp [h1]
theorem gscan_nil : gscan f [] = ([], 0) := rfl
theorem gscan_err {l : List UInt8} (h0 : l ≠ []) (h : (f l).2.2 ≠ 0) : gscan f l = ([], (f l).2.2) := by
  match l, h0 with
  | x :: r, _ => unfold gscan; simp only [List.length_cons, gscanM]; rw [if_neg h]
theorem gscan_ok (hf : GStep f) {l : List UInt8} (h0 : l ≠ []) (h : (f l).2.2 = 0) : gscan f l = join (f l).1 (gscan f (l.drop (f l).2.1)) := by
  match l, h0 with
  | x :: r, _ =>
    have hs := hf (x :: r) (by simp) h
    have hd : ((x :: r).drop (f (x :: r)).2.1).length ≤ r.length := by simp at hs ⊢; omega
    have e : gscan f (x :: r) = gscanM f (r.length + 1) (x :: r) := rfl
    rw [e, gscanM, if_pos h, gscanM_fuel hf _ _ hd]
    unfold join; simp
theorem gjoin_nil (l : List UInt8) : gscan f l = join [] (gscan f l) := by
  unfold join
  by_cases h : (gscan f l).2 = 0
  · rw [if_pos h, List.nil_append, ← h]
  · rw [if_neg h, ← gscanM_clean (f := f) l.length l h]; rfl
end

/-! ### texts -/
def tSize (l : List UInt8) : Nat := min (match l with | _ :: y :: _ => if digitU y then 4 else 2 | _ => 2) l.length
def tStep (l : List UInt8) : List UInt8 × Nat × Int :=
  match l with
  | [] => ([], 0, 2)
  | x :: r => if x ≠ 92 then ([x], 1, 0) else ((parseM ((x :: r).take (tSize (x :: r)))).1, tSize (x :: r), (parseM ((x :: r).take (tSize (x :: r)))).2)
theorem tStep_ok : GStep tStep := by
  intro l h0 _
  match l, h0 with
  | x :: r, _ =>
    have e : tStep (x :: r) = if x ≠ 92 then ([x], 1, 0) else ((parseM ((x :: r).take (tSize (x :: r)))).1, tSize (x :: r), (parseM ((x :: r).take (tSize (x :: r)))).2) := rfl
    rw [e]
    by_cases h : x ≠ 92
    · rw [if_pos h]; exact ⟨Nat.le_refl _, by simp⟩
    · rw [if_neg h]
      have h2 : 1 ≤ tSize (x :: r) ∧ tSize (x :: r) ≤ (x :: r).length := by
        unfold tSize
        refine ⟨?_, Nat.min_le_right _ _⟩
        rw [Nat.le_min]
        refine ⟨?_, by simp⟩
        split <;> first | omega | (split <;> omega)
      exact h2
def readTextM (l : List UInt8) : List UInt8 × Int := if (gscan tStep l).2 = 0 then (if 255 < (gscan tStep l).1.length then ([], 3) else ((gscan tStep l).1, 0)) else ([], (gscan tStep l).2)
def quoteW (c : UInt8) : List UInt8 := if c = 34 ∨ c = 92 then [92, c] else if c.toNat < 32 ∨ 126 < c.toNat then octetEsc c else [c]
def quotedM (l : List UInt8) : List UInt8 := 34 :: (l.flatMap quoteW ++ [34])

/-! ### hexadecimal digits -/
def hexU (c : UInt8) : Option Nat :=
  if 48 ≤ c.toNat ∧ c.toNat ≤ 57 then some (c.toNat - 48) else if 97 ≤ c.toNat ∧ c.toNat ≤ 102 then some (c.toNat - 97 + 10) else if 65 ≤ c.toNat ∧ c.toNat ≤ 70 then some (c.toNat - 65 + 10) else none
def hexC (n : Nat) : UInt8 := if n < 10 then UInt8.ofNat (48 + n) else UInt8.ofNat (97 + (n - 10))
theorem hexU_lt {c : UInt8} {v : Nat} (h : hexU c = some v) : v < 16 := by
  unfold hexU at h
  split at h
  · cases h; omega
  split at h
  · cases h; omega
  split at h
  · cases h; omega
  · cases h
def hexV (c : UInt8) : Nat := (hexU c).getD 0
def hexB (c : UInt8) : Bool := (hexU c).isSome
theorem hexV_lt (c : UInt8) : hexV c < 16 := by
  unfold hexV
  cases h : hexU c with
  | none => simp
  | some v => exact hexU_lt h
def hexW (c : UInt8) : UInt8 := UInt8.ofNat (hexV c)
/-- Pairs of halves as octets. -/
def pairUp : List UInt8 → List UInt8
  | a :: b :: r => UInt8.ofNat (16 * a.toNat + b.toNat) :: pairUp r
  | _ => []
abbrev Wd := List UInt8 × Bool
def halvesOK (l : List Wd) : Bool := l.all fun x => !x.2 && x.1.all hexB
def halvesL (l : List Wd) : List UInt8 := l.flatMap fun x => x.1.map hexW

/-! ### what data may be -/
def countedM (d : Dat) : Bool := decide (d.names.length = (countsM d.ty).1 ∧ d.nums.length = (countsM d.ty).2.1 ∧ (if d.ty = 16 then 1 ≤ d.texts.length ∧ d.texts.length ≤ 32 else d.texts.length = 0) ∧ (0 ≤ (countsM d.ty).2.2 → (d.raw.length : Int) = (countsM d.ty).2.2))
def checkNs : List Nm → Int
  | [] => 0
  | n :: r => if checkN n = 0 then checkNs r else checkN n
def longT (l : Nm) : Bool := l.any fun s => decide (255 < s.length)
def checkD (d : Dat) : Int :=
  if d.ty < 1 ∨ 65535 < d.ty then 6 else if countedM d = false then 2 else if checkNs d.names ≠ 0 then checkNs d.names
  else if d.ty = 15 ∧ 65535 < d.nums.headD 0 then 7 else if longT d.texts then 3 else if 1024 < d.raw.length then 3 else 0
theorem checkNs_snoc (l : List Nm) (n : Nm) : checkNs (l ++ [n]) = if checkNs l = 0 then checkN n else checkNs l := by
  induction l with
  | nil => simp only [List.nil_append, checkNs, if_true]; split <;> simp_all
  | cons x r ih =>
    have e : ∀ l, checkNs (x :: l) = if checkN x = 0 then checkNs l else checkN x := fun _ => rfl
    rw [List.cons_append]
    by_cases h : checkN x = 0
    · have e1 : ∀ l, checkNs (x :: l) = checkNs l := fun l => by rw [e, if_pos h]
      rw [e1, e1, ih]
    · have e1 : ∀ l, checkNs (x :: l) = checkN x := fun l => by rw [e, if_neg h]
      rw [e1, e1, if_neg h]
theorem checkNs_stop {a p : List Nm} (h : p <+: a) (hp : checkNs p ≠ 0) : checkNs a = checkNs p := by
  obtain ⟨t, rfl⟩ := h
  induction p with
  | nil => exact absurd rfl hp
  | cons x r ih =>
    simp only [List.cons_append, checkNs] at hp ⊢
    by_cases h : checkN x = 0
    · rw [if_pos h] at hp ⊢; rw [if_pos h]; exact ih hp
    · rw [if_neg h, if_neg h]

/-! ### words -/
def formD (t : Int) (n : Nat) : List UInt8 :=
  if t = 1 then [52] else if t = 28 then [54] else if t = 2 ∨ t = 5 ∨ t = 12 ∨ t = 39 then [110] else if t = 15 then [112, 110] else if t = 6 then [110, 110, 117, 117, 117, 117, 117]
  else if t = 16 ∧ n ≤ 32 then List.replicate n 116 else []
/-- A text at each of an octet. -/
def splitAtU (sep : UInt8) : List UInt8 → List (List UInt8)
  | [] => [[]]
  | c :: r => if c = sep then [] :: splitAtU sep r else match splitAtU sep r with | [] => [[c]] | x :: t => (c :: x) :: t
def addrsM : List (List UInt8) → List UInt8 × Int
  | [] => ([], 0)
  | p :: r => if (numM p 255).2 ≠ 0 then ([], (numM p 255).2) else if (addrsM r).2 = 0 then (UInt8.ofNat (numM p 255).1 :: (addrsM r).1, 0) else ([], (addrsM r).2)
def addressM (s : List UInt8) : List UInt8 × Int := if (splitAtU 46 s).length = 4 then addrsM (splitAtU 46 s) else ([], 2)
def groupV (l : List UInt8) : Nat := l.foldl (fun n c => 16 * n + hexV c) 0
def groupsR : List (List UInt8) → List UInt8 × Int
  | [] => ([], 0)
  | p :: r => if p.length < 1 ∨ 4 < p.length ∨ p.all hexB = false then ([], 2)
    else if (groupsR r).2 = 0 then (UInt8.ofNat (groupV p / 256) :: UInt8.ofNat (groupV p % 256) :: (groupsR r).1, 0) else ([], (groupsR r).2)
def groupsM (s : List UInt8) : List UInt8 × Int := if (splitAtU 58 s).length = 8 then groupsR (splitAtU 58 s) else ([], 2)
def errD (k : UInt8) (s : List UInt8) (o : Nm) : Int :=
  if k = 110 then (parseN s o).2 else if k = 117 then (numM s 4294967295).2 else if k = 112 then (numM s 65535).2 else if k = 116 then (readTextM s).2 else if k = 52 then (addressM s).2 else if k = 54 then (groupsM s).2 else 0
def addD (d : Dat) (k : UInt8) (s : List UInt8) (o : Nm) : Dat :=
  if k = 110 then { d with names := d.names ++ [(parseN s o).1] } else if k = 117 then { d with nums := d.nums ++ [(numM s 4294967295).1] } else if k = 112 then { d with nums := d.nums ++ [(numM s 65535).1] }
  else if k = 116 then { d with texts := d.texts ++ [(readTextM s).1] } else if k = 52 then { d with raw := (addressM s).1 } else if k = 54 then { d with raw := (groupsM s).1 } else d
def wordsD (d : Dat) (o : Nm) : List UInt8 → List Wd → Dat × Int
  | k :: ks, (s, q) :: l => if q ∧ k ≠ 116 then (d, 2) else if errD k s o ≠ 0 then (d, errD k s o) else wordsD (addD d k s o) o ks l
  | _, _ => (d, 0)
def octetsD (t : Int) (l : List Wd) : List UInt8 × Int :=
  if knownM t ∧ ¬ (t = 1 ∨ t = 28) then ([], 6) else match l with
  | [] => ([], 2)
  | (s, q) :: r => if q then ([], 2) else if (numM s 4294967295).2 ≠ 0 then ([], (numM s 4294967295).2) else if 1024 < (numM s 4294967295).1 then ([], 3) else
    if halvesOK r = false ∨ (halvesL r).length ≠ 2 * (numM s 4294967295).1 then ([], 2) else if (t = 1 ∧ (numM s 4294967295).1 ≠ 4) ∨ (t = 28 ∧ (numM s 4294967295).1 ≠ 16) then ([], 2) else (pairUp (halvesL r), 0)
def Dat.of (t : Int) : Dat := ⟨t, [], [], [], []⟩
def parseD (t : Int) (l : List Wd) (o : Nm) : Dat × Int :=
  if t < 1 ∨ 65535 < t then (Dat.none, 6) else
  if l.head? = some ([92, 35], false) then (if (octetsD t (l.drop 1)).2 = 0 then (⟨t, [], [], [], (octetsD t (l.drop 1)).1⟩, 0) else (Dat.none, (octetsD t (l.drop 1)).2))
  else if formD t l.length = [] ∨ (formD t l.length).length ≠ l.length then (Dat.none, 2)
  else if (wordsD (Dat.of t) o (formD t l.length) l).2 = 0 then ((wordsD (Dat.of t) o (formD t l.length) l).1, 0) else (Dat.none, (wordsD (Dat.of t) o (formD t l.length) l).2)

/-! ### data in words -/
def sepBy (sep : List UInt8) : List (List UInt8) → List UInt8
  | [] => []
  | [x] => x
  | x :: y :: r => x ++ sep ++ sepBy sep (y :: r)
/-- A number's hexadecimal digits, at least one. -/
def hexD (n : Nat) : List UInt8 := if _h : n < 16 then [hexC n] else hexD (n / 16) ++ [hexC (n % 16)]
termination_by n
decreasing_by omega
def hexes : List UInt8 → List (List UInt8)
  | a :: b :: r => hexD (256 * a.toNat + b.toNat) :: hexes r
  | _ => []
def hex2 (c : UInt8) : List UInt8 := [hexC (c.toNat / 16), hexC (c.toNat % 16)]
def octetWordsM (raw : List UInt8) : List UInt8 := [92, 35, 32] ++ Lib.decDigits raw.length ++ (if raw = [] then [] else 32 :: raw.flatMap hex2)
def textD (d : Dat) : List UInt8 :=
  if d.ty = 1 then sepBy [46] (d.raw.map fun c => Lib.decDigits c.toNat)
  else if d.ty = 28 then sepBy [58] (hexes d.raw)
  else if d.ty = 2 ∨ d.ty = 5 ∨ d.ty = 12 ∨ d.ty = 39 ∨ d.ty = 6 then sepBy [32] (d.names.map textN ++ d.nums.map Lib.decDigits)
  else if d.ty = 15 then sepBy [32] (d.nums.map Lib.decDigits ++ d.names.map textN)
  else if d.ty = 16 then sepBy [32] (d.texts.map quotedM)
  else octetWordsM d.raw

end Go.Proofs.YtkjmghnbcnbdbaaGreatDoor

/-
  Strings turned into bytes of the call's own, turned one by one, and back: rtype.great, ref.FoldLabel.
-/
namespace Go.Proofs.YtkjmghnbcnbdbaaGreatDoor
set_option maxRecDepth 20000
open Go.RowKit Go.Shelf

/-- A row of bytes of the call's own, from the head of block g. -/
def BRow (g : Nat) (l : List UInt8) (W : World) : Prop := ∀ j (hj : j < l.length), W.cell? ⟨g, j, none⟩ = some (bv l[j]) ∧ W.frozen? ⟨g, j, none⟩ = false
theorem BRow.set {g : Nat} {l : List UInt8} {W : World} (h : BRow g l W) (k : Nat) (hk : k < l.length) (c : UInt8) : BRow g (l.set k c) (W.setCell ⟨g, k, none⟩ (bv c)) := by
  intro j hj
  rw [List.length_set] at hj
  rw [World.frozen?_setCell]
  refine ⟨?_, (h j hj).2⟩
  by_cases e : j = k
  · subst e
    rw [World.cell?_setCell_same' _ _ _ (by rw [(h j hk).1]; rfl)]
    simp
  · have hne : (⟨g, k, none⟩ : Addr) ≠ ⟨g, j, none⟩ := by intro q; injection q with _ e2 _; omega
    rw [World.cell?_setCell_other (h := hne), (h j hj).1]
    congr 2; rw [List.getElem_set_ne (by omega)]
theorem BRow.below {g n : Nat} {l : List UInt8} {W W' : World} (h : BRow g l W) (hb : Below n W W') (hg : g < n) : BRow g l W' := fun j hj =>
  ⟨(hb.cell (p := ⟨g, j, none⟩) hg).trans (h j hj).1, (hb.frozen (p := ⟨g, j, none⟩) hg).trans (h j hj).2⟩
theorem BRow.of_str (w : World) (s : ByteArray) : BRow w.heap.size s.data.toList (Lib.bytesWorld w 5 s) ∧ Below w.heap.size w (Lib.bytesWorld w 5 s) := by
  have hold := Lib.bytesWorld_at_old w 5 s
  have hsz := Lib.bytesWorld_size w 5 s
  have hcell := Lib.bytesWorld_cell w 5 s
  have hnew := Lib.bytesWorld_at_new w 5 s
  have hcs : s.size ≤ (Lib.bytesCells w 5 s).size := by unfold Lib.bytesCells; simp
  refine ⟨fun j hj => ⟨?_, ?_⟩, rfl, rfl, rfl, by rw [hsz]; omega, fun k hk => hold k hk⟩
  · have hj2 : j < s.size := by rw [← size_data]; exact hj
    rw [hcell j hj2]
    have : s.data.toList.getD j 0 = s[j] := by rw [List.getD_eq_getElem?_getD, Lib.data_getElem? s j hj2]; rfl
    rw [this]; rfl
  · have hj2 : j < s.size := by rw [← size_data]; exact hj
    unfold World.frozen?
    rw [hnew]
    simp; omega
theorem BRow.back {g : Nat} {l : List UInt8} {W : World} (h : BRow g l W) (n cap : Nat) (hn : n = l.length) :
    (convert 25 9 (.slice (some ⟨g, 0, none⟩) n cap)).run Tryz.prog W = .ok (.string ⟨l.toArray⟩) W := by
  subst hn
  exact run_convert_bytes_back W 25 9 5 ⟨g, 0, none⟩ cap l Tryz.underlying25 Tryz.underlying5 Tryz.underlying9 (fun j hj => by
    have e : ((⟨g, 0, none⟩ : Addr).add j) = ⟨g, j, none⟩ := by unfold Addr.add; by_cases hj : j = 0 <;> simp [hj]
    rw [e]; exact (h j hj).1)

theorem mapIdx_const (f : UInt8 → UInt8) (l : List UInt8) : l.mapIdx (fun _ c => f c) = l.map f := by
  apply List.ext_getElem (by simp)
  intro j h1 h2; simp
theorem BRow.same {g : Nat} {l : List UInt8} {W : World} (h : BRow g l W) (k : Nat) (hk : k < l.length) (c : UInt8) (e : l[k] = c) : BRow g (l.set k c) W := by
  subst e; rw [List.set_getElem_self]; exact h

end Go.Proofs.YtkjmghnbcnbdbaaGreatDoor

/-
  Decimals: number.Digits, number.Parse; the document's Number, Digit.
-/
namespace Go.Proofs.YtkjmghnbcnbdbaaGreatDoor
set_option maxRecDepth 20000
open Go.RowKit Go.Shelf

theorem allDigits_snoc (l : List UInt8) (c : UInt8) : allDigits (l ++ [c]) = (allDigits l && digitU c) := by simp [allDigits]
theorem allDigits_take {l : List UInt8} (h : allDigits l = true) (k : Nat) : allDigits (l.take k) = true := by
  unfold allDigits at *; rw [List.all_eq_true] at *; exact fun x hx => h x (List.mem_of_mem_take hx)
theorem allDigits_not {l : List UInt8} {k : Nat} (hk : k < l.length) (h : digitU l[k] = false) : allDigits l = false := by
  cases e : allDigits l with
  | false => rfl
  | true => unfold allDigits at e; rw [List.all_eq_true] at e; rw [e _ (List.getElem_mem hk)] at h; cases h
theorem digit_boundsI {c : UInt8} (h : digitU c = true) : (48 : Int) ≤ (c.toNat : Int) ∧ (c.toNat : Int) ≤ 57 := by rw [digitU_iff] at h; omega
theorem digit_not {c : UInt8} (h : digitU c = false) : (c.toNat : Int) < 48 ∨ (48 ≤ (c.toNat : Int) ∧ 57 < (c.toNat : Int)) := by
  have : ¬ (48 ≤ c.toNat ∧ c.toNat ≤ 57) := by rw [← digitU_iff, h]; simp
  omega


set_option maxHeartbeats 1000000 in
theorem number_Digits (s : ByteArray) (w : World) (hs : s.size ≤ maxLen) :
    Calls Tryz.prog 106 #[.string s] w fun e w' => e = .returned (.bool (!s.data.toList.isEmpty && allDigits s.data.toList)) ∧ w' = w := by
  unfold maxLen at hs
  go_enter Tryz.func106, Tryz.ntmps106
  go_wp2
  go_loopw [6] (fun i wr => ∃ k : Nat, i = .int .i64 k ∧ k ≤ s.size ∧ Hid (allDigits (s.data.toList.take k) = true) ∧ wr = w) (fun i _ => s.size - (intOf i).toNat)
  case atStart => exact ⟨0, rfl, Nat.zero_le _, Lib.hid rfl, rfl⟩
  case round =>
    obtain ⟨k, rfl, hk, HD, rfl⟩ := hrel
    by_cases hlt : k < s.size
    · have hkl : k < s.data.toList.length := by rw [size_data]; exact hlt
      have hck : s[k] = s.data.toList[k] := rfl
      have HD2 : Hid (digitU s.data.toList[k] = true → allDigits (s.data.toList.take (k + 1)) = true) := Lib.hid (fun h => by
        rw [List.take_succ_eq_append_getElem hkl, allDigits_snoc, HD.out, h]; rfl)
      have H0 : Hid (digitU s.data.toList[k] = false → allDigits s.data.toList = false) := Lib.hid (allDigits_not hkl)
      rw [← hck] at HD2 H0
      clear hck
      have hcc : (s[k].toNat : Int) ≤ 255 := by have := s[k].toNat_lt; omega
      cases hd : digitU s[k] with
      | true =>
        obtain ⟨b1, b2⟩ := digit_boundsI hd
        have HD3 := Lib.hid (HD2.out hd)
        clear HD2 H0 hd
        go_wp2
        go_roundw
        case rel => exact ⟨k + 1, by go_num, by omega, HD3, trivial⟩
        case measure => simp [intOf]; omega
      | false =>
        have H1 := Lib.hid (H0.out hd)
        have hb := digit_not hd
        clear HD2 H0 hd
        rcases hb with b1 | ⟨b1, b2⟩
        all_goals
          go_wp2
          go_ret
          exact ⟨by rw [H1.out, Bool.and_false]; rfl, rfl⟩
    · obtain rfl : k = s.size := by omega
      have hA := HD.out
      rw [List.take_of_length_le (by rw [size_data]; exact Nat.le_refl _)] at hA
      have H1 := Lib.hid hA
      clear hA HD
      by_cases he : s.data.toList = []
      · have e1 : (s.toList == []) = true := by rw [toList_data, he]; rfl
        have H2 := Lib.hid he
        clear he
        go_wp2
        go_ret
        exact ⟨by rw [H2.out]; rfl, rfl⟩
      · have e1 : (s.toList == []) = false := by rw [toList_data]; simpa using he
        have H2 : Hid (s.data.toList.isEmpty = false) := Lib.hid (by simpa using he)
        clear he
        go_wp2
        go_ret
        exact ⟨by rw [H1.out, H2.out]; rfl, rfl⟩

/-- What number.Parse and Number answer. -/
def NumPost (l : List UInt8) (most : Nat) (w : World) (e : Ending) (w' : World) : Prop := e = .returned (.tuple #[.int .i64 ((numM l most).1 : Int), .int .i64 (numM l most).2]) ∧ w' = w
theorem num_fin {l : List UInt8} {most : Nat} {w : World} {e : Ending} (v : Nat) (er : Int) (h : numM l most = (v, er)) (he : e = .returned (.tuple #[.int .i64 (v : Int), .int .i64 er])) : NumPost l most w e w := by
  unfold NumPost; rw [h]; exact ⟨he, rfl⟩
theorem head_get (s : ByteArray) (h : 0 < s.size) : s.data.toList.head? = some s[0] := by
  rw [List.head?_eq_getElem?, List.getElem?_eq_getElem (by rw [size_data]; exact h)]; rfl
theorem num_over {l : List UInt8} {most k : Nat} (hf : formN l = true) (h : most < valL (l.take k)) : numM l most = (0, 7) := by
  have := valL_prefix (List.take_prefix k l)
  unfold numM; rw [hf, if_pos rfl, if_neg (by omega)]

set_option maxHeartbeats 4000000 in
theorem number_Parse (s : ByteArray) (most : Nat) (w : World) (hs : s.size ≤ maxLen) (hm : most ≤ 1152921504606846975) :
    Calls Tryz.prog 84 #[.string s, .int .i64 (most : Int)] w (NumPost s.data.toList most w) := by
  have hD := number_Digits s w hs
  unfold maxLen at hs
  have hfd : formN s.data.toList = ((!s.data.toList.isEmpty && allDigits s.data.toList) && !(decide (1 < s.data.toList.length) && decide (s.data.toList.head? = some 48))) := rfl
  by_cases hdg : (!s.data.toList.isEmpty && allDigits s.data.toList) = true
  · rw [hdg] at hD hfd
    simp only [Bool.and_eq_true] at hdg
    obtain ⟨hne, hall⟩ := hdg
    have hsz : 0 < s.size := by
      rw [← size_data]
      cases h : s.data.toList with
      | nil => rw [h] at hne; simp at hne
      | cons a b => simp
    have hh := head_get s hsz
    rw [hh, size_data] at hfd
    have hcc : (s[0].toNat : Int) ≤ 255 := by have := s[0].toNat_lt; omega
    by_cases hlead : 1 < s.size ∧ s[0] = 48
    · have H0 : Hid (numM s.data.toList most = (0, 2)) := Lib.hid (by unfold numM; rw [hfd, decide_eq_true hlead.1, hlead.2]; rfl)
      have h1 : (1 : Int) < (s.size : Int) := by omega
      have h2 : ((s[0].toNat : Int) == 48) = true := by rw [hlead.2]; rfl
      clear hfd hlead hh hne hall
      go_enter Tryz.func84, Tryz.ntmps84
      go_wp2_with (go_at_call 106; refine hD.mono ?_; rintro e w2 ⟨rfl, rfl⟩)
      go_ret2
      exact num_fin 0 2 H0.out rfl
    · have hF : formN s.data.toList = true := by
        rw [hfd]
        by_cases h : 1 < s.size
        · have : s[0] ≠ 48 := fun e => hlead ⟨h, e⟩
          simp [this]
        · simp [h]
      have HF := Lib.hid hF
      have HALL := Lib.hid hall
      have hcond : (¬ (1 : Int) < (s.size : Int)) ∨ ((1 : Int) < (s.size : Int) ∧ ((s[0].toNat : Int) == 48) = false) := by
        by_cases h : 1 < s.size
        · right
          refine ⟨by omega, ?_⟩
          have h3 : s[0] ≠ 48 := fun e => hlead ⟨h, e⟩
          simp only [beq_eq_false_iff_ne, ne_eq]
          intro e; apply h3; apply UInt8.toNat.inj; show s[0].toNat = 48; omega
        · left; omega
      clear hfd hlead hh hne hall hF
      have hmi : (0 : Int) ≤ (most : Int) := by omega
      have hmu : (most : Int) ≤ 1152921504606846975 := by omega
      rcases hcond with hc1 | ⟨hc1, hc2⟩
      all_goals
        go_enter Tryz.func84, Tryz.ntmps84
        go_wp2_with (go_at_call 106; refine hD.mono ?_; rintro e w2 ⟨rfl, rfl⟩)
        go_loopw [6, 24] (fun n i wr => ∃ (k v : Nat), i = .int .i64 k ∧ n = .int .i64 v ∧ k ≤ s.size ∧ v ≤ most ∧ Hid (valL (s.data.toList.take k) = v) ∧ wr = w2) (fun _ i _ => s.size - (intOf i).toNat)
        case atStart => exact ⟨0, 0, rfl, rfl, Nat.zero_le _, Nat.zero_le _, Lib.hid rfl, rfl⟩
        case round =>
          obtain ⟨k, v, rfl, rfl, hk, hv, HV, rfl⟩ := hrel
          by_cases hlt : k < s.size
          · have hkl : k < s.data.toList.length := by rw [size_data]; exact hlt
            have hck : s[k] = s.data.toList[k] := rfl
            have hd : digitU s[k] = true := by
              have := HALL.out; unfold allDigits at this; rw [List.all_eq_true] at this; exact this _ (by rw [hck]; exact List.getElem_mem hkl)
            obtain ⟨b1, b2⟩ := digit_boundsI hd
            have hv2 : valL (s.data.toList.take (k + 1)) = 10 * v + (s[k].toNat - 48) := by rw [List.take_succ_eq_append_getElem hkl, valL_snoc, HV.out, ← hck]
            have HV2 := Lib.hid hv2
            clear hck hd hv2 HV
            obtain ⟨d, hdd⟩ : ∃ d : Nat, s[k].toNat = 48 + d := ⟨s[k].toNat - 48, by omega⟩
            have hd9 : d ≤ 9 := by omega
            have hdi : (s[k].toNat : Int) - 48 = (d : Int) := by omega
            by_cases hov : most < 10 * v + d
            · have H0 : Hid (numM s.data.toList most = (0, 7)) := Lib.hid (num_over (k := k + 1) HF.out (by rw [HV2.out]; omega))
              clear HV2 hdd
              by_cases h1 : (most : Int) < (d : Int)
              · go_wp2
                go_ret2
                exact num_fin 0 7 H0.out rfl
              · have h2 : (d : Int) ≤ (most : Int) := by omega
                have h3 : ((most : Int) - (d : Int)) / 10 < (v : Int) := by omega
                have h4 : (0 : Int) ≤ (d : Int) := by omega
                clear h1 hov
                go_wp2
                go_ret2
                exact num_fin 0 7 H0.out rfl
            · have HV3 : Hid (valL (s.data.toList.take (k + 1)) = 10 * v + d) := Lib.hid (by rw [HV2.out]; omega)
              have h2 : (d : Int) ≤ (most : Int) := by omega
              have h3 : (v : Int) ≤ ((most : Int) - (d : Int)) / 10 := by omega
              have h4 : (0 : Int) ≤ (d : Int) := by omega
              have h5 : 10 * v + d ≤ most := by omega
              have h6 : (v : Int) ≤ 1152921504606846975 := by omega
              have h7 : (v : Int) * 10 + (d : Int) ≤ 1152921504606846975 := by omega
              clear HV2 hdd hov
              go_wp2
              go_roundw
              case rel => exact ⟨k + 1, 10 * v + d, by go_num, congrArg (Value.int .i64) (by omega), by omega, by omega, HV3, trivial⟩
              case measure => simp [intOf]; omega
          · obtain rfl : k = s.size := by omega
            have hV := HV.out
            rw [List.take_of_length_le (by rw [size_data]; exact Nat.le_refl _)] at hV
            have H0 : Hid (numM s.data.toList most = (v, 0)) := Lib.hid (by unfold numM; rw [HF.out, if_pos rfl, hV, if_pos hv])
            clear hV HV
            go_wp2
            go_ret2
            exact num_fin v 0 H0.out rfl
  · have hd0 : (!s.data.toList.isEmpty && allDigits s.data.toList) = false := by simpa using hdg
    rw [hd0] at hD
    have H0 : Hid (numM s.data.toList most = (0, 2)) := Lib.hid (by unfold numM; rw [hfd, hd0]; rfl)
    clear hfd hd0 hdg
    go_enter Tryz.func84, Tryz.ntmps84
    go_wp2_with (go_at_call 106; refine hD.mono ?_; rintro e w2 ⟨rfl, rfl⟩)
    go_ret2
    exact num_fin 0 2 H0.out rfl

def NumSt (l : List UInt8) (most k v : Nat) (ov : Bool) : Prop := allDigits (l.take k) = true ∧ (ov = false → v ≤ most ∧ valL (l.take k) = v) ∧ (ov = true → most < valL (l.take k))
end Go.Proofs.YtkjmghnbcnbdbaaGreatDoor

/-
  Decimals written: the document's Decimal.
-/
namespace Go.Proofs.YtkjmghnbcnbdbaaGreatDoor
set_option maxRecDepth 20000
open Go.RowKit Go.Shelf

def preD (n : Nat) : List UInt8 := if n < 10 then [] else Lib.decDigits (n / 10)
theorem dec_pre (n : Nat) : Lib.decDigits n = preD n ++ [UInt8.ofNat (48 + n % 10)] := by
  rw [Lib.decDigits]; unfold preD
  by_cases h : n < 10
  · rw [dif_pos h, if_pos h, Nat.mod_eq_of_lt h]; rfl
  · rw [dif_neg h, if_neg h]
theorem dec_len (u : Nat) (h : u < 10 ^ 19) : (Lib.decDigits u).length ≤ 19 := by
  rw [Lib.decDigits_length]
  have : ∀ k u, u < 10 ^ k → Lib.nDigits u ≤ max k 1 := by
    intro k
    induction k with
    | zero => intro u h; rw [Lib.nDigits_small (by simp at h; omega)]; omega
    | succ k ih =>
      intro u h
      rw [Lib.nDigits]
      by_cases h10 : u < 10
      · rw [dif_pos h10]; omega
      · rw [dif_neg h10]
        have := ih (u / 10) (by rw [Nat.pow_succ] at h; omega)
        rcases k with _ | k
        · simp at h; omega
        · omega
  have := this 19 u h
  omega

theorem one_byte (W : World) (x : Int) (c : UInt8) (h : x = (c.toNat : Int)) :
    (convert 25 9 (.slice (some ⟨W.heap.size, 0, none⟩) 1 1)).run Tryz.prog (W.alloc (.cells #[.int .u8 x] 5)) = .ok (.string ⟨#[c]⟩) (W.alloc (.cells #[.int .u8 x] 5)) := by
  subst h
  refine run_convert_bytes_back _ _ _ _ _ 1 [c] Tryz.underlying25 Tryz.underlying5 Tryz.underlying9 ?_
  intro j hj
  refine cells_new W [.int .u8 (c.toNat : Int)] 5 j _ ?_
  obtain rfl : j = 0 := by simp at hj; exact hj
  rfl
theorem digit_int (n : Nat) : (48 : Int) + (n : Int) % 10 = ((UInt8.ofNat (48 + n % 10)).toNat : Int) := by
  have : (UInt8.ofNat (48 + n % 10)).toNat = 48 + n % 10 := by simp; omega
  rw [this]; omega

set_option maxHeartbeats 4000000 in
theorem ref_Decimal (u : Nat) (w : World) (hu : u ≤ 4611686018427387904) :
    Calls Tryz.prog 34 #[.int .i64 (u : Int)] w fun e w' => e = .returned (.string ⟨(Lib.decDigits u).toArray⟩) ∧ Below w.heap.size w w' := by
  have h0 : (0 : Int) ≤ (u : Int) := by omega
  have hui : (u : Int) ≤ 4611686018427387904 := by omega
  have hne : ((u : Int) == -9223372036854775808) = false := by simp only [beq_eq_false_iff_ne, ne_eq]; omega
  have hb1 := fun W => one_byte W _ _ (digit_int u)
  have hd0 := Lib.hid (dec_pre u)
  have hdl := dec_len u (by omega)
  generalize UInt8.ofNat (48 + u % 10) = c0 at *
  go_enter Tryz.func34, Tryz.ntmps34
  go_wp2
  go_loopw [0, 3] (fun a t wr => ∃ (n : Nat) (l : List UInt8), a = .int .i64 (n : Int) ∧ t = .string ⟨l.toArray⟩ ∧ n ≤ u ∧ l.length ≤ 19 ∧ Hid (Lib.decDigits u = preD n ++ l) ∧ Below w.heap.size w wr) (fun a _ _ => (intOf a).toNat)
  case atStart => exact ⟨u, [c0], rfl, rfl, Nat.le_refl _, by simp, hd0, (Below.refl _ _).alloc (Nat.le_refl _) _⟩
  case round =>
    obtain ⟨n, l, rfl, rfl, hn, hl, HD, hB⟩ := hrel
    have hn0 : (0 : Int) ≤ (n : Int) := by omega
    by_cases h10 : 10 ≤ (n : Int)
    · have hpre : preD n = preD (n / 10) ++ [UInt8.ofNat (48 + n / 10 % 10)] := by
        rw [← dec_pre]; unfold preD; rw [if_neg (by omega)]
      have HD2 : Hid (Lib.decDigits u = preD (n / 10) ++ (UInt8.ofNat (48 + n / 10 % 10) :: l)) := Lib.hid (by rw [HD.out, hpre]; simp)
      have hlen2 : l.length + 1 ≤ 19 := by
        have h1 : (Lib.decDigits u).length ≤ 19 := hdl
        rw [HD2.out] at h1; simp at h1; omega
      have hdi := digit_int (n / 10)
      rw [show ((n / 10 : Nat) : Int) = (n : Int) / 10 by omega] at hdi
      have hb2 := fun W => one_byte W _ _ hdi
      generalize UInt8.ofNat (48 + n / 10 % 10) = c at *
      have a1 := fun W => run_string_add_sum (P := Tryz.prog) W ⟨#[c]⟩ ⟨l.toArray⟩ (by rw [mk_size l]; show 1 + l.length ≤ _; omega)
      have e1 : (⟨#[c]⟩ : ByteArray) ++ ⟨l.toArray⟩ = ⟨(c :: l).toArray⟩ := mk_append [c] l
      rw [e1] at a1
      have hBa := fun o => hB.alloc hB.size o
      clear e1 hpre hdi hb1 HD hdl
      go_wp2
      go_roundw
      case rel => exact ⟨n / 10, c :: l, congrArg (Value.int .i64) (by omega), rfl, by omega, by simp; omega, HD2, hBa _⟩
      case measure => simp [intOf]; omega
    · have HD2 : Hid (Lib.decDigits u = l) := Lib.hid (by rw [HD.out]; unfold preD; rw [if_pos (by omega)]; rfl)
      clear hb1 HD
      go_wp2
      go_ret
      exact ⟨by rw [HD2.out]; rfl, hB⟩
end Go.Proofs.YtkjmghnbcnbdbaaGreatDoor

/-
  The document's types: Types, typeName, Known, TypeText, ParseType.
-/
namespace Go.Proofs.YtkjmghnbcnbdbaaGreatDoor
set_option maxRecDepth 20000
open Go.RowKit Go.Shelf

theorem rowOfT_first {t : Int} {k : Nat} (hk : k < 9) (h : typeT k = t) (hn : ∀ j, j < k → typeT j ≠ t) : rowOfT t = some k := by
  unfold rowOfT; rw [List.find?_range_eq_some]
  exact ⟨decide_eq_true h, by simpa using hk, fun j hj => by simpa using hn j hj⟩
theorem rowOfT_never {t : Int} (h : ∀ j, j < 9 → typeT j ≠ t) : rowOfT t = none := by
  unfold rowOfT; rw [List.find?_eq_none]; intro j hj; simpa using h j (by simpa using hj)
theorem rowOfS_first {s : List UInt8} {k : Nat} (hk : k < 9) (h : typeS k = s) (hn : ∀ j, j < k → typeS j ≠ s) : rowOfS s = some k := by
  unfold rowOfS; rw [List.find?_range_eq_some]
  exact ⟨decide_eq_true h, by simpa using hk, fun j hj => by simpa using hn j hj⟩
theorem rowOfS_never {s : List UInt8} (h : ∀ j, j < 9 → typeS j ≠ s) : rowOfS s = none := by
  unfold rowOfS; rw [List.find?_eq_none]; intro j hj; simpa using h j (by simpa using hj)

/-- A row of integers in block g. -/
def TRow (g : Nat) (W : World) : Prop := g < W.heap.size ∧ ∀ j, j < 9 → W.cell? ⟨g, j, none⟩ = some (.int .i64 (typeT j))
theorem TRow.below {g : Nat} {W W' : World} (h : TRow g W) (hb : Below W.heap.size W W') : TRow g W' := ⟨Nat.lt_of_lt_of_le h.1 hb.size, fun j hj => (hb.cell (p := ⟨g, j, none⟩) h.1).trans (h.2 j hj)⟩
def TypesPost (w : World) (e : Ending) (w' : World) : Prop := ∃ g, e = .returned (.slice (some ⟨g, 0, none⟩) 9 9) ∧ TRow g w' ∧ Below w.heap.size w w'

theorem name_known (t : Int) : knownM t = !(typeNameM t).isEmpty := by
  unfold knownM typeNameM
  cases h : rowOfT t with
  | none => rfl
  | some j =>
    have := (typeS_ne j (find_range h).1).1
    simp only [Option.isSome_some]
    cases hs : typeS j with
    | nil => exact absurd hs this
    | cons a b => rfl

end Go.Proofs.YtkjmghnbcnbdbaaGreatDoor

