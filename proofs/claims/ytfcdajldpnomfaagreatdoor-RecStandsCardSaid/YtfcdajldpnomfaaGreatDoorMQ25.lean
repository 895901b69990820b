/-
  Package name's contracts in one spelling, for laws: arguments that read as names, answers named by equations.
-/
import Derived.Test.YtfcdajldpnomfaaGreatDoorMQ36
import Derived.Test.YtfcdajldpnomfaaGreatDoorMQ12
import Derived.Test.YtfcdajldpnomfaaGreatDoorMQ34
import Derived.Test.YtfcdajldpnomfaaGreatDoorMQ43
import Derived.Test.YtfcdajldpnomfaaGreatDoorMQ11
import Derived.Laws.Concat
namespace Go.Proofs.YtfcdajldpnomfaaGreatDoor
set_option maxRecDepth 20000
open Go.RowKit Go.Shelf

theorem NmAt.alloc {W : World} {v : Value} {xs : Nm} (h : NmAt W v xs) (o : Obj) : NmAt (W.alloc o) v xs := h.below ((Below.refl _ _).alloc (Nat.le_refl _) _)

theorem nm_lit (W : World) (ys : Nm) (cs : List Value) (k g : Nat) (hc : cs = ys.map strV) (hk : ys.length = k) (hm : k ≤ 1048576) (hg : W.heap.size = g) :
    NmAt (W.alloc (.cells cs.toArray 9)) (.slice (some ⟨g, 0, none⟩) k k) ys := by
  subst hc hk hg
  exact (OwnG.lit (T := 9) (enc := strV) W W.heap.size (Nat.le_refl _) ys (by unfold maxLen; omega)).nmAt
theorem nmOK_of {xs : Nm} (h : fewN xs = true) : NmOK xs := fewN_ok h

def NmRes (xs : Nm) (k : Nat) (w : World) (e : Ending) (w' : World) : Prop := ∃ a c, e = .returned (.slice a k c) ∧ NmAt w' (.slice a k c) xs ∧ Below w.heap.size w w'
def NmRes2 (xs : Nm) (k : Nat) (er : Int) (w : World) (e : Ending) (w' : World) : Prop := ∃ a c, e = .returned (.tuple #[.slice a k c, .int .i64 er]) ∧ NmAt w' (.slice a k c) xs ∧ Below w.heap.size w w'
theorem nmRes_of {xs : Nm} {k : Nat} {w w' : World} {v : Value} (hk : xs.length = k) (ho : OwnG 9 strV w' w.heap.size v xs) (hb : Below w.heap.size w w') : NmRes xs k w (.returned v) w' := by
  subst hk
  obtain ⟨a, c, rfl⟩ := ho.shape
  exact ⟨a, c, rfl, ho.nmAt, hb⟩
theorem nmRes2_of {xs : Nm} {k : Nat} {er : Int} {w w' : World} {v : Value} (hk : xs.length = k) (ho : OwnG 9 strV w' w.heap.size v xs) (hb : Below w.heap.size w w') : NmRes2 xs k er w (.returned (.tuple #[v, .int .i64 er])) w' := by
  subst hk
  obtain ⟨a, c, rfl⟩ := ho.shape
  exact ⟨a, c, rfl, ho.nmAt, hb⟩

theorem kn_NText (v : Value) (n : Nm) (t : List UInt8) (h : textN n = t) (w : World) (hA : NmAt w v n) (h1 : NmOK n) :
    Calls Tryz.prog 38 #[v] w fun e w' => e = .returned (.string ⟨t.toArray⟩) ∧ Below w.heap.size w w' := by
  subst h; exact name_Text v n w hA.1 h1
theorem kn_NSame (v u : Value) (n z : Nm) (r : Bool) (h : sameN n z = r) (w : World) (hA : NmAt w v n) (hU : NmAt w u z) (h1 : NmOK n) (h2 : NmOK z) :
    Calls Tryz.prog 35 #[v, u] w fun e w' => e = .returned (.bool r) ∧ Below w.heap.size w w' := by
  subst h; exact name_Same v u n z w hA.1 hU.1 h1 h2
theorem kn_NCompare (v u : Value) (n z : Nm) (r : Int) (h : compareN n z = r) (w : World) (hA : NmAt w v n) (hU : NmAt w u z) (h1 : NmOK n) (h2 : NmOK z) :
    Calls Tryz.prog 33 #[v, u] w fun e w' => e = .returned (.int .i64 r) ∧ Below w.heap.size w w' := by
  subst h; exact name_Compare v u n z w hA.1 hU.1 h1 h2
theorem kn_NLen (v : Value) (n : Nm) (r : Int) (h : (lenN n : Int) = r) (w : World) (hA : NmAt w v n) (h1 : NmOK n) :
    Calls Tryz.prog 64 #[v] w fun e w' => e = .returned (.int .i64 r) ∧ Below w.heap.size w w' := by
  subst h; exact name_Len v n w hA.1 h1
theorem kn_NCheck (v : Value) (n : Nm) (r : Int) (h : checkN n = r) (w : World) (hA : NmAt w v n) (h1 : NmOK n) :
    Calls Tryz.prog 31 #[v] w fun e w' => e = .returned (.int .i64 r) ∧ Below w.heap.size w w' := by
  subst h; exact name_Check v n w hA.1 h1
end Go.Proofs.YtfcdajldpnomfaaGreatDoor

/-
  rdata.pairs and its iterator, at the four element types. (Written by wip/tools/gen4.py.)
-/
namespace Go.Proofs.YtfcdajldpnomfaaGreatDoor
set_option maxRecDepth 20000
open Go.RowKit Go.Shelf

/-- What a round over pairs must keep. -/
def KeepP (b b2 : Nat) (v u : Value) (W W' : World) : Prop := KeepN b v W W' ∧ KeepN b2 u W W'
theorem KeepP.refl (b b2 : Nat) (v u : Value) (W : World) : KeepP b b2 v u W W := ⟨KeepN.refl _ _ _, KeepN.refl _ _ _⟩
theorem KeepP.trans {b b2 : Nat} {v u : Value} {A B C : World} (h : KeepP b b2 v u A B) (k : KeepP b b2 v u B C) : KeepP b b2 v u A C := ⟨h.1.trans k.1, h.2.trans k.2⟩
theorem KeepP.drewN {b b2 : Nat} {v u : Value} (W : World) (n : Nat) : KeepP b b2 v u W (W.drewN n) := ⟨KeepN.drewN _ _, KeepN.drewN _ _⟩
def pairV (xs ys : List Value) (j : Fin (min xs.length ys.length)) : Array Value := #[xs[j.val]'(by have := j.isLt; omega), ys[j.val]'(by have := j.isLt; omega)]

/-- The first of the answers that isn't 0, else what the lengths tell. -/
def FirstC (cs : Nat → Int) (n m : Nat) (r : Int) : Prop := (∃ k, k < n ∧ k < m ∧ (∀ j, j < k → cs j = 0) ∧ cs k ≠ 0 ∧ r = cs k) ∨ ((∀ j, j < n → j < m → cs j = 0) ∧ r = cmpI n m)
theorem firstC_cmpL {α : Type} {f : α → α → Int} {a b : List α} {cs : Nat → Int} {r : Int} (hc : ∀ j (h1 : j < a.length) (h2 : j < b.length), cs j = f a[j] b[j]) (h : FirstC cs a.length b.length r) : r = cmpL f a b := by
  have key : ∀ k, k ≤ a.length → k ≤ b.length → (∀ j, j < k → cs j = 0) → cmpL f a b = cmpL f (a.drop k) (b.drop k) := by
    intro k
    induction k with
    | zero => intro _ _ _; rfl
    | succ k ih =>
      intro h1 h2 h3
      rw [ih (by omega) (by omega) (fun j hj => h3 j (by omega)), cmpL_step k (by omega) (by omega), if_pos]
      rw [← hc k (by omega) (by omega)]; exact h3 k (by omega)
  rcases h with ⟨k, h1, h2, h3, h4, rfl⟩ | ⟨h1, rfl⟩
  · rw [key k (by omega) (by omega) h3, cmpL_step k h1 h2, if_neg (by rw [← hc k h1 h2]; exact h4), hc k h1 h2]
  · rcases Nat.le_total a.length b.length with h | h
    · rw [key a.length (Nat.le_refl _) h (fun j hj => h1 j hj (by omega)), cmpL_end _ (Nat.le_refl _) h (.inl rfl)]
    · rw [key b.length h (Nat.le_refl _) (fun j hj => h1 j (by omega) hj), cmpL_end _ h (Nat.le_refl _) (.inr rfl)]
theorem pre_fin {m : Nat} {p : List (Fin m)} {x : Fin m} (h : p ++ [x] <+: List.finRange m) : ∀ j (hj : j < x.val), (⟨j, by have := x.isLt; omega⟩ : Fin m) ∈ p := by
  have hl : p.length + 1 ≤ m := by have := h.length_le; simpa using this
  have e := List.prefix_iff_eq_take.1 h
  rw [List.length_append, List.length_singleton, finRange_take_succ (by omega)] at e
  obtain ⟨e1, e2⟩ := List.append_inj' e rfl
  have e2 : x = ⟨p.length, by omega⟩ := by simpa using e2
  intro j hj
  rw [e2] at hj
  have hj' : j < p.length := hj
  rw [e1]
  refine List.mem_iff_getElem.2 ⟨j, by rw [List.length_take, List.length_finRange]; omega, by simp⟩
def lastC {m : Nat} (cs : Nat → Int) (pre : List (Fin m)) : Int := cs ((pre.getLast?.map Fin.val).getD 0)
theorem lastC_snoc {m : Nat} (cs : Nat → Int) (p : List (Fin m)) (x : Fin m) : lastC cs (p ++ [x]) = cs x.val := by simp [lastC]
theorem keepP_t {b b2 : Nat} {v u : Value} {A B C : World} (h : KeepP b b2 v u A B) (k : KeepP b b2 v u B C) : KeepP b b2 v u A C := h.trans k
theorem SlAt.row_lt {W : World} {v : Value} {xs : List Value} (h : SlAt W v xs) : ∀ g, rowOf v = some g → g < W.heap.size := by
  obtain ⟨a, c, rfl, _, _, hx⟩ := h
  intro g hg
  rcases hx with e | ⟨b, off, rfl, hb, _⟩
  · subst e; cases a <;> cases hg
  · cases xs with
    | nil => cases hg
    | cons x r => cases hg; exact hb

end Go.Proofs.YtfcdajldpnomfaaGreatDoor

/-
  Data: what they may be, as plain functions and facts.
-/
namespace Go.Proofs.YtfcdajldpnomfaaGreatDoor
set_option maxRecDepth 20000
open Go.RowKit Go.Shelf

/-! ### scanning by steps -/
section
variable (f : List UInt8 → List UInt8 × Nat × Int)
/-- A step reads something from the front: what, how many octets, an error. -/
def gscanM : Nat → List UInt8 → List UInt8 × Int
  | _, [] => ([], 0)
  | 0, _ :: _ => ([], 2)
  | n + 1, x :: r =>
    if (f (x :: r)).2.2 = 0 then
      (if (gscanM n ((x :: r).drop (f (x :: r)).2.1)).2 = 0 then ((f (x :: r)).1 ++ (gscanM n ((x :: r).drop (f (x :: r)).2.1)).1, 0) else ([], (gscanM n ((x :: r).drop (f (x :: r)).2.1)).2))
    else ([], (f (x :: r)).2.2)
def gscan (l : List UInt8) : List UInt8 × Int := gscanM f l.length l
def GStep : Prop := ∀ l, l ≠ [] → (f l).2.2 = 0 → 1 ≤ (f l).2.1 ∧ (f l).2.1 ≤ l.length
variable {f}
theorem gscanM_fuel (hf : GStep f) : ∀ (n : Nat) (l : List UInt8), l.length ≤ n → gscanM f n l = gscan f l := by
  intro n
  induction n using Nat.strongRecOn with
  | _ n ih =>
    intro l hl
    match l, n with
    | [], _ => simp [gscanM, gscan]
    | x :: r, 0 => simp at hl
    | x :: r, n + 1 =>
      unfold gscan
      simp only [List.length_cons, gscanM]
      by_cases h : (f (x :: r)).2.2 = 0
      · have hs := hf _ (by simp) h
        have hd : ((x :: r).drop (f (x :: r)).2.1).length ≤ r.length := by simp at hs ⊢; omega
        simp only [List.length_cons] at hl
        have e1 := ih n (by omega) _ (Nat.le_trans hd (by omega))
        rw [e1]
        by_cases hn : r.length = n
        · rw [hn, e1]
        · rw [ih r.length (by omega) _ hd]
      · simp [h]
theorem gscanM_clean (n : Nat) (l : List UInt8) (h : (gscanM f n l).2 ≠ 0) : (gscanM f n l).1 = [] := by
  match n, l with
  | _, [] => simp [gscanM]
  | 0, _ :: _ => simp [gscanM]
  | n + 1, x :: r =>
    simp only [gscanM] at h ⊢
    by_cases h1 : (f (x :: r)).2.2 = 0
    · by_cases h2 : (gscanM f n ((x :: r).drop (f (x :: r)).2.1)).2 = 0
      · simp [h1, h2] at h
      · simp [h1, h2]
    · simp [h1]
theorem gscan_nil : gscan f [] = ([], 0) := rfl
theorem gscan_err {l : List UInt8} (h0 : l ≠ []) (h : (f l).2.2 ≠ 0) : gscan f l = ([], (f l).2.2) := by
  match l, h0 with
  | x :: r, _ => unfold gscan; simp only [List.length_cons, gscanM]; rw [if_neg h]
theorem gscan_ok (hf : GStep f) {l : List UInt8} (h0 : l ≠ []) (h : (f l).2.2 = 0) : gscan f l = join (f l).1 (gscan f (l.drop (f l).2.1)) := by
  match l, h0 with
  | x :: r, _ =>
    have hs := hf (x :: r) (by simp) h
    have hd : ((x :: r).drop (f (x :: r)).2.1).length ≤ r.length := by simp at hs ⊢; omega
    have e : gscan f (x :: r) = gscanM f (r.length + 1) (x :: r) := rfl
    rw [e, gscanM, if_pos h, gscanM_fuel hf _ _ hd]
    unfold join; simp
theorem gjoin_nil (l : List UInt8) : gscan f l = join [] (gscan f l) := by
  unfold join
  by_cases h : (gscan f l).2 = 0
  · rw [if_pos h, List.nil_append, ← h]
  · rw [if_neg h, ← gscanM_clean (f := f) l.length l h]; rfl
end

/-! ### texts -/
def tSize (l : List UInt8) : Nat := min (match l with | _ :: y :: _ => if digitU y then 4 else 2 | _ => 2) l.length
def tStep (l : List UInt8) : List UInt8 × Nat × Int :=
  match l with
  | [] => ([], 0, 2)
  | x :: r => if x ≠ 92 then ([x], 1, 0) else ((parseM ((x :: r).take (tSize (x :: r)))).1, tSize (x :: r), (parseM ((x :: r).take (tSize (x :: r)))).2)
theorem tStep_ok : GStep tStep := by
  intro l h0 _
  match l, h0 with
  | x :: r, _ =>
    have e : tStep (x :: r) = if x ≠ 92 then ([x], 1, 0) else ((parseM ((x :: r).take (tSize (x :: r)))).1, tSize (x :: r), (parseM ((x :: r).take (tSize (x :: r)))).2) := rfl
    rw [e]
    by_cases h : x ≠ 92
    · rw [if_pos h]; exact ⟨Nat.le_refl _, by simp⟩
    · rw [if_neg h]
      have h2 : 1 ≤ tSize (x :: r) ∧ tSize (x :: r) ≤ (x :: r).length := by
        unfold tSize
        refine ⟨?_, Nat.min_le_right _ _⟩
        rw [Nat.le_min]
        refine ⟨?_, by simp⟩
        split <;> first | omega | (split <;> omega)
      exact h2
def readTextM (l : List UInt8) : List UInt8 × Int := if (gscan tStep l).2 = 0 then (if 255 < (gscan tStep l).1.length then ([], 3) else ((gscan tStep l).1, 0)) else ([], (gscan tStep l).2)
def quoteW (c : UInt8) : List UInt8 := if c = 34 ∨ c = 92 then [92, c] else if c.toNat < 32 ∨ 126 < c.toNat then octetEsc c else [c]
def quotedM (l : List UInt8) : List UInt8 := 34 :: (l.flatMap quoteW ++ [34])

/-! ### hexadecimal digits -/
def hexU (c : UInt8) : Option Nat :=
  if 48 ≤ c.toNat ∧ c.toNat ≤ 57 then some (c.toNat - 48) else if 97 ≤ c.toNat ∧ c.toNat ≤ 102 then some (c.toNat - 97 + 10) else if 65 ≤ c.toNat ∧ c.toNat ≤ 70 then some (c.toNat - 65 + 10) else none
def hexC (n : Nat) : UInt8 := if n < 10 then UInt8.ofNat (48 + n) else UInt8.ofNat (97 + (n - 10))
theorem hexU_lt {c : UInt8} {v : Nat} (h : hexU c = some v) : v < 16 := by
  unfold hexU at h
  split at h
  · cases h; omega
  split at h
  · cases h; omega
  split at h
  · cases h; omega
  · cases h
def hexV (c : UInt8) : Nat := (hexU c).getD 0
def hexB (c : UInt8) : Bool := (hexU c).isSome
theorem hexV_lt (c : UInt8) : hexV c < 16 := by
  unfold hexV
  cases h : hexU c with
  | none => simp
  | some v => exact hexU_lt h
def hexW (c : UInt8) : UInt8 := UInt8.ofNat (hexV c)
/-- Pairs of halves as octets. -/
def pairUp : List UInt8 → List UInt8
  | a :: b :: r => UInt8.ofNat (16 * a.toNat + b.toNat) :: pairUp r
  | _ => []
abbrev Wd := List UInt8 × Bool
def halvesOK (l : List Wd) : Bool := l.all fun x => !x.2 && x.1.all hexB
def halvesL (l : List Wd) : List UInt8 := l.flatMap fun x => x.1.map hexW

/-! ### what data may be -/
def countedM (d : Dat) : Bool := decide (d.names.length = (countsM d.ty).1 ∧ d.nums.length = (countsM d.ty).2.1 ∧ (if d.ty = 16 then 1 ≤ d.texts.length ∧ d.texts.length ≤ 32 else d.texts.length = 0) ∧ (0 ≤ (countsM d.ty).2.2 → (d.raw.length : Int) = (countsM d.ty).2.2))
def checkNs : List Nm → Int
  | [] => 0
  | n :: r => if checkN n = 0 then checkNs r else checkN n
def longT (l : Nm) : Bool := l.any fun s => decide (255 < s.length)
def checkD (d : Dat) : Int :=
  if d.ty < 1 ∨ 65535 < d.ty then 6 else if countedM d = false then 2 else if checkNs d.names ≠ 0 then checkNs d.names
  else if d.ty = 15 ∧ 65535 < d.nums.headD 0 then 7 else if longT d.texts then 3 else if 1024 < d.raw.length then 3 else 0
theorem checkNs_snoc (l : List Nm) (n : Nm) : checkNs (l ++ [n]) = if checkNs l = 0 then checkN n else checkNs l := by
  induction l with
  | nil => simp only [List.nil_append, checkNs, if_true]; split <;> simp_all
  | cons x r ih =>
    have e : ∀ l, checkNs (x :: l) = if checkN x = 0 then checkNs l else checkN x := fun _ => rfl
    rw [List.cons_append]
    by_cases h : checkN x = 0
    · have e1 : ∀ l, checkNs (x :: l) = checkNs l := fun l => by rw [e, if_pos h]
      rw [e1, e1, ih]
    · have e1 : ∀ l, checkNs (x :: l) = checkN x := fun l => by rw [e, if_neg h]
      rw [e1, e1, if_neg h]
theorem checkNs_stop {a p : List Nm} (h : p <+: a) (hp : checkNs p ≠ 0) : checkNs a = checkNs p := by
  obtain ⟨t, rfl⟩ := h
  induction p with
  | nil => exact absurd rfl hp
  | cons x r ih =>
    simp only [List.cons_append, checkNs] at hp ⊢
    by_cases h : checkN x = 0
    · rw [if_pos h] at hp ⊢; rw [if_pos h]; exact ih hp
    · rw [if_neg h, if_neg h]

/-! ### words -/
def formD (t : Int) (n : Nat) : List UInt8 :=
  if t = 1 then [52] else if t = 28 then [54] else if t = 2 ∨ t = 5 ∨ t = 12 ∨ t = 39 then [110] else if t = 15 then [112, 110] else if t = 6 then [110, 110, 117, 117, 117, 117, 117]
  else if t = 16 ∧ n ≤ 32 then List.replicate n 116 else []
/-- A text at each of an octet. -/
def splitAtU (sep : UInt8) : List UInt8 → List (List UInt8)
  | [] => [[]]
  | c :: r => if c = sep then [] :: splitAtU sep r else match splitAtU sep r with | [] => [[c]] | x :: t => (c :: x) :: t
def addrsM : List (List UInt8) → List UInt8 × Int
  | [] => ([], 0)
  | p :: r => if (numM p 255).2 ≠ 0 then ([], (numM p 255).2) else if (addrsM r).2 = 0 then (UInt8.ofNat (numM p 255).1 :: (addrsM r).1, 0) else ([], (addrsM r).2)
def addressM (s : List UInt8) : List UInt8 × Int := if (splitAtU 46 s).length = 4 then addrsM (splitAtU 46 s) else ([], 2)
def groupV (l : List UInt8) : Nat := l.foldl (fun n c => 16 * n + hexV c) 0
def groupsR : List (List UInt8) → List UInt8 × Int
  | [] => ([], 0)
  | p :: r => if p.length < 1 ∨ 4 < p.length ∨ p.all hexB = false then ([], 2)
    else if (groupsR r).2 = 0 then (UInt8.ofNat (groupV p / 256) :: UInt8.ofNat (groupV p % 256) :: (groupsR r).1, 0) else ([], (groupsR r).2)
def groupsM (s : List UInt8) : List UInt8 × Int := if (splitAtU 58 s).length = 8 then groupsR (splitAtU 58 s) else ([], 2)
def errD (k : UInt8) (s : List UInt8) (o : Nm) : Int :=
  if k = 110 then (parseN s o).2 else if k = 117 then (numM s 4294967295).2 else if k = 112 then (numM s 65535).2 else if k = 116 then (readTextM s).2 else if k = 52 then (addressM s).2 else if k = 54 then (groupsM s).2 else 0
def addD (d : Dat) (k : UInt8) (s : List UInt8) (o : Nm) : Dat :=
  if k = 110 then { d with names := d.names ++ [(parseN s o).1] } else if k = 117 then { d with nums := d.nums ++ [(numM s 4294967295).1] } else if k = 112 then { d with nums := d.nums ++ [(numM s 65535).1] }
  else if k = 116 then { d with texts := d.texts ++ [(readTextM s).1] } else if k = 52 then { d with raw := (addressM s).1 } else if k = 54 then { d with raw := (groupsM s).1 } else d
def wordsD (d : Dat) (o : Nm) : List UInt8 → List Wd → Dat × Int
  | k :: ks, (s, q) :: l => if q ∧ k ≠ 116 then (d, 2) else if errD k s o ≠ 0 then (d, errD k s o) else wordsD (addD d k s o) o ks l
  | _, _ => (d, 0)
def octetsD (t : Int) (l : List Wd) : List UInt8 × Int :=
  if knownM t ∧ ¬ (t = 1 ∨ t = 28) then ([], 6) else match l with
  | [] => ([], 2)
  | (s, q) :: r => if q then ([], 2) else if (numM s 4294967295).2 ≠ 0 then ([], (numM s 4294967295).2) else if 1024 < (numM s 4294967295).1 then ([], 3) else
    if halvesOK r = false ∨ (halvesL r).length ≠ 2 * (numM s 4294967295).1 then ([], 2) else if (t = 1 ∧ (numM s 4294967295).1 ≠ 4) ∨ (t = 28 ∧ (numM s 4294967295).1 ≠ 16) then ([], 2) else (pairUp (halvesL r), 0)
def Dat.of (t : Int) : Dat := ⟨t, [], [], [], []⟩
def parseD (t : Int) (l : List Wd) (o : Nm) : Dat × Int :=
  if t < 1 ∨ 65535 < t then (Dat.none, 6) else
  if l.head? = some ([92, 35], false) then (if (octetsD t (l.drop 1)).2 = 0 then (⟨t, [], [], [], (octetsD t (l.drop 1)).1⟩, 0) else (Dat.none, (octetsD t (l.drop 1)).2))
  else if formD t l.length = [] ∨ (formD t l.length).length ≠ l.length then (Dat.none, 2)
  else if (wordsD (Dat.of t) o (formD t l.length) l).2 = 0 then ((wordsD (Dat.of t) o (formD t l.length) l).1, 0) else (Dat.none, (wordsD (Dat.of t) o (formD t l.length) l).2)

/-! ### data in words -/
def sepBy (sep : List UInt8) : List (List UInt8) → List UInt8
  | [] => []
  | [x] => x
  | x :: y :: r => x ++ sep ++ sepBy sep (y :: r)
/-- A number's hexadecimal digits, at least one. -/
def hexD (n : Nat) : List UInt8 := if _h : n < 16 then [hexC n] else hexD (n / 16) ++ [hexC (n % 16)]
termination_by n
decreasing_by omega
def hexes : List UInt8 → List (List UInt8)
  | a :: b :: r => hexD (256 * a.toNat + b.toNat) :: hexes r
  | _ => []
def hex2 (c : UInt8) : List UInt8 := [hexC (c.toNat / 16), hexC (c.toNat % 16)]
def octetWordsM (raw : List UInt8) : List UInt8 := [92, 35, 32] ++ Lib.decDigits raw.length ++ (if raw = [] then [] else 32 :: raw.flatMap hex2)
def textD (d : Dat) : List UInt8 :=
  if d.ty = 1 then sepBy [46] (d.raw.map fun c => Lib.decDigits c.toNat)
  else if d.ty = 28 then sepBy [58] (hexes d.raw)
  else if d.ty = 2 ∨ d.ty = 5 ∨ d.ty = 12 ∨ d.ty = 39 ∨ d.ty = 6 then sepBy [32] (d.names.map textN ++ d.nums.map Lib.decDigits)
  else if d.ty = 15 then sepBy [32] (d.nums.map Lib.decDigits ++ d.names.map textN)
  else if d.ty = 16 then sepBy [32] (d.texts.map quotedM)
  else octetWordsM d.raw

end Go.Proofs.YtfcdajldpnomfaaGreatDoor

/-
  Decimals written: the document's Decimal.
-/
namespace Go.Proofs.YtfcdajldpnomfaaGreatDoor
set_option maxRecDepth 20000
open Go.RowKit Go.Shelf

def preD (n : Nat) : List UInt8 := if n < 10 then [] else Lib.decDigits (n / 10)
theorem dec_pre (n : Nat) : Lib.decDigits n = preD n ++ [UInt8.ofNat (48 + n % 10)] := by
  rw [Lib.decDigits]; unfold preD
  by_cases h : n < 10
  · rw [dif_pos h, if_pos h, Nat.mod_eq_of_lt h]; rfl
  · rw [dif_neg h, if_neg h]
theorem dec_len (u : Nat) (h : u < 10 ^ 19) : (Lib.decDigits u).length ≤ 19 := by
  rw [Lib.decDigits_length]
  have : ∀ k u, u < 10 ^ k → Lib.nDigits u ≤ max k 1 := by
    intro k
    induction k with
    | zero => intro u h; rw [Lib.nDigits_small (by simp at h; omega)]; omega
    | succ k ih =>
      intro u h
      rw [Lib.nDigits]
      by_cases h10 : u < 10
      · rw [dif_pos h10]; omega
      · rw [dif_neg h10]
        have := ih (u / 10) (by rw [Nat.pow_succ] at h; omega)
        rcases k with _ | k
        · simp at h; omega
        · omega
  have := this 19 u h
  omega

theorem one_byte (W : World) (x : Int) (c : UInt8) (h : x = (c.toNat : Int)) :
    (convert 27 9 (.slice (some ⟨W.heap.size, 0, none⟩) 1 1)).run Tryz.prog (W.alloc (.cells #[.int .u8 x] 5)) = .ok (.string ⟨#[c]⟩) (W.alloc (.cells #[.int .u8 x] 5)) := by
  subst h
  refine run_convert_bytes_back _ _ _ _ _ 1 [c] Tryz.underlying27 Tryz.underlying5 Tryz.underlying9 ?_
  intro j hj
  refine cells_new W [.int .u8 (c.toNat : Int)] 5 j _ ?_
  obtain rfl : j = 0 := by simp at hj; exact hj
  rfl
theorem digit_int (n : Nat) : (48 : Int) + (n : Int) % 10 = ((UInt8.ofNat (48 + n % 10)).toNat : Int) := by
  have : (UInt8.ofNat (48 + n % 10)).toNat = 48 + n % 10 := by simp; omega
  rw [this]; omega

set_option maxHeartbeats 4000000 in
theorem ref_Decimal (u : Nat) (w : World) (hu : u ≤ 4611686018427387904) :
    Calls Tryz.prog 42 #[.int .i64 (u : Int)] w fun e w' => e = .returned (.string ⟨(Lib.decDigits u).toArray⟩) ∧ Below w.heap.size w w' := by
  have h0 : (0 : Int) ≤ (u : Int) := by omega
  have hui : (u : Int) ≤ 4611686018427387904 := by omega
  have hne : ((u : Int) == -9223372036854775808) = false := by simp only [beq_eq_false_iff_ne, ne_eq]; omega
  have hb1 := fun W => one_byte W _ _ (digit_int u)
  have hd0 := Lib.hid (dec_pre u)
  have hdl := dec_len u (by omega)
  generalize UInt8.ofNat (48 + u % 10) = c0 at *
  go_enter Tryz.func42, Tryz.ntmps42
  go_wp2
  go_loopw [0, 3] (fun a t wr => ∃ (n : Nat) (l : List UInt8), a = .int .i64 (n : Int) ∧ t = .string ⟨l.toArray⟩ ∧ n ≤ u ∧ l.length ≤ 19 ∧ Hid (Lib.decDigits u = preD n ++ l) ∧ Below w.heap.size w wr) (fun a _ _ => (intOf a).toNat)
  case atStart => exact ⟨u, [c0], rfl, rfl, Nat.le_refl _, by simp, hd0, (Below.refl _ _).alloc (Nat.le_refl _) _⟩
  case round =>
    obtain ⟨n, l, rfl, rfl, hn, hl, HD, hB⟩ := hrel
    have hn0 : (0 : Int) ≤ (n : Int) := by omega
    by_cases h10 : 10 ≤ (n : Int)
    · have hpre : preD n = preD (n / 10) ++ [UInt8.ofNat (48 + n / 10 % 10)] := by
        rw [← dec_pre]; unfold preD; rw [if_neg (by omega)]
      have HD2 : Hid (Lib.decDigits u = preD (n / 10) ++ (UInt8.ofNat (48 + n / 10 % 10) :: l)) := Lib.hid (by rw [HD.out, hpre]; simp)
      have hlen2 : l.length + 1 ≤ 19 := by
        have h1 : (Lib.decDigits u).length ≤ 19 := hdl
        rw [HD2.out] at h1; simp at h1; omega
      have hdi := digit_int (n / 10)
      rw [show ((n / 10 : Nat) : Int) = (n : Int) / 10 by omega] at hdi
      have hb2 := fun W => one_byte W _ _ hdi
      generalize UInt8.ofNat (48 + n / 10 % 10) = c at *
      have a1 := fun W => run_string_add_sum (P := Tryz.prog) W ⟨#[c]⟩ ⟨l.toArray⟩ (by rw [mk_size l]; show 1 + l.length ≤ _; omega)
      have e1 : (⟨#[c]⟩ : ByteArray) ++ ⟨l.toArray⟩ = ⟨(c :: l).toArray⟩ := mk_append [c] l
      rw [e1] at a1
      have hBa := fun o => hB.alloc hB.size o
      clear e1 hpre hdi hb1 HD hdl
      go_wp2
      go_roundw
      case rel => exact ⟨n / 10, c :: l, congrArg (Value.int .i64) (by omega), rfl, by omega, by simp; omega, HD2, hBa _⟩
      case measure => simp [intOf]; omega
    · have HD2 : Hid (Lib.decDigits u = l) := Lib.hid (by rw [HD.out]; unfold preD; rw [if_pos (by omega)]; rfl)
      clear hb1 HD
      go_wp2
      go_ret
      exact ⟨by rw [HD2.out]; rfl, hB⟩
end Go.Proofs.YtfcdajldpnomfaaGreatDoor

