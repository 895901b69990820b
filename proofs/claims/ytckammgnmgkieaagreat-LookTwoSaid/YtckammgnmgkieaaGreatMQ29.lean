/-
  Plain facts on labels: the order, letters great and small, words and back.
-/
import Derived.Test.YtckammgnmgkieaaGreatMQ27
import Derived.Test.YtckammgnmgkieaaGreatMQ24
import Derived.Test.YtckammgnmgkieaaGreatMQ22
import Derived.Maps.AppendAt
import Derived.Maps.OwnIn
import Derived.StillTail
import Derived.StillTailTactics
import Derived.Deep.RegionHeld3
import Derived.Deep.RegionHeldLaw
import Derived.Deep.AppendLies
import Derived.Deep.DrawnRows
namespace Go.Proofs.YtckammgnmgkieaaGreat
set_option maxRecDepth 20000
open Go.RowKit Go.Shelf

theorem smallU_idem (c : UInt8) : smallU (smallU c) = smallU c := by
  unfold smallU
  by_cases h : 65 ≤ c.toNat ∧ c.toNat ≤ 90
  · rw [if_pos h, if_neg]
    rw [UInt8.toNat_add]; simp; omega
  · rw [if_neg h, if_neg h]
theorem cmpI_cases (a b : Int) : (cmpI a b = -1 ∧ a < b) ∨ (cmpI a b = 0 ∧ a = b) ∨ (cmpI a b = 1 ∧ b < a) := by
  unfold cmpI
  by_cases h : a < b
  · left; rw [if_pos h]; exact ⟨rfl, h⟩
  · by_cases h2 : b < a
    · right; right; rw [if_neg h, if_pos h2]; exact ⟨rfl, h2⟩
    · right; left; rw [if_neg h, if_neg h2]; exact ⟨rfl, by omega⟩
theorem compareM_range : ∀ a b : List UInt8, compareM a b = -1 ∨ compareM a b = 0 ∨ compareM a b = 1
  | [], [] => by simp [compareM]
  | [], _ :: _ => by simp [compareM]
  | _ :: _, [] => by simp [compareM]
  | x :: a, y :: b => by
    by_cases h : smallU x = smallU y
    · simp only [compareM, h, if_true]; exact compareM_range a b
    · simp only [compareM, h, if_false]; have := cmpI_cases (smallU x).toNat (smallU y).toNat; omega
theorem compareM_swap : ∀ a b : List UInt8, compareM b a = - compareM a b
  | [], [] => by simp [compareM]
  | [], _ :: _ => by simp [compareM]
  | _ :: _, [] => by simp [compareM]
  | x :: a, y :: b => by
    by_cases h : smallU x = smallU y
    · simp only [compareM, h, if_true]; exact compareM_swap a b
    · simp only [compareM, h, if_false, Ne.symm h]
      have h1 := cmpI_cases (smallU x).toNat (smallU y).toNat
      have h2 := cmpI_cases (smallU y).toNat (smallU x).toNat
      omega
theorem compareM_zero : ∀ a b : List UInt8, compareM a b = 0 ↔ foldL a = foldL b
  | [], [] => by simp [compareM, foldL]
  | [], _ :: _ => by simp [compareM, foldL]
  | _ :: _, [] => by simp [compareM, foldL]
  | x :: a, y :: b => by
    have ih := compareM_zero a b
    by_cases h : smallU x = smallU y
    · simp only [compareM, h, if_true, ih, foldL, List.map_cons, List.cons.injEq, true_and]
    · have hn : (smallU x).toNat ≠ (smallU y).toNat := fun e => h (UInt8.toNat_inj.1 e)
      have h1 := cmpI_cases (smallU x).toNat (smallU y).toNat
      simp only [compareM, h, if_false, foldL, List.map_cons, List.cons.injEq, false_and, iff_false]
      omega
theorem compareM_foldl : ∀ a b : List UInt8, compareM (foldL a) b = compareM a b
  | [], [] => rfl
  | [], _ :: _ => rfl
  | _ :: _, [] => rfl
  | x :: a, y :: b => by
    have ih := compareM_foldl a b
    simp only [foldL, List.map_cons, compareM, smallU_idem] at ih ⊢
    rw [ih]
theorem compareM_trans : ∀ a b c : List UInt8, compareM a b ≤ 0 → compareM b c ≤ 0 → compareM a c ≤ 0
  | [], _, [] => by simp [compareM]
  | [], _, _ :: _ => by simp [compareM]
  | _ :: _, [], _ => by simp [compareM]
  | _ :: _, _ :: _, [] => by intro _ h; simp [compareM] at h
  | x :: a, y :: b, z :: c => by
    intro h1 h2
    have c1 := cmpI_cases (smallU x).toNat (smallU y).toNat
    have c2 := cmpI_cases (smallU y).toNat (smallU z).toNat
    have c3 := cmpI_cases (smallU x).toNat (smallU z).toNat
    simp only [compareM] at h1 h2 ⊢
    by_cases e1 : smallU x = smallU y
    · rw [if_pos e1] at h1
      by_cases e2 : smallU y = smallU z
      · rw [if_pos e2] at h2
        rw [if_pos (e1.trans e2)]
        exact compareM_trans a b c h1 h2
      · rw [if_neg e2] at h2
        rw [if_neg (by rw [e1]; exact e2), e1]; exact h2
    · rw [if_neg e1] at h1
      have n1 : (smallU x).toNat ≠ (smallU y).toNat := fun e => e1 (UInt8.toNat_inj.1 e)
      by_cases e2 : smallU y = smallU z
      · rw [if_neg (by rw [← e2]; exact e1), ← e2]; exact h1
      · rw [if_neg e2] at h2
        have n2 : (smallU y).toNat ≠ (smallU z).toNat := fun e => e2 (UInt8.toNat_inj.1 e)
        by_cases e3 : smallU x = smallU z
        · rw [e3] at n1 c1 h1; omega
        · rw [if_neg e3]; omega
theorem sameM_eq (a b : List UInt8) : sameM a b = decide (compareM a b = 0) := by
  unfold sameM; congr 1; apply propext
  constructor
  · exact fun h => h.2
  · intro h
    have := congrArg List.length ((compareM_zero a b).1 h)
    simp only [foldL, List.length_map] at this
    exact ⟨this, h⟩
theorem str_of (l : List UInt8) : ∃ s : ByteArray, s.data.toList = l ∧ s.size = l.length ∧ strV l = .string s := ⟨⟨l.toArray⟩, by simp, by show l.toArray.size = _; simp, rfl⟩
theorem mk_size (l : List UInt8) : (⟨l.toArray⟩ : ByteArray).size = l.length := by show l.toArray.size = _; simp
end Go.Proofs.YtckammgnmgkieaaGreat

/-
  Names as lists of labels: what the functions of package name answer, as plain functions on lists; facts on them.
-/
namespace Go.Proofs.YtckammgnmgkieaaGreat
set_option maxRecDepth 20000
open Go.RowKit Go.Shelf

abbrev Nm := List (List UInt8)
def lenN (n : Nm) : Nat := 1 + (n.map fun x => 1 + x.length).sum
def checkL : Nm → Int
  | [] => 0
  | x :: r => if checkLabelM x = 0 then checkL r else checkLabelM x
def checkN (n : Nm) : Int := if checkL n = 0 then (if 255 < lenN n then 3 else 0) else checkL n
def textN (n : Nm) : List UInt8 := if n = [] then [46] else n.flatMap fun x => textL x ++ [46]
def foldN (n : Nm) : Nm := n.map foldL
def sameN (a b : Nm) : Bool := decide (foldN a = foldN b)
def underN (n z : Nm) : Bool := decide (z.length ≤ n.length) && sameN (n.drop (n.length - z.length)) z
def cmpR : Nm → Nm → Int
  | [], [] => 0
  | [], _ :: _ => -1
  | _ :: _, [] => 1
  | x :: r, y :: t => if compareM x y = 0 then cmpR r t else compareM x y
def compareN (a b : Nm) : Int := cmpR a.reverse b.reverse
def swapN (n f t : Nm) : Nm × Int :=
  if underN n f then (if checkN (n.take (n.length - f.length) ++ t) = 0 then (n.take (n.length - f.length) ++ t, 0) else ([], 7)) else ([], 12)
theorem lenN_cons (x : List UInt8) (n : Nm) : lenN (x :: n) = lenN n + 1 + x.length := by simp [lenN]; omega
theorem lenN_snoc (n : Nm) (x : List UInt8) : lenN (n ++ [x]) = lenN n + 1 + x.length := by simp [lenN]; omega
theorem checkL_append (a b : Nm) : checkL (a ++ b) = if checkL a = 0 then checkL b else checkL a := by
  induction a with
  | nil => simp [checkL]
  | cons x a ih =>
    simp only [List.cons_append, checkL]
    split
    · exact ih
    · rfl
theorem checkL_snoc (a : Nm) (x : List UInt8) : checkL (a ++ [x]) = if checkL a = 0 then checkLabelM x else checkL a := by
  rw [checkL_append]; simp only [checkL]
  split
  · split
    · rename_i h; exact h.symm
    · rfl
  · rfl
theorem checkL_stop {a p : Nm} (h : p <+: a) (hp : checkL p ≠ 0) : checkL a = checkL p := by
  obtain ⟨t, rfl⟩ := h; rw [checkL_append, if_neg hp]
theorem checkN_of_stop {a p : Nm} (h : p <+: a) (hp : checkL p ≠ 0) : checkN a = checkL p := by
  unfold checkN; rw [checkL_stop h hp, if_neg hp]

theorem foldN_len (n : Nm) : (foldN n).length = n.length := by simp [foldN]
theorem sameN_iff (a b : Nm) : sameN a b = true ↔ foldN a = foldN b := by simp [sameN]
theorem sameM_iff (a b : List UInt8) : sameM a b = true ↔ foldL a = foldL b := by
  rw [sameM_eq, decide_eq_true_iff]; exact compareM_zero a b
theorem sameN_len {a b : Nm} (h : a.length ≠ b.length) : sameN a b = false := by
  unfold sameN; apply decide_eq_false; intro e; have := congrArg List.length e; simp [foldN] at this; exact h this
theorem sameN_of_get {a b : Nm} (h : a.length = b.length) (hs : ∀ j (h1 : j < a.length) (h2 : j < b.length), sameM a[j] b[j] = true) : sameN a b = true := by
  rw [sameN_iff]
  apply List.ext_getElem (by simp [foldN, h])
  intro j h1 h2
  simp only [foldN, List.getElem_map]
  exact (sameM_iff _ _).1 (hs j (by simpa [foldN] using h1) (by simpa [foldN] using h2))
theorem sameN_not_get {a b : Nm} (j : Nat) (h1 : j < a.length) (h2 : j < b.length) (hs : sameM a[j] b[j] = false) : sameN a b = false := by
  cases h : sameN a b with
  | false => rfl
  | true =>
    rw [sameN_iff] at h
    have : foldL a[j] = foldL b[j] := by
      have h3 : (foldN a)[j]'(by simp [foldN, h1]) = (foldN b)[j]'(by simp [foldN, h2]) := by simp only [h]
      simpa [foldN] using h3
    rw [(sameM_iff _ _).2 this] at hs; cases hs
theorem sameN_refl (a : Nm) : sameN a a = true := (sameN_iff _ _).2 rfl
theorem sameN_symm (a b : Nm) : sameN a b = sameN b a := by unfold sameN; exact decide_eq_decide.2 ⟨Eq.symm, Eq.symm⟩
theorem foldL_idem (l : List UInt8) : foldL (foldL l) = foldL l := by
  unfold foldL; rw [List.map_map]; apply List.map_congr_left; intro c _; exact smallU_idem c
theorem sameN_fold (a : Nm) : sameN a (foldN a) = true := by
  rw [sameN_iff]; unfold foldN; rw [List.map_map]; apply List.map_congr_left; intro l _; exact (foldL_idem l).symm

theorem cmpR_swap : ∀ a b : Nm, cmpR b a = - cmpR a b
  | [], [] => rfl
  | [], _ :: _ => rfl
  | _ :: _, [] => rfl
  | x :: r, y :: t => by
    simp only [cmpR]
    have h := compareM_swap x y
    by_cases e : compareM x y = 0
    · rw [if_pos e, if_pos (by omega)]; exact cmpR_swap r t
    · rw [if_neg e, if_neg (by omega)]; exact h
theorem cmpR_zero : ∀ a b : Nm, cmpR a b = 0 ↔ foldN a = foldN b
  | [], [] => by simp [cmpR, foldN]
  | [], _ :: _ => by simp [cmpR, foldN]
  | _ :: _, [] => by simp [cmpR, foldN]
  | x :: r, y :: t => by
    have ih := cmpR_zero r t
    have h := compareM_zero x y
    simp only [cmpR, foldN, List.map_cons, List.cons.injEq] at ih ⊢
    by_cases e : compareM x y = 0
    · rw [if_pos e, ih]; exact ⟨fun q => ⟨h.1 e, q⟩, fun q => q.2⟩
    · rw [if_neg e]; exact ⟨fun q => absurd q e, fun q => absurd (h.2 q.1) e⟩
theorem compareM_zero_left {x y z : List UInt8} (h : compareM x y = 0) : compareM y z = compareM x z := by
  have e := (compareM_zero x y).1 h
  rw [← compareM_foldl x z, ← compareM_foldl y z, e]
theorem cmpR_trans : ∀ a b c : Nm, cmpR a b ≤ 0 → cmpR b c ≤ 0 → cmpR a c ≤ 0
  | [], _, [] => by intro _ _; simp [cmpR]
  | [], _, _ :: _ => by intro _ _; simp [cmpR]
  | _ :: _, [], _ => by intro h _; simp [cmpR] at h
  | _ :: _, _ :: _, [] => by intro _ h; simp [cmpR] at h
  | x :: r, y :: t, z :: u => by
    have ih := cmpR_trans r t u
    simp only [cmpR]
    intro h1 h2
    by_cases e1 : compareM x y = 0
    · rw [if_pos e1] at h1
      rw [← compareM_zero_left (z := z) e1]
      by_cases e2 : compareM y z = 0
      · rw [if_pos e2] at h2 ⊢; exact ih h1 h2
      · rw [if_neg e2] at h2 ⊢; exact h2
    · rw [if_neg e1] at h1
      by_cases e2 : compareM y z = 0
      · have e3 : compareM x z = compareM x y := by
          have s1 := compareM_swap x z; have s2 := compareM_swap x y
          have := compareM_zero_left (x := y) (y := z) (z := x) e2
          omega
        rw [e3, if_neg e1]; exact h1
      · rw [if_neg e2] at h2
        have h3 := compareM_trans x y z h1 h2
        by_cases e3 : compareM x z = 0
        · exfalso
          have s1 := compareM_swap x y
          have := compareM_zero_left (x := x) (y := z) (z := y) e3
          have s2 := compareM_swap y z
          have r1 := compareM_range x y; have r2 := compareM_range y z
          omega
        · rw [if_neg e3]; exact h3
theorem foldN_reverse (a : Nm) : foldN a.reverse = (foldN a).reverse := by simp [foldN]
theorem compareN_zero (a b : Nm) : compareN a b = 0 ↔ sameN a b = true := by
  unfold compareN; rw [cmpR_zero, foldN_reverse, foldN_reverse, sameN_iff]
  exact ⟨fun h => List.reverse_inj.1 h, fun h => by rw [h]⟩
theorem compareN_swap (a b : Nm) : compareN b a = - compareN a b := cmpR_swap _ _
theorem compareN_trans (a b c : Nm) (h1 : compareN a b ≤ 0) (h2 : compareN b c ≤ 0) : compareN a c ≤ 0 := cmpR_trans _ _ _ h1 h2

theorem underN_iff (n z : Nm) : underN n z = true ↔ ∃ p, foldN n = p ++ foldN z := by
  unfold underN
  simp only [Bool.and_eq_true, decide_eq_true_eq, sameN_iff]
  constructor
  · rintro ⟨h, e⟩
    refine ⟨(foldN n).take (n.length - z.length), ?_⟩
    rw [← e]; simp [foldN, List.map_drop]
  · rintro ⟨p, e⟩
    have hl : n.length = p.length + z.length := by have := congrArg List.length e; simpa [foldN] using this
    refine ⟨by omega, ?_⟩
    have : foldN (n.drop (n.length - z.length)) = (foldN n).drop (n.length - z.length) := by simp [foldN, List.map_drop]
    rw [this, e, show n.length - z.length = p.length by omega, List.drop_left]
theorem underN_trans {a b c : Nm} (h1 : underN a b = true) (h2 : underN b c = true) : underN a c = true := by
  rw [underN_iff] at *
  obtain ⟨p, e1⟩ := h1; obtain ⟨q, e2⟩ := h2
  exact ⟨p ++ q, by rw [e1, e2, List.append_assoc]⟩
theorem underN_len {a b : Nm} (h : underN a b = true) : b.length ≤ a.length := by
  obtain ⟨p, e⟩ := (underN_iff _ _).1 h
  have := congrArg List.length e; simp [foldN] at this; omega

end Go.Proofs.YtckammgnmgkieaaGreat

/-
  Contracts of name.Len and name.Check.
-/
namespace Go.Proofs.YtckammgnmgkieaaGreat
set_option maxRecDepth 20000
open Go.RowKit Go.Shelf

def NmOK (xs : Nm) : Prop := xs.length ≤ 1048576 ∧ ∀ x ∈ xs, x.length ≤ 1048576
theorem NmOK.get {xs : Nm} (h : NmOK xs) (j : Nat) (hj : j < xs.length) : xs[j].length ≤ 1048576 := h.2 _ (List.getElem_mem hj)
theorem map_fin (xs : Nm) : (List.finRange xs.length).map (fun j => xs[j]) = xs := by
  apply List.ext_getElem (by simp)
  intro j h1 h2; simp
def sumN (xs : Nm) (pre : List (Fin xs.length)) : Nat := lenN (pre.map fun j => xs[j])
theorem sumN_le {xs : Nm} (h : NmOK xs) (pre : List (Fin xs.length)) : sumN xs pre ≤ 1 + pre.length * 1048577 := by
  unfold sumN
  induction pre with
  | nil => simp [lenN]
  | cons j r ih =>
    have := h.get j.val j.isLt
    simp only [List.map_cons, lenN_cons, List.length_cons, Fin.getElem_fin] at ih ⊢
    omega
theorem sumN_snoc (xs : Nm) (pre : List (Fin xs.length)) (j : Fin xs.length) : sumN xs (pre ++ [j]) = sumN xs pre + 1 + xs[j].length := by
  unfold sumN; rw [List.map_append]; exact lenN_snoc _ _

section
attribute [local go_sem] Oper.semAt_some
set_option maxRecDepth 100000 in
set_option maxHeartbeats 2000000 in
theorem name_Len (v : Value) (xs : Nm) (w : World) (hA : StrsAt w v xs) (hk : NmOK xs) :
    Calls Tryz.prog 198 #[v] w fun e w' => e = .returned (.int .i64 (lenN xs : Int)) ∧ Below w.heap.size w w' := by
  obtain ⟨a, c, rfl, hx⟩ := id hA
  refine (callsIn_wide (n := 5)).1 ?_
  refine callsIn_of_wp_marks Tryz.func198 rfl trivial ?_ rfl
  simp only [Tryz.ntmps198, List.size_toArray, List.length_cons, List.length_nil, Nat.reduceAdd, Nat.reduceSub, Array.replicate_succ, Array.replicate_zero, List.push_toArray, List.append_toArray, List.nil_append, List.cons_append]
  gi_wp2_with (refine ⟨trivial, ?_⟩; gi_at_call 103; refine (callsIn_wide.2 (name_labels _ _ _ _)).mono ?_; rintro e w' ⟨rfl, rfl⟩)
  obtain ⟨W0, hW0⟩ : ∃ W0, ((w.alloc (.cells #[.int .i64 1] 3)).alloc (.cells #[.slice a xs.length c] 24)) = W0 := ⟨_, rfl⟩
  have bI : Boxed W0 w.heap.size 3 (.int .i64 1) := by rw [← hW0]; exact (Boxed.new w _ _).alloc _
  have bV : Boxed W0 (w.heap.size + 1) 24 (.slice a xs.length c) := by
    have := Boxed.new (w.alloc (.cells #[.int .i64 1] 3)) 24 (.slice a xs.length c)
    rw [World.size_alloc] at this
    rw [← hW0]; exact this
  have hsz : W0.heap.size = w.heap.size + 2 := by rw [← hW0]; simp
  have hB0 : Below w.heap.size w W0 := by rw [← hW0]; exact ((Below.refl _ w).alloc (Nat.le_refl _) _).alloc (by simp) _
  have hrow := hA.row_lt
  rw [hW0]
  have HZ := Lib.hid hsz; clear hsz hW0
  refine wpIn_rangeFunc_ownG rfl (by omega) (gf := 143) (lb := #[.pointer (some ⟨w.heap.size + 1, 0, none⟩)]) rfl trivial (enters_of Tryz.func143 (by kernel_rfl) rfl)
    (labels_stops _ (by omega) (w.heap.size + 1) (.slice a xs.length c) xs (by have := hk.1; unfold maxLen; omega) W0 (by rw [HZ.out]; omega) bV.cell (hA.below hB0)) keepN_t (keepN_b (by rw [HZ.out]; omega) (fun g e => by have := hrow g e; rw [HZ.out]; omega)) (Below.refl _ _) (fun _ => rfl)
    (fun pre W => Boxed W w.heap.size 3 (.int .i64 (sumN xs pre : Int)) ∧ Below w.heap.size w W)
    (fun _ _ _ => False)
    (OwnFrom.and (Own.from (boxed_own _ _ _) _) (ownFrom_below (Nat.le_refl _) (by rw [HZ.out]; omega)))
    (fun _ _ _ _ _ hs _ _ => hs)
    ⟨bI, hB0⟩
    (fun j => { tmps := #[.slice a xs.length c, undef, .int .i64 0, .pointer (some ⟨w.heap.size, 0, none⟩), undef, .string ⟨xs[j].toArray⟩, .slice a xs.length c, .func (.func 143) #[] #[.pointer (some ⟨w.heap.size + 1, 0, none⟩)], .int .i64 (j.val : Int), .string ⟨xs[j].toArray⟩, undef, undef, undef, undef, undef, undef], defers := [] }) ?assign ?body ?done ?stop
  case assign =>
    intro l x W K hK
    unfold idxV strV
    gi_wp2
    exact hK
  case body =>
    rintro l pre x W ⟨hI, hB⟩ hlt
    have c0 := hI.cell; have f0 := hI.frozen
    have hsn := sumN_snoc xs pre x
    have hx1 : xs[x].length ≤ 1048576 := hk.get x.val x.isLt
    have hsum := sumN_le hk pre
    have hl1 := hk.1
    have hmz : (⟨xs[x].toArray⟩ : ByteArray).size = xs[x].length := mk_size _
    generalize (⟨xs[x].toArray⟩ : ByteArray) = sx at *
    rw [← hmz] at hsn hx1
    have HS := Lib.hid hsn; clear hsn hmz
    generalize hq : sumN xs pre = q at *
    have hq2 : q ≤ 1099512676353 := by omega
    clear hsum hq
    gi_wp2
    exact ⟨(KeepsOthers.setCell _ _ _).from _, KeepN.setCell _ _ (by omega) (fun g e => by have := hrow g e; omega), by rw [HS.out]; have := hI.set (.int .i64 ((q : Int) + (1 + (sx.size : Int)))); rw [show ((q + 1 + sx.size : Nat) : Int) = (q : Int) + (1 + (sx.size : Int)) by omega]; exact this, hB.setCell (p := ⟨w.heap.size, 0, none⟩) (Nat.le_refl _) _⟩
  case done =>
    rintro D ys W hD rfl ⟨hI, hB⟩ hK
    have c0 := hI.cell
    have hall : sumN xs (List.finRange xs.length) = lenN xs := by unfold sumN; rw [map_fin]
    rw [hall] at c0
    gi_wp2
    refine ⟨by simp, .inl ⟨_, _, rfl, run_takeDeferred hK, ?_⟩⟩
    exact ⟨_, results_tmp rfl _ _ _, rfl, hB.trans (belowK_b (w := w) (Nat.le_refl _) W D _ _ (by have := HZ.out; omega) hK rfl rfl)⟩
  case stop =>
    rintro D c pre W _ _ h _
    exact h.elim
end
end Go.Proofs.YtckammgnmgkieaaGreat

/-
  A result that lies in a box; facts on a round's end.
-/
namespace Go.Proofs.YtckammgnmgkieaaGreat
set_option maxRecDepth 20000
open Go.RowKit Go.Shelf

theorem results_cell {fn : Func} {t : Tmp} {T : TypeId} {k : IntKind} (h : fn.results = #[.cell t T]) (hT : Tryz.prog.underlying T = some (.int k)) (tmps : Array Value) (W : World) {b : Nat} {v : Value}
    (ht : tmps.getD t undef = .pointer (some ⟨b, 0, none⟩)) (hc : W.cell? ⟨b, 0, none⟩ = some v) : (results fn tmps).run Tryz.prog W = .ok v W := by
  have ht' : tmps[t]?.getD undef = .pointer (some ⟨b, 0, none⟩) := by rw [← ht]; simp
  have hu : ∀ w, Sem.run Tryz.prog (underlying T) w = .ok _ w := run_underlying hT
  simp [results, h, ht', loadVar, asAddr, go_sem, hu, hc, isAgg]
theorem results_cellB {fn : Func} {t : Tmp} {T : TypeId} (h : fn.results = #[.cell t T]) (hT : Tryz.prog.underlying T = some .bool) (tmps : Array Value) (W : World) {b : Nat} {v : Value}
    (ht : tmps.getD t undef = .pointer (some ⟨b, 0, none⟩)) (hc : W.cell? ⟨b, 0, none⟩ = some v) : (results fn tmps).run Tryz.prog W = .ok v W := by
  have ht' : tmps[t]?.getD undef = .pointer (some ⟨b, 0, none⟩) := by rw [← ht]; simp
  have hu : ∀ w, Sem.run Tryz.prog (underlying T) w = .ok _ w := run_underlying hT
  simp [results, h, ht', loadVar, asAddr, go_sem, hu, hc, isAgg]
theorem out_cell {W : World} {h D : Nat} {T : TypeId} {v : Value} (hb : Boxed W h T v) (hne : h ≠ D) (o : Obj) : (W.putObj D o).cell? ⟨h, 0, none⟩ = some v :=
  (hb.kept (grownBy_putObj' W D o) (by intro e; cases e; exact hne rfl)).cell
theorem heap_setOther {W : World} {h D : Nat} {o : Obj} (hK : W.heap[D]? = some o) (hne : D ≠ h) (u : Value) : (W.setCell ⟨h, 0, none⟩ u).heap[D]? = some o := by
  rw [Below.heap_setCell W ⟨h, 0, none⟩ u D hne]; exact hK
theorem heap_below {W W' : World} {D : Nat} {o : Obj} (hK : W.heap[D]? = some o) (hb : Below W.heap.size W W') : W'.heap[D]? = some o :=
  (hb.block D (Array.getElem?_eq_some_iff.1 hK).1).trans hK
theorem below_putO {n D : Nat} {w W : World} {o' : Obj} (h : Below n w W) (hD : n ≤ D) (hn : n ≤ w.heap.size) : Below n w (W.putObj D o') :=
  h.trans ((Below.refl n W).grown (grownBy_putObj' W D o') (Nat.le_trans hn h.size) (fun k e => by cases e; exact hD))
end Go.Proofs.YtckammgnmgkieaaGreat

/-
  Rows of the call's own whose elements have k cells each; blocks of cells. (XTokR's first half.)
-/
namespace Go.Proofs.YtckammgnmgkieaaGreat
set_option maxRecDepth 20000
open Go.RowKit Go.Shelf
set_option maxRecDepth 20000

def OwnK {α : Type} (k : Nat) (T : TypeId) (enc : α → List Value) (W : World) (base : Nat) (v : Value) (xs : List α) : Prop := W.ownsRow base T k v xs.length (xs.flatMap enc)
structure ElemK (k : Nat) (T S : TypeId) (bytes : Nat) : Prop where
  ht : Tryz.prog.underlying S = some (.slice T)
  info : ∃ i z, Tryz.prog.info? T = some i ∧ i.zero = some z ∧ i.size = k ∧ i.bytes = bytes ∧ z.cells.size = k

theorem kcell {W : World} {B : Nat} {cs : Array Value} {t : TypeId} (h : W.heap[B]? = some (.cells cs t)) (j : Nat) (v : Value) (hv : cs[j]? = some v) : W.cell? ⟨B, j, none⟩ = some v := by
  simp only [World.cell?, h]
  simpa using hv
theorem kset {W : World} {B : Nat} {cs : Array Value} {t : TypeId} (h : W.heap[B]? = some (.cells cs t)) (j : Nat) (v : Value) : (W.setCell ⟨B, j, none⟩ v).heap[B]? = some (.cells (cs.setIfInBounds j v) t) := by
  obtain ⟨hlt, hk⟩ := Array.getElem?_eq_some_iff.1 h
  show (W.heap.modify B _)[B]? = _
  rw [Array.getElem?_eq_getElem (by rw [Array.size_modify]; exact hlt), Array.getElem_modify_self, hk]
  rfl
theorem kgrown_set (W : World) (b j : Nat) (v : Value) : W.grownBy (W.setCell ⟨b, j, none⟩ v) (some b) :=
  ⟨rfl, rfl, rfl, (KeepsWalks.setCell W _ v).size, fun k _ hk => Below.heap_setCell _ _ _ k (fun e => hk (by rw [e]))⟩
theorem kfrozen {W : World} {B : Nat} {cs : Array Value} {t : TypeId} (h : W.heap[B]? = some (.cells cs t)) (j : Nat) : W.frozen? ⟨B, j, none⟩ = false := by simp [World.frozen?, h]
theorem kblock_lt {W : World} {B : Nat} {o : Obj} (h : W.heap[B]? = some o) : B < W.heap.size := (Array.getElem?_eq_some_iff.1 h).1
theorem knew (W : World) (o : Obj) : (W.alloc o).heap[W.heap.size]? = some o := by
  show (W.heap.push o)[W.heap.size]? = some o
  simp

theorem kg_refl (w : World) (r : Option Nat) : w.grownBy w r := ⟨rfl, rfl, rfl, Nat.le_refl _, fun _ _ _ => rfl⟩
theorem kg_trans {a b c : World} {r : Option Nat} (h : a.grownBy b r) (g : b.grownBy c r) : a.grownBy c r :=
  ⟨g.os.trans h.os, g.tape.trans h.tape, g.output.trans h.output, Nat.le_trans h.size g.size, fun k hk hne => (g.block k (Nat.lt_of_lt_of_le hk h.size) hne).trans (h.block k hk hne)⟩
theorem kg_drew (w : World) (r : Option Nat) : w.grownBy w.drew r := ⟨rfl, rfl, rfl, Nat.le_refl _, fun _ _ _ => rfl⟩
section
variable {α : Type} {k : Nat} {T S : TypeId} {enc : α → List Value}
theorem OwnK.alloc {W : World} {base : Nat} {v : Value} {xs : List α} (h : OwnK k T enc W base v xs) (o : Obj) : OwnK k T enc (W.alloc o) base v xs := World.ownsRow.alloc h o
theorem OwnK.nil (W : World) (base : Nat) : OwnK k T enc W base (.slice none 0 0) [] := World.ownsRow_nil _ _ _ _
theorem OwnK.base_le {W : World} {base : Nat} {v : Value} {xs : List α} (h : OwnK k T enc W base v xs) : ∀ b, v.ownBlock = some b → base ≤ b := by
  intro b hk
  rcases h.2 with ⟨rfl, _⟩ | ⟨g, cap, cur, rfl, hb, _⟩
  · simp [Value.ownBlock] at hk
  · obtain rfl : g = b := by simpa [Value.ownBlock] using hk
    exact hb
theorem OwnK.shape {W : World} {base : Nat} {v : Value} {xs : List α} (h : OwnK k T enc W base v xs) : ∃ a c, v = .slice a xs.length c := by
  rcases h.2 with ⟨rfl, h0⟩ | ⟨g, cap, cur, rfl, _⟩
  · exact ⟨none, 0, by rw [h0]⟩
  · exact ⟨_, _, rfl⟩
theorem OwnK.kept {W W' : World} {row : Option Nat} {base : Nat} {v : Value} {xs : List α} (h : OwnK k T enc W base v xs) (hg : W.grownBy W' row) (hne : v.ownBlock = none ∨ v.ownBlock ≠ row) : OwnK k T enc W' base v xs := World.ownsRow.kept h hg hne
theorem OwnK.below {W W' : World} {base : Nat} {v : Value} {xs : List α} (h : OwnK k T enc W base v xs) (hb : Below W.heap.size W W') : OwnK k T enc W' base v xs :=
  h.kept (row := none) ⟨hb.os, hb.tape, hb.output, hb.size, fun k hk _ => hb.block k hk⟩ (by cases v.ownBlock <;> simp)
theorem OwnK.lt {W : World} {base : Nat} {v : Value} {xs : List α} (h : OwnK k T enc W base v xs) : ∀ b, v.ownBlock = some b → b < W.heap.size := by
  intro b hk
  rcases h.2 with ⟨rfl, _⟩ | ⟨g, cap, cur, rfl, hb, hg, _⟩
  · simp [Value.ownBlock] at hk
  · obtain rfl : g = b := by simpa [Value.ownBlock] using hk
    exact (Array.getElem?_eq_some_iff.1 hg).1
theorem OwnK.weaken {W : World} {base b2 : Nat} {v : Value} {xs : List α} (h : OwnK k T enc W base v xs) (hb : b2 ≤ base) : OwnK k T enc W b2 v xs := by
  refine ⟨h.1, ?_⟩
  rcases h.2 with hn | ⟨g, cap, cur, e, hg, rest⟩
  · exact .inl hn
  · exact .inr ⟨g, cap, cur, e, by omega, rest⟩
theorem OwnK.ne_block {W : World} {base : Nat} {v : Value} {xs : List α} (h : OwnK k T enc W base v xs) {B : Nat} {cs : Array Value} {t : TypeId} (hB : W.heap[B]? = some (.cells cs t)) (ht : t ≠ T) : some B ≠ v.ownBlock := by
  rcases h.2 with ⟨rfl, _⟩ | ⟨g, cap, cur, rfl, _, hg, _⟩
  · simp [Value.ownBlock]
  · intro e
    obtain rfl : B = g := by simpa [Value.ownBlock] using e
    rw [hg] at hB
    cases hB
    exact ht rfl
theorem OwnK.apart {β : Type} {k' : Nat} {T' : TypeId} {enc' : β → List Value} {W : World} {base base' : Nat} {v v' : Value} {xs : List α} {ys : List β} (h : OwnK k T enc W base v xs) (h' : OwnK k' T' enc' W base' v' ys) (hT : T ≠ T') : v.ownBlock = none ∨ v.ownBlock ≠ v'.ownBlock := by
  rcases h.2 with ⟨rfl, _⟩ | ⟨g, cap, cur, rfl, _, hg, _⟩
  · left; rfl
  · right
    intro e
    exact h'.ne_block hg hT e
theorem OwnK.kept2 {β : Type} {k' : Nat} {T' : TypeId} {enc' : β → List Value} {W W' : World} {base base' : Nat} {v v' : Value} {xs : List α} {ys : List β} (h : OwnK k T enc W base v xs) (h' : OwnK k' T' enc' W base' v' ys) (hT : T ≠ T') (hg : W.grownBy W' v'.ownBlock) : OwnK k T enc W' base v xs :=
  h.kept hg (h.apart h' hT)
theorem OwnK.keptB {W : World} {base : Nat} {v : Value} {xs : List α} (h : OwnK k T enc W base v xs) {B : Nat} {cs : Array Value} {t : TypeId} (hB : W.heap[B]? = some (.cells cs t)) (ht : t ≠ T) (j : Nat) (u : Value) : OwnK k T enc (W.setCell ⟨B, j, none⟩ u) base v xs :=
  h.kept (kgrown_set W B j u) (.inr (fun e => h.ne_block hB ht e.symm))
theorem OwnK.cut {W : World} {base : Nat} {a : Option Addr} {n c : Nat} {xs : List α} (h : OwnK k T enc W base (.slice a n c) xs) (m : Nat) (hm : m ≤ xs.length) (henc : ∀ x, (enc x).length = k) : OwnK k T enc W base (.slice a m c) (xs.take m) := by
  have hlen : ∀ l : List α, (l.flatMap enc).length = l.length * k := by
    intro l; induction l with
    | nil => simp
    | cons x l ih => simp [ih, henc, Nat.add_mul, Nat.add_comm]
  have htake : ∀ (l : List α) (m : Nat), (l.take m).flatMap enc = (l.flatMap enc).take (m * k) := by
    intro l; induction l with
    | nil => intro m; simp
    | cons x l ih =>
      intro m
      cases m with
      | zero => simp
      | succ m =>
        rw [List.take_succ_cons, List.flatMap_cons, List.flatMap_cons, ih, Nat.succ_mul, Nat.add_comm (m * k) k, List.take_append, List.take_of_length_le (l := enc x) (by rw [henc]; omega), henc, Nat.add_sub_cancel_left]
  unfold OwnK World.ownsRow at h ⊢
  have hl : (xs.take m).length = m := by rw [List.length_take]; omega
  rw [hl]
  refine ⟨by rw [hlen, hl], ?_⟩
  rcases h.2 with ⟨e, h0⟩ | ⟨g, cap, cur, e, hb, hg, hc, hmx, hsz, htk⟩
  · cases e
    left
    exact ⟨by congr 1; omega, by omega⟩
  · cases e
    right
    refine ⟨g, c, cur, rfl, hb, hg, by omega, hmx, hsz, ?_⟩
    rw [htake, ← htk, List.take_take]
    congr 1
    exact (Nat.min_eq_left (Nat.mul_le_mul_right k hm)).symm

end

end Go.Proofs.YtckammgnmgkieaaGreat

