/-
  Records: plain data, their order, rows in their own order.
-/
import Derived.Test.YtfcdajldpnomfaaMQ42
import Derived.Test.YtfcdajldpnomfaaMQ33
import Derived.Test.YtfcdajldpnomfaaMQ36
import Derived.Lib.ItoaNum
import Derived.Lib.ItoaMem
import Derived.Test.YtfcdajldpnomfaaMQ21
import Derived.Test.YtfcdajldpnomfaaMQ43
import Derived.Shelf.Small.Bits
import Derived.Shelf.Small.Wraps
import Derived.Shelf.Strconv.Itoa0
import Derived.Shelf.Sort.Plain
import Derived.Ground.Names2Prog
import Derived.Shelf.Slices.Clone
import Derived.Shelf.Slices.CompactI
import Derived.Shelf.Slices.Cells
import Derived.Shelf.Slices.In.SortNone
import Derived.Test.YtfcdajldpnomfaaProg
import Derived.Lib.ConvBytes
import Derived.Lib.IndexBytes
namespace Go.Proofs.Ytfcdajldpnomfaa
set_option maxRecDepth 20000
open Go.RowKit Go.Shelf
open Stb (COrd)

theorem cord_orI {α : Type} {f g : α → α → Int} (hf : COrd f) (hg : COrd g) : COrd (fun a b => orI (f a b) (g a b)) := by
  refine ⟨fun x y => orI_swap (hf.anti x y) (hg.anti x y), fun x y z h1 h2 => ?_⟩
  have a1 := hf.anti x y; have a2 := hf.anti y z; have a3 := hf.anti x z
  have t1 := hf.trans x y z; have t2 := hf.trans y z x; have t3 := hf.trans z x y
  have u1 := hg.trans x y z
  unfold orI at *
  by_cases c1 : f x y = 0 <;> by_cases c2 : f y z = 0 <;> by_cases c3 : f x z = 0 <;> simp only [c1, c2, c3, if_true, if_false] at h1 h2 ⊢ <;> first | omega | exact u1 h1 h2
theorem cord_on {α β : Type} {f : β → β → Int} (hf : COrd f) (p : α → β) : COrd (fun a b => f (p a) (p b)) := ⟨fun _ _ => hf.anti _ _, fun _ _ _ => hf.trans _ _ _⟩
theorem cord_cmpI : COrd cmpI := ⟨cmpI_swap, fun a b c => by
  rcases cmpI_cases a b with ⟨h, h2⟩ | ⟨h, h2⟩ | ⟨h, h2⟩ <;> rcases cmpI_cases b c with ⟨g, g2⟩ | ⟨g, g2⟩ | ⟨g, g2⟩ <;> rcases cmpI_cases a c with ⟨k, k2⟩ | ⟨k, k2⟩ | ⟨k, k2⟩ <;> omega⟩
theorem cmpL_trans {α : Type} {f : α → α → Int} (hf : COrd f) : ∀ a b c : List α, cmpL f a b ≤ 0 → cmpL f b c ≤ 0 → cmpL f a c ≤ 0
  | [], [], _, _, h2 => h2
  | [], _ :: _, [], _, _ => by simp [cmpL]
  | [], _ :: _, _ :: _, _, _ => by simp [cmpL]
  | _ :: _, [], _, h1, _ => by simp [cmpL] at h1
  | _ :: _, _ :: _, [], _, h2 => by simp [cmpL] at h2
  | x :: r, y :: s, z :: t, h1, h2 => by
    have ih := cmpL_trans hf r s t
    have a1 := hf.anti x y; have a2 := hf.anti y z; have a3 := hf.anti x z
    have t1 := hf.trans x y z; have t2 := hf.trans y z x; have t3 := hf.trans z x y
    simp only [cmpL] at *
    by_cases c1 : f x y = 0 <;> by_cases c2 : f y z = 0 <;> by_cases c3 : f x z = 0 <;> simp only [c1, c2, c3, if_true, if_false] at h1 h2 ⊢ <;> first | omega | exact ih h1 h2
theorem cord_cmpL {α : Type} {f : α → α → Int} (hf : COrd f) : COrd (cmpL f) := ⟨fun x y => cmpL_swap hf.anti x y, cmpL_trans hf⟩
theorem cord_compareN : COrd compareN := ⟨compareN_swap, compareN_trans⟩
theorem cord_orderM : COrd orderM := by
  have e : orderM = cmpL cmpB := by funext a b; exact orderM_cmpL a b
  rw [e]
  exact cord_cmpL (cord_on cord_cmpI (fun b : UInt8 => (b.toNat : Int)))
theorem cord_compareD : COrd compareD :=
  cord_orI (cord_on cord_cmpI Dat.ty) (cord_orI (cord_on (cord_cmpL cord_compareN) Dat.names) (cord_orI (cord_on (cord_cmpL (cord_on cord_cmpI (fun n : Nat => (n : Int)))) Dat.nums) (cord_orI (cord_on (cord_cmpL cord_orderM) Dat.texts) (cord_on (cord_cmpL (cord_on cord_cmpI (fun b : UInt8 => (b.toNat : Int)))) Dat.raw))))

structure Rc where
  owner : Nm
  ttl : Nat
  data : Dat
def compareR (a b : Rc) : Int := orI (compareN a.owner b.owner) (compareD a.data b.data)
def sameR (a b : Rc) : Bool := compareR a b == 0
theorem cord_compareR : COrd compareR := cord_orI (cord_on cord_compareN Rc.owner) (cord_on cord_compareD Rc.data)
theorem compareR_range (a b : Rc) : compareR a b = -1 ∨ compareR a b = 0 ∨ compareR a b = 1 := orI_range (compareN_range _ _) (compareD_range _ _)
theorem compareR_self (a : Rc) : compareR a a = 0 := by have := cord_compareR.anti a a; omega

/-! A row in its own order, as the document makes it. -/
def minT (a b : Nat) : Nat := if b < a then b else a
def insR : List Rc → Rc → List Rc
  | [], x => [x]
  | y :: r, x => if compareR y x < 0 then y :: insR r x else if compareR y x = 0 then ⟨y.owner, minT y.ttl x.ttl, y.data⟩ :: r else x :: y :: r
def canonM (l : List Rc) : List Rc := l.foldl insR []

/-! .. and as the program makes it: sorted, run by run. -/
def insS : List Rc → Rc → List Rc
  | [], x => [x]
  | y :: r, x => if compareR y x ≤ 0 then y :: insS r x else x :: y :: r
def sortM (l : List Rc) : List Rc := l.foldl insS []
def leastM (t : Nat) (l : List Rc) : Nat := l.foldl (fun m x => minT m x.ttl) t
def grpM : Nat → List Rc → List Rc
  | 0, _ => []
  | _, [] => []
  | n + 1, y :: r => ⟨y.owner, leastM y.ttl (r.takeWhile (sameR y)), y.data⟩ :: grpM n (r.dropWhile (sameR y))
theorem grpM_more : ∀ (n m : Nat) (l : List Rc), l.length ≤ n → l.length ≤ m → grpM n l = grpM m l
  | 0, 0, l, _, _ => rfl
  | 0, m + 1, l, h, _ => by
    have : l = [] := List.eq_nil_of_length_eq_zero (by omega)
    subst this; rfl
  | n + 1, 0, l, _, h => by
    have : l = [] := List.eq_nil_of_length_eq_zero (by omega)
    subst this; rfl
  | n + 1, m + 1, [], _, _ => rfl
  | n + 1, m + 1, y :: r, h1, h2 => by
    have hl : (r.dropWhile (sameR y)).length ≤ r.length := (List.dropWhile_sublist _).length_le
    simp only [List.length_cons] at h1 h2
    simp only [grpM]
    rw [grpM_more n m _ (by omega) (by omega)]
def grp (l : List Rc) : List Rc := grpM l.length l
theorem grp_cons (y : Rc) (r : List Rc) : grp (y :: r) = ⟨y.owner, leastM y.ttl (r.takeWhile (sameR y)), y.data⟩ :: grp (r.dropWhile (sameR y)) := by
  have hl : (r.dropWhile (sameR y)).length ≤ r.length := (List.dropWhile_sublist _).length_le
  unfold grp
  simp only [List.length_cons, grpM]
  rw [grpM_more r.length _ _ hl (Nat.le_refl _)]
theorem grp_nil : grp [] = [] := rfl

def RisesR (l : List Rc) : Prop := l.Pairwise fun a b => compareR a b ≤ 0

theorem insS_eq {y x : Rc} (hyx : compareR y x = 0) : ∀ (E R : List Rc), (∀ e ∈ E, compareR y e = 0) → (∀ z ∈ R.head?, 0 < compareR z y) → insS (E ++ R) x = E ++ x :: R
  | [], R, _, h => by
    cases R with
    | nil => rfl
    | cons z R =>
      have hz : 0 < compareR z y := h z (by simp)
      have t := cord_compareR.trans z x y
      have a := cord_compareR.anti x y
      have : ¬ compareR z x ≤ 0 := by intro hh; have := t hh (by have := cord_compareR.anti y x; omega); omega
      simp [insS, this]
  | e :: E, R, h1, h2 => by
    have he : compareR y e = 0 := h1 e (by simp)
    have t := cord_compareR.trans e y x
    have a := cord_compareR.anti y e
    have : compareR e x ≤ 0 := t (by omega) (by omega)
    simp only [List.cons_append, insS, if_pos this]
    rw [insS_eq hyx E R (fun e h => h1 e (by simp [h])) h2]
theorem insS_lt {y x : Rc} (hyx : compareR y x < 0) : ∀ (E R : List Rc), (∀ e ∈ E, compareR y e = 0) → insS (E ++ R) x = E ++ insS R x
  | [], R, _ => rfl
  | e :: E, R, h1 => by
    have he : compareR y e = 0 := h1 e (by simp)
    have t := cord_compareR.trans e y x
    have a := cord_compareR.anti y e
    have : compareR e x ≤ 0 := t (by omega) (by omega)
    simp only [List.cons_append, insS, if_pos this]
    rw [insS_lt hyx E R (fun e h => h1 e (by simp [h]))]
theorem leastM_snoc (t : Nat) (E : List Rc) (x : Rc) : leastM t (E ++ [x]) = minT (leastM t E) x.ttl := by simp [leastM, List.foldl_append]
theorem takeWhile_app {p : Rc → Bool} : ∀ (E R : List Rc), (∀ e ∈ E, p e = true) → (∀ z ∈ R.head?, p z = false) → (E ++ R).takeWhile p = E ∧ (E ++ R).dropWhile p = R
  | [], [], _, _ => ⟨rfl, rfl⟩
  | [], z :: R, _, h => by
    have : p z = false := h z (by simp)
    simp [this]
  | e :: E, R, h1, h2 => by
    have he := h1 e (by simp)
    have ih := takeWhile_app E R (fun e h => h1 e (by simp [h])) h2
    simp only [List.cons_append, List.takeWhile_cons, List.dropWhile_cons, he, if_true]
    exact ⟨by rw [ih.1], ih.2⟩
theorem insS_mem {x : Rc} : ∀ (l : List Rc) (z : Rc), z ∈ insS l x → z = x ∨ z ∈ l
  | [], z, h => by simp [insS] at h; exact .inl h
  | y :: r, z, h => by
    simp only [insS] at h
    split at h
    · rcases List.mem_cons.1 h with rfl | h
      · simp
      · rcases insS_mem r z h with h | h <;> simp [h]
    · simp at h; rcases h with h | h | h <;> simp [h]
theorem insS_head {x : Rc} (l : List Rc) (z : Rc) (h : z ∈ (insS l x).head?) : z = x ∨ z ∈ l.head? := by
  cases l with
  | nil => simp [insS] at h; exact .inl h.symm
  | cons y r =>
    simp only [insS] at h
    split at h
    · right; simpa using h
    · left; simp at h; exact h.symm

theorem dropWhile_head (p : Rc → Bool) : ∀ (l : List Rc) (z : Rc), z ∈ (l.dropWhile p).head? → p z = false
  | [], z, h => by simp at h
  | y :: r, z, h => by
    rw [List.dropWhile_cons] at h
    split at h
    · exact dropWhile_head p r z h
    · rename_i hy
      simp at h; subst h; simpa using hy

/-- One record more, in its place. -/
theorem grp_insS (x : Rc) : ∀ (n : Nat) (l : List Rc), l.length ≤ n → RisesR l → grp (insS l x) = insR (grp l) x
  | _, [], _, _ => by simp [insS, grp_cons, grp_nil, insR, leastM]
  | 0, y :: r, h, _ => by simp at h
  | n + 1, y :: r, h, hR => by
    have hl : (r.dropWhile (sameR y)).length ≤ r.length := (List.dropWhile_sublist _).length_le
    have hp := List.takeWhile_append_dropWhile (p := sameR y) (l := r)
    have hE : ∀ e ∈ r.takeWhile (sameR y), compareR y e = 0 := fun e he => by
      have hh : ∀ (l : List Rc), e ∈ l.takeWhile (sameR y) → sameR y e = true := by
        intro l
        induction l with
        | nil => intro h; simp at h
        | cons a l ih =>
          intro h
          rw [List.takeWhile_cons] at h
          split at h
          · rename_i ha
            rcases List.mem_cons.1 h with rfl | h
            · exact ha
            · exact ih h
          · simp at h
      have := hh r he
      simpa [sameR] using this
    have hH : ∀ z ∈ (r.dropWhile (sameR y)).head?, 0 < compareR z y := fun z hz => by
      have h1 := dropWhile_head (sameR y) r z hz
      have h2 : z ∈ r := (List.dropWhile_sublist _).mem (List.mem_of_mem_head? hz)
      have h3 : compareR y z ≤ 0 := (List.pairwise_cons.1 hR).1 z h2
      have := cord_compareR.anti y z
      simp [sameR] at h1
      omega
    have hRR : RisesR (r.dropWhile (sameR y)) := List.Pairwise.sublist (List.dropWhile_sublist _) (List.pairwise_cons.1 hR).2
    simp only [List.length_cons] at h
    generalize hEE : r.takeWhile (sameR y) = E at *
    generalize hDD : r.dropWhile (sameR y) = R at *
    have hEs : ∀ e ∈ E, sameR y e = true := fun e he => by simp [sameR, hE e he]
    rw [grp_cons, hEE, hDD]
    have hcy : ∀ t, compareR ⟨y.owner, t, y.data⟩ x = compareR y x := fun t => rfl
    simp only [insR, hcy]
    by_cases c : compareR y x < 0
    · rw [if_pos c]
      have e1 : insS (y :: r) x = y :: (E ++ insS R x) := by
        simp only [insS, if_pos (show compareR y x ≤ 0 by omega)]
        rw [← hp, insS_lt c E R hE]
      rw [e1, grp_cons]
      have hh : ∀ z ∈ (insS R x).head?, sameR y z = false := fun z hz => by
        rcases insS_head R z hz with rfl | hz
        · simp [sameR]; omega
        · have := hH z hz
          have := cord_compareR.anti y z
          simp [sameR]; omega
      obtain ⟨t1, t2⟩ := takeWhile_app E (insS R x) hEs hh
      rw [t1, t2, grp_insS x n R (by omega) hRR]
    · rw [if_neg c]
      by_cases c0 : compareR y x = 0
      · rw [if_pos c0]
        have e1 : insS (y :: r) x = y :: (E ++ [x] ++ R) := by
          simp only [insS, if_pos (show compareR y x ≤ 0 by omega)]
          rw [← hp, insS_eq c0 E R hE hH]; simp
        rw [e1, grp_cons]
        have hh : ∀ z ∈ R.head?, sameR y z = false := fun z hz => by
          have := hH z hz
          have := cord_compareR.anti y z
          simp [sameR]; omega
        obtain ⟨t1, t2⟩ := takeWhile_app (E ++ [x]) R (fun e he => by
          rcases List.mem_append.1 he with he | he
          · exact hEs e he
          · simp at he; subst he; simp [sameR, c0]) hh
        rw [t1, t2, leastM_snoc]
      · rw [if_neg c0]
        have e1 : insS (y :: r) x = x :: y :: r := by simp only [insS, if_neg (show ¬ compareR y x ≤ 0 by omega)]
        rw [e1, grp_cons]
        have hne : sameR x y = false := by
          have := cord_compareR.anti x y
          simp [sameR]; omega
        simp only [List.takeWhile_cons, List.dropWhile_cons, hne, Bool.false_eq_true, if_false]
        rw [grp_cons, hEE, hDD]
        rfl

theorem insS_rises {x : Rc} : ∀ (l : List Rc), RisesR l → RisesR (insS l x)
  | [], _ => by simp [insS, RisesR]
  | y :: r, h => by
    have h1 := List.pairwise_cons.1 h
    simp only [insS]
    split
    · rename_i c
      refine List.pairwise_cons.2 ⟨fun z hz => ?_, insS_rises r h1.2⟩
      rcases insS_mem r z hz with rfl | hz
      · exact c
      · exact h1.1 z hz
    · rename_i c
      have hxy : compareR x y ≤ 0 := by have := cord_compareR.anti x y; omega
      refine List.pairwise_cons.2 ⟨fun z hz => ?_, h⟩
      rcases List.mem_cons.1 hz with rfl | hz
      · exact hxy
      · exact cord_compareR.trans _ _ _ hxy (h1.1 z hz)
theorem sortM_rises (l : List Rc) : RisesR (sortM l) := by
  unfold sortM
  suffices ∀ (l a : List Rc), RisesR a → RisesR (l.foldl insS a) from this l [] List.Pairwise.nil
  intro l
  induction l with
  | nil => intro a h; exact h
  | cons x l ih => intro a h; exact ih _ (insS_rises a h)
/-- Sorted, run by run: the document's row. -/
theorem grp_sortM (l : List Rc) : grp (sortM l) = canonM l := by
  unfold sortM canonM
  suffices ∀ (l a b : List Rc), RisesR a → grp a = b → grp (l.foldl insS a) = l.foldl insR b from this l [] [] List.Pairwise.nil rfl
  intro l
  induction l with
  | nil => intro a b _ h; exact h
  | cons x l ih =>
    intro a b h hb
    exact ih _ _ (insS_rises a h) (by rw [grp_insS x a.length a (Nat.le_refl _) h, hb])
end Go.Proofs.Ytfcdajldpnomfaa

/-
  The document's data: small helpers (apart, counts).
-/
namespace Go.Proofs.Ytfcdajldpnomfaa
set_option maxRecDepth 20000
open Go.RowKit Go.Shelf

set_option maxHeartbeats 2000000 in
theorem ref_apart (a b : Int) (w : World) : Calls Try.prog 58 #[.int .i64 a, .int .i64 b] w fun e w' => e = .returned (.int .i64 (cmpI a b)) ∧ w' = w := by
  unfold cmpI
  by_cases h1 : a < b
  · rw [if_pos h1]
    go_enter Try.func58, Try.ntmps58
    go_wp2
    go_ret
    exact ⟨rfl, rfl⟩
  · rw [if_neg h1]
    by_cases h2 : b < a
    · rw [if_pos h2]
      go_enter Try.func58, Try.ntmps58
      go_wp2
      go_ret
      exact ⟨rfl, rfl⟩
    · rw [if_neg h2]
      go_enter Try.func58, Try.ntmps58
      go_wp2
      go_ret
      exact ⟨rfl, rfl⟩

/-- How many names, numbers, octets a type has. -/
def countsM (t : Int) : Int × Int × Int :=
  if t = 1 then (0, 0, 4) else if t = 28 then (0, 0, 16) else if t = 2 ∨ t = 5 ∨ t = 12 ∨ t = 39 then (1, 0, 0) else if t = 15 then (1, 1, 0) else if t = 6 then (2, 5, 0) else if t = 16 then (0, 0, 0) else (0, 0, -1)
def CountsPost (t : Int) (w : World) (e : Ending) (w' : World) : Prop := e = .returned (.tuple #[.int .i64 (countsM t).1, .int .i64 (countsM t).2.1, .int .i64 (countsM t).2.2]) ∧ w' = w

end Go.Proofs.Ytfcdajldpnomfaa

/-
  Plain facts for types and numbers: digits, decimals read and written, letters great and small, the names of types.
-/
namespace Go.Proofs.Ytfcdajldpnomfaa
set_option maxRecDepth 20000
open Go.RowKit Go.Shelf


/-! ### decimals -/
def valL (l : List UInt8) : Nat := l.foldl (fun n c => 10 * n + (c.toNat - 48)) 0
theorem valL_snoc (l : List UInt8) (c : UInt8) : valL (l ++ [c]) = 10 * valL l + (c.toNat - 48) := by simp [valL]
theorem foldl_ge (l : List UInt8) : ∀ n, n ≤ l.foldl (fun n c => 10 * n + (c.toNat - 48)) n := by
  induction l with
  | nil => intro n; simp
  | cons c l ih => intro n; simp only [List.foldl_cons]; exact Nat.le_trans (by omega) (ih _)
theorem valL_prefix {p l : List UInt8} (h : p <+: l) : valL p ≤ valL l := by
  obtain ⟨r, rfl⟩ := h; unfold valL; rw [List.foldl_append]; exact foldl_ge _ _
def allDigits (l : List UInt8) : Bool := l.all digitU
def formN (l : List UInt8) : Bool := (!l.isEmpty && allDigits l) && !(decide (1 < l.length) && decide (l.head? = some 48))
/-- A decimal without leading noughts, at most so much. -/
def numM (l : List UInt8) (most : Nat) : Nat × Int := if formN l then (if valL l ≤ most then (valL l, 0) else (0, 7)) else (0, 2)

theorem digitU_iff (c : UInt8) : digitU c = true ↔ 48 ≤ c.toNat ∧ c.toNat ≤ 57 := by unfold digitU; simp
theorem digitU_of (d : Nat) (h : d < 10) : digitU (UInt8.ofNat (48 + d)) = true := by
  rw [digitU_iff]; have : (UInt8.ofNat (48 + d)).toNat = 48 + d := by simp; omega
  omega
theorem ofNat_val (d : Nat) (h : d < 10) : (UInt8.ofNat (48 + d)).toNat - 48 = d := by
  have : (UInt8.ofNat (48 + d)).toNat = 48 + d := by simp; omega
  omega
theorem dec_facts : ∀ (u : Nat), allDigits (Lib.decDigits u) = true ∧ valL (Lib.decDigits u) = u ∧ Lib.decDigits u ≠ [] ∧ (1 < (Lib.decDigits u).length → (Lib.decDigits u).head? ≠ some 48) ∧ (0 < u → (Lib.decDigits u).head? ≠ some 48) := by
  intro u
  induction u using Nat.strongRecOn with
  | ind u ih =>
    rw [Lib.decDigits]
    by_cases h : u < 10
    · rw [dif_pos h]
      refine ⟨by simp only [allDigits, List.all_cons, List.all_nil, Bool.and_true]; exact digitU_of u h, by simp only [valL, List.foldl_cons, List.foldl_nil]; rw [ofNat_val u h]; omega, by simp, by simp, ?_⟩
      intro h0 e
      simp only [List.head?_cons, Option.some.injEq] at e
      have := congrArg UInt8.toNat e
      simp at this; omega
    · rw [dif_neg h]
      obtain ⟨h1, h2, h3, h4, h5⟩ := ih (u / 10) (by omega)
      have hm : u % 10 < 10 := Nat.mod_lt _ (by omega)
      have hh : (Lib.decDigits (u / 10) ++ [UInt8.ofNat (48 + u % 10)]).head? = (Lib.decDigits (u / 10)).head? := by
        cases hd : Lib.decDigits (u / 10) with
        | nil => exact absurd hd h3
        | cons a b => rfl
      refine ⟨?_, ?_, by simp, fun _ => by rw [hh]; exact h5 (by omega), fun _ => by rw [hh]; exact h5 (by omega)⟩
      · unfold allDigits at *; rw [List.all_append, h1]; simp only [List.all_cons, List.all_nil, Bool.and_true, Bool.true_and]; exact digitU_of _ hm
      · rw [valL_snoc, h2, ofNat_val _ hm]; omega
theorem numM_dec (u most : Nat) (h : u ≤ most) : numM (Lib.decDigits u) most = (u, 0) := by
  obtain ⟨h1, h2, h3, h4, _⟩ := dec_facts u
  have hf : formN (Lib.decDigits u) = true := by
    unfold formN
    rw [h1]
    have : (Lib.decDigits u).isEmpty = false := by cases hd : Lib.decDigits u with
      | nil => exact absurd hd h3
      | cons a b => rfl
    rw [this]
    by_cases hl : 1 < (Lib.decDigits u).length
    · have := h4 hl; simp [this]
    · simp [hl]
  unfold numM; rw [hf, if_pos rfl, h2, if_pos h]

/-! ### letters -/
def greatU (c : UInt8) : UInt8 := if 97 ≤ c.toNat ∧ c.toNat ≤ 122 then c - 32 else c
def greatL (l : List UInt8) : List UInt8 := l.map greatU
theorem greatU_hi (c : UInt8) (h1 : 97 ≤ (c.toNat : Int)) (h2 : (c.toNat : Int) ≤ 122) : (c.toNat : Int) - 97 + 65 = ((greatU c).toNat : Int) := by
  unfold greatU; rw [if_pos ⟨by omega, by omega⟩, UInt8.toNat_sub]; simp; omega
theorem greatU_nat (c : UInt8) : (greatU c).toNat = if 97 ≤ c.toNat ∧ c.toNat ≤ 122 then c.toNat - 32 else c.toNat := by
  unfold greatU
  by_cases h : 97 ≤ c.toNat ∧ c.toNat ≤ 122
  · rw [if_pos h, if_pos h, UInt8.toNat_sub]; simp; omega
  · rw [if_neg h, if_neg h]
theorem smallU_nat (c : UInt8) : (smallU c).toNat = if 65 ≤ c.toNat ∧ c.toNat ≤ 90 then c.toNat + 32 else c.toNat := by
  unfold smallU
  by_cases h : 65 ≤ c.toNat ∧ c.toNat ≤ 90
  · rw [if_pos h, if_pos h, UInt8.toNat_add]; simp; omega
  · rw [if_neg h, if_neg h]
theorem great_small (c : UInt8) : greatU (smallU c) = greatU c := by
  apply UInt8.toNat.inj; rw [greatU_nat, greatU_nat, smallU_nat]; repeat' split
  all_goals omega
theorem small_great (c : UInt8) : smallU (greatU c) = smallU c := by
  apply UInt8.toNat.inj; rw [smallU_nat, smallU_nat, greatU_nat]; repeat' split
  all_goals omega
theorem greatL_fold (l : List UInt8) : greatL (foldL l) = greatL l := by unfold greatL foldL; rw [List.map_map]; exact List.map_congr_left fun c _ => great_small c
theorem foldL_great (l : List UInt8) : foldL (greatL l) = foldL l := by unfold greatL foldL; rw [List.map_map]; exact List.map_congr_left fun c _ => small_great c
theorem digit_great (c : UInt8) : digitU (greatU c) = digitU c ∧ (digitU c = true → greatU c = c) := by
  refine ⟨?_, ?_⟩
  · rw [Bool.eq_iff_iff, digitU_iff, digitU_iff, greatU_nat]; split <;> omega
  · intro h; rw [digitU_iff] at h; unfold greatU; rw [if_neg (by omega)]
theorem digit_small (c : UInt8) : digitU (smallU c) = digitU c ∧ (digitU c = true → smallU c = c) := by
  refine ⟨?_, ?_⟩
  · rw [Bool.eq_iff_iff, digitU_iff, digitU_iff, smallU_nat]; split <;> omega
  · intro h; rw [digitU_iff] at h; unfold smallU; rw [if_neg (by omega)]
theorem numM_map (f : UInt8 → UInt8) (hf : ∀ c, digitU (f c) = digitU c ∧ (digitU c = true → f c = c)) (l : List UInt8) (most : Nat) : numM (l.map f) most = numM l most := by
  by_cases h : allDigits l = true
  · have : l.map f = l := by
      conv => rhs; rw [← List.map_id l]
      apply List.map_congr_left
      intro c hc; exact (hf c).2 (List.all_eq_true.1 h c hc)
    rw [this]
  · have h1 : formN l = false := by unfold formN; simp only [Bool.not_eq_true] at h; rw [h]; simp
    have h2 : allDigits (l.map f) = false := by
      simp only [Bool.not_eq_true] at h
      rw [← h]; unfold allDigits; rw [List.all_map]; congr 1; funext c; exact (hf c).1
    have h3 : formN (l.map f) = false := by unfold formN; rw [h2]; simp
    unfold numM; rw [h1, h3]; rfl

/-! ### the names of types -/
def typeT (j : Nat) : Int := [1, 2, 5, 6, 12, 15, 16, 28, 39].getD j 0
def typeS (j : Nat) : List UInt8 := ([[65], [78, 83], [67, 78, 65, 77, 69], [83, 79, 65], [80, 84, 82], [77, 88], [84, 88, 84], [65, 65, 65, 65], [68, 78, 65, 77, 69]] : List (List UInt8)).getD j []
/-- The first row with that number; with that name. -/
def rowOfT (t : Int) : Option Nat := (List.range 9).find? fun j => decide (typeT j = t)
def rowOfS (s : List UInt8) : Option Nat := (List.range 9).find? fun j => decide (typeS j = s)
def typeNameM (t : Int) : List UInt8 := match rowOfT t with | some j => typeS j | none => []
def knownM (t : Int) : Bool := (rowOfT t).isSome
def typeTextM (t : Int) : List UInt8 := match rowOfT t with | some j => typeS j | none => [84, 89, 80, 69] ++ Lib.itoa t
def parseTypeM (s : List UInt8) : Int × Int :=
  match rowOfS (greatL s) with
  | some j => (typeT j, 0)
  | none =>
    if (greatL s).take 4 = [84, 89, 80, 69] then
      (if (numM (s.drop 4) 65535).2 = 2 then (0, 6) else if (numM (s.drop 4) 65535).2 ≠ 0 ∨ (numM (s.drop 4) 65535).1 = 0 then (0, 7) else ((numM (s.drop 4) 65535).1, 0))
    else (0, 6)
theorem find_range {n : Nat} {p : Nat → Bool} {j : Nat} (h : (List.range n).find? p = some j) : j < n ∧ p j = true ∧ ∀ i, i < j → p i = false := by
  refine ⟨by have := List.mem_of_find?_eq_some h; simpa using this, List.find?_some h, ?_⟩
  intro i hi
  rw [List.find?_range_eq_some] at h
  simpa using h.2.2 i hi
theorem find_range_none {n : Nat} {p : Nat → Bool} (h : (List.range n).find? p = none) : ∀ i, i < n → p i = false := by
  intro i hi; rw [List.find?_eq_none] at h; simpa using h i (by simpa using hi)
theorem rowOfT_typeT : ∀ j, j < 9 → rowOfT (typeT j) = some j := by decide
theorem rowOfS_typeS : ∀ j, j < 9 → rowOfS (typeS j) = some j := by decide
theorem great_typeS : ∀ j, j < 9 → greatL (typeS j) = typeS j := by decide
theorem typeS_ne : ∀ j, j < 9 → typeS j ≠ [] ∧ (typeS j).take 4 ≠ [84, 89, 80, 69] ∧ (typeS j).length ≤ 5 := by decide
theorem typeT_pos : ∀ j, j < 9 → 0 < typeT j ∧ typeT j ≤ 65535 := by decide
theorem fold_typeS (j : Nat) (hj : j < 9) (s : List UInt8) : (foldL (typeS j) = foldL s) ↔ (typeS j = greatL s) := by
  constructor
  · intro h
    have := congrArg greatL h
    rwa [greatL_fold, greatL_fold, great_typeS j hj] at this
  · intro h
    have := congrArg foldL h
    rwa [foldL_great] at this
theorem great_dec (u : Nat) : greatL (Lib.decDigits u) = Lib.decDigits u := by
  have h := (dec_facts u).1
  unfold greatL
  conv => rhs; rw [← List.map_id (Lib.decDigits u)]
  apply List.map_congr_left
  intro c hc; exact (digit_great c).2 (List.all_eq_true.1 h c hc)
theorem great_text (t : Nat) : greatL (typeTextM t) = typeTextM t := by
  unfold typeTextM
  cases h : rowOfT t with
  | some j => exact great_typeS j (find_range h).1
  | none =>
    show greatL ([84, 89, 80, 69] ++ Lib.itoa t) = [84, 89, 80, 69] ++ Lib.itoa t
    rw [Lib.itoa_nonneg]
    have h1 : greatL ([84, 89, 80, 69] ++ Lib.decDigits t) = greatL [84, 89, 80, 69] ++ greatL (Lib.decDigits t) := by simp [greatL]
    rw [h1, great_dec]; rfl
/-- A text that is a type's words but for its letters is that type. -/
theorem parse_great (t : Nat) (h1 : 0 < t) (h2 : t ≤ 65535) (s : List UInt8) (hs : greatL s = typeTextM t) : parseTypeM s = ((t : Int), 0) := by
  unfold parseTypeM
  rw [hs]
  unfold typeTextM at hs ⊢
  cases h : rowOfT t with
  | some j =>
    obtain ⟨hj, hp, _⟩ := find_range h
    simp only
    rw [rowOfS_typeS j hj]
    simp only [Prod.mk.injEq, and_true]
    exact of_decide_eq_true hp
  | none =>
    rw [h] at hs
    simp only [Lib.itoa_nonneg] at hs ⊢
    have hn : rowOfS ([84, 89, 80, 69] ++ Lib.decDigits t) = none := by
      cases h' : rowOfS ([84, 89, 80, 69] ++ Lib.decDigits t) with
      | none => rfl
      | some j =>
        obtain ⟨hj, hp, _⟩ := find_range h'
        have e := of_decide_eq_true hp
        have := (typeS_ne j hj).2.1
        rw [e] at this
        exact absurd rfl this
    rw [hn]
    simp only
    have h4 : ([84, 89, 80, 69] ++ Lib.decDigits t).take 4 = [84, 89, 80, 69] := rfl
    rw [if_pos h4]
    have hd : greatL (s.drop 4) = Lib.decDigits t := by
      have := congrArg (List.drop 4) hs
      unfold greatL at this ⊢
      rw [← List.map_drop] at this
      exact this
    have hnum : numM (s.drop 4) 65535 = (t, 0) := by
      rw [← numM_map greatU digit_great (s.drop 4) 65535]
      show numM (greatL (s.drop 4)) 65535 = _
      rw [hd]; exact numM_dec t 65535 h2
    rw [hnum]
    simp; omega
theorem text_inj (a b : Nat) (h1 : 0 < a) (h2 : a ≤ 65535) (h3 : 0 < b) (h4 : b ≤ 65535) (h : typeTextM a = typeTextM b) : a = b := by
  have e1 := parse_great a h1 h2 _ (great_text a)
  have e2 := parse_great b h3 h4 _ (great_text b)
  rw [h, e2] at e1
  simp at e1; omega

/-! ### bytes turned one by one -/
def half (f : Nat → UInt8 → UInt8) (l : List UInt8) (k : Nat) : List UInt8 := (l.take k).mapIdx f ++ l.drop k
theorem half_zero (f : Nat → UInt8 → UInt8) (l : List UInt8) : half f l 0 = l := by simp [half]
theorem half_all (f : Nat → UInt8 → UInt8) (l : List UInt8) : half f l l.length = l.mapIdx f := by simp [half]
theorem half_len (f : Nat → UInt8 → UInt8) (l : List UInt8) (k : Nat) : (half f l k).length = l.length := by simp [half]; omega
theorem half_get (f : Nat → UInt8 → UInt8) (l : List UInt8) (k : Nat) (h : k < l.length) : (half f l k)[k]'(by rw [half_len]; exact h) = l[k] := by
  unfold half
  rw [List.getElem_append_right (by simp; omega)]
  simp; congr 1; omega
theorem half_succ (f : Nat → UInt8 → UInt8) (l : List UInt8) (k : Nat) (h : k < l.length) : (half f l k).set k (f k l[k]) = half f l (k + 1) := by
  unfold half
  rw [List.take_succ_eq_append_getElem h, List.mapIdx_append, List.drop_eq_getElem_cons h, List.set_append_right _ _ (by simp; omega)]
  have : k - ((l.take k).mapIdx f).length = 0 := by simp; omega
  rw [this]
  simp only [List.set_cons_zero, List.mapIdx_cons, List.mapIdx_nil, List.append_assoc, List.cons_append, List.nil_append]
  congr 2
  simp; congr 1; omega

end Go.Proofs.Ytfcdajldpnomfaa

/-
  Package rtype's table of names: names, the iterator over its rows.
-/
namespace Go.Proofs.Ytfcdajldpnomfaa
set_option maxRecDepth 20000
open Go.RowKit Go.Shelf

/-- The table's rows in block g. -/
def NRow (g : Nat) (W : World) : Prop := g < W.heap.size ∧ ∀ j, j < 9 → W.cell? ⟨g, j * 2, none⟩ = some (.int .i64 (typeT j)) ∧ W.cell? ⟨g, j * 2 + 1, none⟩ = some (strV (typeS j))
theorem NRow.below {g : Nat} {W W' : World} (h : NRow g W) (hb : Below W.heap.size W W') : NRow g W' := ⟨Nat.lt_of_lt_of_le h.1 hb.size, fun j hj =>
  ⟨(hb.cell (p := ⟨g, j * 2, none⟩) h.1).trans (h.2 j hj).1, (hb.cell (p := ⟨g, j * 2 + 1, none⟩) h.1).trans (h.2 j hj).2⟩⟩
def NamesPost (w : World) (e : Ending) (w' : World) : Prop := ∃ g, e = .returned (.agg #[.slice (some ⟨g, 0, none⟩) 9 9]) ∧ NRow g w' ∧ Below w.heap.size w w'

def NamesPost2 (w : World) (e : Ending) (w' : World) : Prop := ∃ g, e = .returned (.agg #[.slice (some ⟨g, 0, none⟩) 9 9]) ∧ NRow g w' ∧ Below w.heap.size w w' ∧ w.heap.size ≤ g

/-- What a round must keep: the table's box, its rows. -/
def KeepT (b g : Nat) (W W' : World) : Prop := KeepB b W W' ∧ KeepB g W W'
theorem KeepT.refl (b g : Nat) (W : World) : KeepT b g W W := ⟨rfl, rfl⟩
theorem keepT_t {b g : Nat} {A B C : World} (h : KeepT b g A B) (k : KeepT b g B C) : KeepT b g A C := ⟨h.1.trans k.1, h.2.trans k.2⟩
theorem keepT_b {b g : Nat} {w : World} (hb : b < w.heap.size) (hg : g < w.heap.size) (W : World) (l : Nat) (o o' : Obj) (hl : w.heap.size ≤ l) (h : W.heap[l]? = some o) (h1 : o.isCells = false) (h2 : o.isWalk = false) : KeepT b g W (W.putObj l o') :=
  ⟨keepB_b hb W l o o' hl h h1 h2, keepB_b hg W l o o' hl h h1 h2⟩
theorem KeepB.lt {b : Nat} {A B : World} (h : KeepB b A B) (hb : b < A.heap.size) : b < B.heap.size := by
  rcases Nat.lt_or_ge b B.heap.size with h' | h'
  · exact h'
  · unfold KeepB at h; rw [Array.getElem?_eq_none h', Array.getElem?_eq_getElem hb] at h; cases h
def rowV (j : Fin 9) : Array Value := #[.int .i64 (typeT j.val), strV (typeS j.val)]

section
attribute [local go_sem] Oper.semAt_some

end
end Go.Proofs.Ytfcdajldpnomfaa

/-
  Data: what they may be, as plain functions and facts.
-/
namespace Go.Proofs.Ytfcdajldpnomfaa
set_option maxRecDepth 20000
open Go.RowKit Go.Shelf

/-! ### scanning by steps -/
section
variable (f : List UInt8 → List UInt8 × Nat × Int)
/-- A step reads something from the front: what, how many octets, an error. -/
def gscanM : Nat → List UInt8 → List UInt8 × Int
  | _, [] => ([], 0)
  | 0, _ :: _ => ([], 2)
  | n + 1, x :: r =>
    if (f (x :: r)).2.2 = 0 then
      (if (gscanM n ((x :: r).drop (f (x :: r)).2.1)).2 = 0 then ((f (x :: r)).1 ++ (gscanM n ((x :: r).drop (f (x :: r)).2.1)).1, 0) else ([], (gscanM n ((x :: r).drop (f (x :: r)).2.1)).2))
    else ([], (f (x :: r)).2.2)
def gscan (l : List UInt8) : List UInt8 × Int := gscanM f l.length l
def GStep : Prop := ∀ l, l ≠ [] → (f l).2.2 = 0 → 1 ≤ (f l).2.1 ∧ (f l).2.1 ≤ l.length
variable {f}
theorem gscanM_fuel (hf : GStep f) : ∀ (n : Nat) (l : List UInt8), l.length ≤ n → gscanM f n l = gscan f l := by
  intro n
  induction n using Nat.strongRecOn with
  | _ n ih =>
    intro l hl
    match l, n with
    | [], _ => simp [gscanM, gscan]
    | x :: r, 0 => simp at hl
    | x :: r, n + 1 =>
      unfold gscan
      simp only [List.length_cons, gscanM]
      by_cases h : (f (x :: r)).2.2 = 0
      · have hs := hf _ (by simp) h
        have hd : ((x :: r).drop (f (x :: r)).2.1).length ≤ r.length := by simp at hs ⊢; omega
        simp only [List.length_cons] at hl
        have e1 := ih n (by omega) _ (Nat.le_trans hd (by omega))
        rw [e1]
        by_cases hn : r.length = n
        · rw [hn, e1]
        · rw [ih r.length (by omega) _ hd]
      · simp [h]
theorem gscanM_clean (n : Nat) (l : List UInt8) (h : (gscanM f n l).2 ≠ 0) : (gscanM f n l).1 = [] := by
  match n, l with
  | _, [] => simp [gscanM]
  | 0, _ :: _ => simp [gscanM]
  | n + 1, x :: r =>
    simp only [gscanM] at h ⊢
    by_cases h1 : (f (x :: r)).2.2 = 0
    · by_cases h2 : (gscanM f n ((x :: r).drop (f (x :: r)).2.1)).2 = 0
      · simp [h1, h2] at h
      · simp [h1, h2]
    · simp [h1]
theorem gscan_nil : gscan f [] = ([], 0) := rfl
theorem gscan_err {l : List UInt8} (h0 : l ≠ []) (h : (f l).2.2 ≠ 0) : gscan f l = ([], (f l).2.2) := by
  match l, h0 with
  | x :: r, _ => unfold gscan; simp only [List.length_cons, gscanM]; rw [if_neg h]
theorem gscan_ok (hf : GStep f) {l : List UInt8} (h0 : l ≠ []) (h : (f l).2.2 = 0) : gscan f l = join (f l).1 (gscan f (l.drop (f l).2.1)) := by
  match l, h0 with
  | x :: r, _ =>
    have hs := hf (x :: r) (by simp) h
    have hd : ((x :: r).drop (f (x :: r)).2.1).length ≤ r.length := by simp at hs ⊢; omega
    have e : gscan f (x :: r) = gscanM f (r.length + 1) (x :: r) := rfl
    rw [e, gscanM, if_pos h, gscanM_fuel hf _ _ hd]
    unfold join; simp
theorem gjoin_nil (l : List UInt8) : gscan f l = join [] (gscan f l) := by
  unfold join
  by_cases h : (gscan f l).2 = 0
  · rw [if_pos h, List.nil_append, ← h]
  · rw [if_neg h, ← gscanM_clean (f := f) l.length l h]; rfl
end

/-! ### texts -/
def tSize (l : List UInt8) : Nat := min (match l with | _ :: y :: _ => if digitU y then 4 else 2 | _ => 2) l.length
def tStep (l : List UInt8) : List UInt8 × Nat × Int :=
  match l with
  | [] => ([], 0, 2)
  | x :: r => if x ≠ 92 then ([x], 1, 0) else ((parseM ((x :: r).take (tSize (x :: r)))).1, tSize (x :: r), (parseM ((x :: r).take (tSize (x :: r)))).2)
theorem tStep_ok : GStep tStep := by
  intro l h0 _
  match l, h0 with
  | x :: r, _ =>
    have e : tStep (x :: r) = if x ≠ 92 then ([x], 1, 0) else ((parseM ((x :: r).take (tSize (x :: r)))).1, tSize (x :: r), (parseM ((x :: r).take (tSize (x :: r)))).2) := rfl
    rw [e]
    by_cases h : x ≠ 92
    · rw [if_pos h]; exact ⟨Nat.le_refl _, by simp⟩
    · rw [if_neg h]
      have h2 : 1 ≤ tSize (x :: r) ∧ tSize (x :: r) ≤ (x :: r).length := by
        unfold tSize
        refine ⟨?_, Nat.min_le_right _ _⟩
        rw [Nat.le_min]
        refine ⟨?_, by simp⟩
        split <;> first | omega | (split <;> omega)
      exact h2
def readTextM (l : List UInt8) : List UInt8 × Int := if (gscan tStep l).2 = 0 then (if 255 < (gscan tStep l).1.length then ([], 3) else ((gscan tStep l).1, 0)) else ([], (gscan tStep l).2)
def quoteW (c : UInt8) : List UInt8 := if c = 34 ∨ c = 92 then [92, c] else if c.toNat < 32 ∨ 126 < c.toNat then octetEsc c else [c]
def quotedM (l : List UInt8) : List UInt8 := 34 :: (l.flatMap quoteW ++ [34])

/-! ### hexadecimal digits -/
def hexU (c : UInt8) : Option Nat :=
  if 48 ≤ c.toNat ∧ c.toNat ≤ 57 then some (c.toNat - 48) else if 97 ≤ c.toNat ∧ c.toNat ≤ 102 then some (c.toNat - 97 + 10) else if 65 ≤ c.toNat ∧ c.toNat ≤ 70 then some (c.toNat - 65 + 10) else none
def hexC (n : Nat) : UInt8 := if n < 10 then UInt8.ofNat (48 + n) else UInt8.ofNat (97 + (n - 10))
theorem hexU_lt {c : UInt8} {v : Nat} (h : hexU c = some v) : v < 16 := by
  unfold hexU at h
  split at h
  · cases h; omega
  split at h
  · cases h; omega
  split at h
  · cases h; omega
  · cases h
def hexV (c : UInt8) : Nat := (hexU c).getD 0
def hexB (c : UInt8) : Bool := (hexU c).isSome
theorem hexV_lt (c : UInt8) : hexV c < 16 := by
  unfold hexV
  cases h : hexU c with
  | none => simp
  | some v => exact hexU_lt h
def hexW (c : UInt8) : UInt8 := UInt8.ofNat (hexV c)
/-- Pairs of halves as octets. -/
def pairUp : List UInt8 → List UInt8
  | a :: b :: r => UInt8.ofNat (16 * a.toNat + b.toNat) :: pairUp r
  | _ => []
abbrev Wd := List UInt8 × Bool
def halvesOK (l : List Wd) : Bool := l.all fun x => !x.2 && x.1.all hexB
def halvesL (l : List Wd) : List UInt8 := l.flatMap fun x => x.1.map hexW

/-! ### what data may be -/
def countedM (d : Dat) : Bool := decide (d.names.length = (countsM d.ty).1 ∧ d.nums.length = (countsM d.ty).2.1 ∧ (if d.ty = 16 then 1 ≤ d.texts.length ∧ d.texts.length ≤ 32 else d.texts.length = 0) ∧ (0 ≤ (countsM d.ty).2.2 → (d.raw.length : Int) = (countsM d.ty).2.2))
def checkNs : List Nm → Int
  | [] => 0
  | n :: r => if checkN n = 0 then checkNs r else checkN n
def longT (l : Nm) : Bool := l.any fun s => decide (255 < s.length)
def checkD (d : Dat) : Int :=
  if d.ty < 1 ∨ 65535 < d.ty then 6 else if countedM d = false then 2 else if checkNs d.names ≠ 0 then checkNs d.names
  else if d.ty = 15 ∧ 65535 < d.nums.headD 0 then 7 else if longT d.texts then 3 else if 1024 < d.raw.length then 3 else 0
theorem checkNs_snoc (l : List Nm) (n : Nm) : checkNs (l ++ [n]) = if checkNs l = 0 then checkN n else checkNs l := by
  induction l with
  | nil => simp only [List.nil_append, checkNs, if_true]; split <;> simp_all
  | cons x r ih =>
    have e : ∀ l, checkNs (x :: l) = if checkN x = 0 then checkNs l else checkN x := fun _ => rfl
    rw [List.cons_append]
    by_cases h : checkN x = 0
    · have e1 : ∀ l, checkNs (x :: l) = checkNs l := fun l => by rw [e, if_pos h]
      rw [e1, e1, ih]
    · have e1 : ∀ l, checkNs (x :: l) = checkN x := fun l => by rw [e, if_neg h]
      rw [e1, e1, if_neg h]
theorem checkNs_stop {a p : List Nm} (h : p <+: a) (hp : checkNs p ≠ 0) : checkNs a = checkNs p := by
  obtain ⟨t, rfl⟩ := h
  induction p with
  | nil => exact absurd rfl hp
  | cons x r ih =>
    simp only [List.cons_append, checkNs] at hp ⊢
    by_cases h : checkN x = 0
    · rw [if_pos h] at hp ⊢; rw [if_pos h]; exact ih hp
    · rw [if_neg h, if_neg h]

/-! ### words -/
def formD (t : Int) (n : Nat) : List UInt8 :=
  if t = 1 then [52] else if t = 28 then [54] else if t = 2 ∨ t = 5 ∨ t = 12 ∨ t = 39 then [110] else if t = 15 then [112, 110] else if t = 6 then [110, 110, 117, 117, 117, 117, 117]
  else if t = 16 ∧ n ≤ 32 then List.replicate n 116 else []
/-- A text at each of an octet. -/
def splitAtU (sep : UInt8) : List UInt8 → List (List UInt8)
  | [] => [[]]
  | c :: r => if c = sep then [] :: splitAtU sep r else match splitAtU sep r with | [] => [[c]] | x :: t => (c :: x) :: t
def addrsM : List (List UInt8) → List UInt8 × Int
  | [] => ([], 0)
  | p :: r => if (numM p 255).2 ≠ 0 then ([], (numM p 255).2) else if (addrsM r).2 = 0 then (UInt8.ofNat (numM p 255).1 :: (addrsM r).1, 0) else ([], (addrsM r).2)
def addressM (s : List UInt8) : List UInt8 × Int := if (splitAtU 46 s).length = 4 then addrsM (splitAtU 46 s) else ([], 2)
def groupV (l : List UInt8) : Nat := l.foldl (fun n c => 16 * n + hexV c) 0
def groupsR : List (List UInt8) → List UInt8 × Int
  | [] => ([], 0)
  | p :: r => if p.length < 1 ∨ 4 < p.length ∨ p.all hexB = false then ([], 2)
    else if (groupsR r).2 = 0 then (UInt8.ofNat (groupV p / 256) :: UInt8.ofNat (groupV p % 256) :: (groupsR r).1, 0) else ([], (groupsR r).2)
def groupsM (s : List UInt8) : List UInt8 × Int := if (splitAtU 58 s).length = 8 then groupsR (splitAtU 58 s) else ([], 2)
def errD (k : UInt8) (s : List UInt8) (o : Nm) : Int :=
  if k = 110 then (parseN s o).2 else if k = 117 then (numM s 4294967295).2 else if k = 112 then (numM s 65535).2 else if k = 116 then (readTextM s).2 else if k = 52 then (addressM s).2 else if k = 54 then (groupsM s).2 else 0
def addD (d : Dat) (k : UInt8) (s : List UInt8) (o : Nm) : Dat :=
  if k = 110 then { d with names := d.names ++ [(parseN s o).1] } else if k = 117 then { d with nums := d.nums ++ [(numM s 4294967295).1] } else if k = 112 then { d with nums := d.nums ++ [(numM s 65535).1] }
  else if k = 116 then { d with texts := d.texts ++ [(readTextM s).1] } else if k = 52 then { d with raw := (addressM s).1 } else if k = 54 then { d with raw := (groupsM s).1 } else d
def wordsD (d : Dat) (o : Nm) : List UInt8 → List Wd → Dat × Int
  | k :: ks, (s, q) :: l => if q ∧ k ≠ 116 then (d, 2) else if errD k s o ≠ 0 then (d, errD k s o) else wordsD (addD d k s o) o ks l
  | _, _ => (d, 0)
def octetsD (t : Int) (l : List Wd) : List UInt8 × Int :=
  if knownM t ∧ ¬ (t = 1 ∨ t = 28) then ([], 6) else match l with
  | [] => ([], 2)
  | (s, q) :: r => if q then ([], 2) else if (numM s 4294967295).2 ≠ 0 then ([], (numM s 4294967295).2) else if 1024 < (numM s 4294967295).1 then ([], 3) else
    if halvesOK r = false ∨ (halvesL r).length ≠ 2 * (numM s 4294967295).1 then ([], 2) else if (t = 1 ∧ (numM s 4294967295).1 ≠ 4) ∨ (t = 28 ∧ (numM s 4294967295).1 ≠ 16) then ([], 2) else (pairUp (halvesL r), 0)
def Dat.of (t : Int) : Dat := ⟨t, [], [], [], []⟩
def parseD (t : Int) (l : List Wd) (o : Nm) : Dat × Int :=
  if t < 1 ∨ 65535 < t then (Dat.none, 6) else
  if l.head? = some ([92, 35], false) then (if (octetsD t (l.drop 1)).2 = 0 then (⟨t, [], [], [], (octetsD t (l.drop 1)).1⟩, 0) else (Dat.none, (octetsD t (l.drop 1)).2))
  else if formD t l.length = [] ∨ (formD t l.length).length ≠ l.length then (Dat.none, 2)
  else if (wordsD (Dat.of t) o (formD t l.length) l).2 = 0 then ((wordsD (Dat.of t) o (formD t l.length) l).1, 0) else (Dat.none, (wordsD (Dat.of t) o (formD t l.length) l).2)

/-! ### data in words -/
def sepBy (sep : List UInt8) : List (List UInt8) → List UInt8
  | [] => []
  | [x] => x
  | x :: y :: r => x ++ sep ++ sepBy sep (y :: r)
/-- A number's hexadecimal digits, at least one. -/
def hexD (n : Nat) : List UInt8 := if _h : n < 16 then [hexC n] else hexD (n / 16) ++ [hexC (n % 16)]
termination_by n
decreasing_by omega
def hexes : List UInt8 → List (List UInt8)
  | a :: b :: r => hexD (256 * a.toNat + b.toNat) :: hexes r
  | _ => []
def hex2 (c : UInt8) : List UInt8 := [hexC (c.toNat / 16), hexC (c.toNat % 16)]
def octetWordsM (raw : List UInt8) : List UInt8 := [92, 35, 32] ++ Lib.decDigits raw.length ++ (if raw = [] then [] else 32 :: raw.flatMap hex2)
def textD (d : Dat) : List UInt8 :=
  if d.ty = 1 then sepBy [46] (d.raw.map fun c => Lib.decDigits c.toNat)
  else if d.ty = 28 then sepBy [58] (hexes d.raw)
  else if d.ty = 2 ∨ d.ty = 5 ∨ d.ty = 12 ∨ d.ty = 39 ∨ d.ty = 6 then sepBy [32] (d.names.map textN ++ d.nums.map Lib.decDigits)
  else if d.ty = 15 then sepBy [32] (d.nums.map Lib.decDigits ++ d.names.map textN)
  else if d.ty = 16 then sepBy [32] (d.texts.map quotedM)
  else octetWordsM d.raw

end Go.Proofs.Ytfcdajldpnomfaa

/-
  The shelf's contracts at this dump that the proofs of this seat use (cut out of what the kit's lay-plain writes).
-/
namespace Go.Proofs
open Go.Shelf
def Try.lays189_ren : Go.Shelf.Ren := ⟨fun | 189 => 22 | 125 => 39 | 257 => 38 | 128 => 71 | 129 => 72 | 294 => 62 | 295 => 63 | 296 => 64 | 297 => 65 | 298 => 66 | 299 => 67 | 216 => 68 | 300 => 69 | 301 => 70 | 328 => 85 | 329 => 86 | 330 => 87 | 331 => 88 | 332 => 89 | 215 => 76 | 343 => 98 | n => n, fun | 28 => 49 | 3 => 3 | 46 => 85 | 0 => 0 | 51 => 37 | 53 => 114 | 4 => 4 | 183 => 105 | 182 => 104 | 131 => 110 | 5 => 5 | 9 => 9 | 218 => 133 | 222 => 137 | 228 => 144 | 229 => 145 | n => n, fun | n => n⟩
theorem Try.lays189 : Go.Proofs.Lays.n189 Try.prog Try.lays189_ren := {
  mixed := by kernel_rfl
  f125 := Try.func39.trans (congrArg some (by kernel_rfl))
  f128 := Try.func71.trans (congrArg some (by kernel_rfl))
  f129 := Try.func72.trans (congrArg some (by kernel_rfl))
  f189 := Try.func22.trans (congrArg some (by kernel_rfl))
  f215 := Try.func76.trans (congrArg some (by kernel_rfl))
  f216 := Try.func68.trans (congrArg some (by kernel_rfl))
  f257 := Try.func38.trans (congrArg some (by kernel_rfl))
  f294 := Try.func62.trans (congrArg some (by kernel_rfl))
  f295 := Try.func63.trans (congrArg some (by kernel_rfl))
  f296 := Try.func64.trans (congrArg some (by kernel_rfl))
  f297 := Try.func65.trans (congrArg some (by kernel_rfl))
  f298 := Try.func66.trans (congrArg some (by kernel_rfl))
  f299 := Try.func67.trans (congrArg some (by kernel_rfl))
  f300 := Try.func69.trans (congrArg some (by kernel_rfl))
  f301 := Try.func70.trans (congrArg some (by kernel_rfl))
  f328 := Try.func85.trans (congrArg some (by kernel_rfl))
  f329 := Try.func86.trans (congrArg some (by kernel_rfl))
  f330 := Try.func87.trans (congrArg some (by kernel_rfl))
  f331 := Try.func88.trans (congrArg some (by kernel_rfl))
  f332 := Try.func89.trans (congrArg some (by kernel_rfl))
  f343 := Try.func98.trans (congrArg some (by kernel_rfl))
  t0 := Try.underlying0
  a0 := Try.isAgg0
  z0 := Try.sizeOf0
  v0 := Try.zeroValue0
  t3 := Try.underlying3
  a3 := Try.isAgg3
  z3 := Try.sizeOf3
  v3 := Try.zeroValue3
  t4 := Try.underlying4
  a4 := Try.isAgg4
  z4 := Try.sizeOf4
  v4 := Try.zeroValue4
  t5 := Try.underlying5
  a5 := Try.isAgg5
  z5 := Try.sizeOf5
  v5 := Try.zeroValue5
  t9 := Try.underlying9
  a9 := Try.isAgg9
  z9 := Try.sizeOf9
  v9 := Try.zeroValue9
  t28 := Try.underlying49
  a28 := Try.isAgg49
  z28 := Try.sizeOf49
  v28 := Try.zeroValue49
  t46 := Try.underlying85
  a46 := Try.isAgg85
  z46 := Try.sizeOf85
  v46 := Try.zeroValue85
  t51 := Try.underlying37
  a51 := Try.isAgg37
  z51 := Try.sizeOf37
  v51 := Try.zeroValue37
  t53 := Try.underlying114
  a53 := Try.isAgg114
  z53 := Try.sizeOf114
  v53 := Try.zeroValue114
  t131 := Try.underlying110
  a131 := Try.isAgg110
  z131 := Try.sizeOf110
  v131 := Try.zeroValue110
  t182 := Try.underlying104
  a182 := Try.isAgg104
  z182 := Try.sizeOf104
  v182 := Try.zeroValue104
  t183 := Try.underlying105
  a183 := Try.isAgg105
  z183 := Try.sizeOf105
  v183 := Try.zeroValue105
  t218 := Try.underlying133
  a218 := Try.isAgg133
  z218 := Try.sizeOf133
  v218 := Try.zeroValue133
  t222 := Try.underlying137
  a222 := Try.isAgg137
  z222 := Try.sizeOf137
  v222 := Try.zeroValue137
  t228 := Try.underlying144
  a228 := Try.isAgg144
  z228 := Try.sizeOf144
  v228 := Try.zeroValue144
  t229 := Try.underlying145
  a229 := Try.isAgg145
  z229 := Try.sizeOf145
  v229 := Try.zeroValue145 }
open Go.Sort Go.RowKit in
theorem Try.slices_Sort_int (blk off cap : Nat) (zs : List Int) (w : World) (hH : Holds (Value.int .i64) w blk off zs.toArray) (hblk : blk < w.heap.size) (hsz : zs.length < 4611686018427387904) :
    Calls Try.prog 22 #[.slice (some ⟨blk, off, none⟩) zs.length cap] w fun e w' =>
      e = .returned (.tuple #[]) ∧ ∃ n os, w' = grow (putRow (Value.int .i64) (Sort.ahead w n) blk off (zs.mergeSort fun x y => decide (x ≤ y)).toArray) os := Any.slices_Sort_int Try.lays189 blk off cap zs w hH hblk hsz
def Try.laysNm220_ren : Go.Shelf.Ren := ⟨fun | 20 => 23 | n => n, fun | 22 => 49 | 3 => 3 | 4 => 4 | 0 => 0 | n => n, fun | n => n⟩
theorem Try.laysNm220 : Go.Proofs.Lays2.n20 Try.prog Try.laysNm220_ren := {
  mixed := by kernel_rfl
  f20 := Try.func23.trans (congrArg some (by kernel_rfl))
  t0 := Try.underlying0
  a0 := Try.isAgg0
  z0 := Try.sizeOf0
  v0 := Try.zeroValue0
  t3 := Try.underlying3
  a3 := Try.isAgg3
  z3 := Try.sizeOf3
  v3 := Try.zeroValue3
  t4 := Try.underlying4
  a4 := Try.isAgg4
  z4 := Try.sizeOf4
  v4 := Try.zeroValue4
  t22 := Try.underlying49
  a22 := Try.isAgg49
  z22 := Try.sizeOf49
  v22 := Try.zeroValue49
  i3 := by kernel_rfl }
open Go.RowKit Go.Lib Go.Sort in
/-- slices.Compact at []int: "Compact replaces consecutive runs of equal elements with a single copy. This is like the uniq command found on Unix. Compact modifies the contents of the slice s and returns the modified slice, which may have a smaller length. Compact zeroes the elements between the new length and the original length. The result preserves the nilness of s.": IT RETURNS THE SLICE CUT TO 'Lib.compact zs'; ITS CELLS HOLD 'Lib.compact zs', THEN ZERO VALUES up to the old length; all else is as it was, but for the count of draws. IN THE WORDS OF slices.Sort's CONTRACT ('Holds', 'putRow'): so the everyday 'slices.Sort(xs); xs = slices.Compact(xs)' goes from the one contract to the other. It asks 'zs.length ≤ cap' (every slice's: the reslicing 's[:k]' looks at it). Length 0, nil: '.._empty'. (LAID: no walk: one application.) -/
theorem Try.slices_Compact_int (blk off cap : Nat) (zs : List Int) (w : World) (hH : Holds (Value.int .i64) w blk off zs.toArray) (hsz : zs.length ≤ 9223372036854775807) (hcap : zs.length ≤ cap) :
    Calls Try.prog 23 #[.slice (some ⟨blk, off, none⟩) zs.length cap] w fun e w' => e = .returned (.slice (some ⟨blk, off, none⟩) (Lib.compact zs).length cap) ∧ ∃ q, w' = putRow (Value.int .i64) (Sort.ahead w q) blk off (Lib.compact zs ++ List.replicate (zs.length - (Lib.compact zs).length) 0).toArray := Any.slices_Compact_int Try.laysNm220 blk off cap zs w hH hsz hcap
open Go.RowKit Go.Lib Go.Sort in
/-- The same at a slice of length 0, a nil one too: it comes back as it is. (LAID: no walk: one application.) -/
theorem Try.slices_Compact_int_empty (a : Option Addr) (cap : Nat) (w : World) :
    Calls Try.prog 23 #[.slice a 0 cap] w fun e w' => e = .returned (.slice a 0 cap) ∧ w' = w := Any.slices_Compact_int_empty Try.laysNm220 a cap w
end Go.Proofs

/-
  Strings turned into bytes of the call's own, turned one by one, and back: rtype.great, ref.FoldLabel.
-/
namespace Go.Proofs.Ytfcdajldpnomfaa
set_option maxRecDepth 20000
open Go.RowKit Go.Shelf

/-- A row of bytes of the call's own, from the head of block g. -/
def BRow (g : Nat) (l : List UInt8) (W : World) : Prop := ∀ j (hj : j < l.length), W.cell? ⟨g, j, none⟩ = some (bv l[j]) ∧ W.frozen? ⟨g, j, none⟩ = false
theorem BRow.set {g : Nat} {l : List UInt8} {W : World} (h : BRow g l W) (k : Nat) (hk : k < l.length) (c : UInt8) : BRow g (l.set k c) (W.setCell ⟨g, k, none⟩ (bv c)) := by
  intro j hj
  rw [List.length_set] at hj
  rw [World.frozen?_setCell]
  refine ⟨?_, (h j hj).2⟩
  by_cases e : j = k
  · subst e
    rw [World.cell?_setCell_same' _ _ _ (by rw [(h j hk).1]; rfl)]
    simp
  · have hne : (⟨g, k, none⟩ : Addr) ≠ ⟨g, j, none⟩ := by intro q; injection q with _ e2 _; omega
    rw [World.cell?_setCell_other (h := hne), (h j hj).1]
    congr 2; rw [List.getElem_set_ne (by omega)]
theorem BRow.below {g n : Nat} {l : List UInt8} {W W' : World} (h : BRow g l W) (hb : Below n W W') (hg : g < n) : BRow g l W' := fun j hj =>
  ⟨(hb.cell (p := ⟨g, j, none⟩) hg).trans (h j hj).1, (hb.frozen (p := ⟨g, j, none⟩) hg).trans (h j hj).2⟩
theorem BRow.of_str (w : World) (s : ByteArray) : BRow w.heap.size s.data.toList (Lib.bytesWorld w 5 s) ∧ Below w.heap.size w (Lib.bytesWorld w 5 s) := by
  have hold := Lib.bytesWorld_at_old w 5 s
  have hsz := Lib.bytesWorld_size w 5 s
  have hcell := Lib.bytesWorld_cell w 5 s
  have hnew := Lib.bytesWorld_at_new w 5 s
  have hcs : s.size ≤ (Lib.bytesCells w 5 s).size := by unfold Lib.bytesCells; simp
  refine ⟨fun j hj => ⟨?_, ?_⟩, rfl, rfl, rfl, by rw [hsz]; omega, fun k hk => hold k hk⟩
  · have hj2 : j < s.size := by rw [← size_data]; exact hj
    rw [hcell j hj2]
    have : s.data.toList.getD j 0 = s[j] := by rw [List.getD_eq_getElem?_getD, Lib.data_getElem? s j hj2]; rfl
    rw [this]; rfl
  · have hj2 : j < s.size := by rw [← size_data]; exact hj
    unfold World.frozen?
    rw [hnew]
    simp; omega
theorem BRow.back {g : Nat} {l : List UInt8} {W : World} (h : BRow g l W) (n cap : Nat) (hn : n = l.length) :
    (convert 29 9 (.slice (some ⟨g, 0, none⟩) n cap)).run Try.prog W = .ok (.string ⟨l.toArray⟩) W := by
  subst hn
  exact run_convert_bytes_back W 29 9 5 ⟨g, 0, none⟩ cap l Try.underlying29 Try.underlying5 Try.underlying9 (fun j hj => by
    have e : ((⟨g, 0, none⟩ : Addr).add j) = ⟨g, j, none⟩ := by unfold Addr.add; by_cases hj : j = 0 <;> simp [hj]
    rw [e]; exact (h j hj).1)

theorem mapIdx_const (f : UInt8 → UInt8) (l : List UInt8) : l.mapIdx (fun _ c => f c) = l.map f := by
  apply List.ext_getElem (by simp)
  intro j h1 h2; simp
theorem BRow.same {g : Nat} {l : List UInt8} {W : World} (h : BRow g l W) (k : Nat) (hk : k < l.length) (c : UInt8) (e : l[k] = c) : BRow g (l.set k c) W := by
  subst e; rw [List.set_getElem_self]; exact h

end Go.Proofs.Ytfcdajldpnomfaa

/-
  Decimals: number.Digits, number.Parse; the document's Number, Digit.
-/
namespace Go.Proofs.Ytfcdajldpnomfaa
set_option maxRecDepth 20000
open Go.RowKit Go.Shelf

theorem allDigits_snoc (l : List UInt8) (c : UInt8) : allDigits (l ++ [c]) = (allDigits l && digitU c) := by simp [allDigits]
theorem allDigits_take {l : List UInt8} (h : allDigits l = true) (k : Nat) : allDigits (l.take k) = true := by
  unfold allDigits at *; rw [List.all_eq_true] at *; exact fun x hx => h x (List.mem_of_mem_take hx)
theorem allDigits_not {l : List UInt8} {k : Nat} (hk : k < l.length) (h : digitU l[k] = false) : allDigits l = false := by
  cases e : allDigits l with
  | false => rfl
  | true => unfold allDigits at e; rw [List.all_eq_true] at e; rw [e _ (List.getElem_mem hk)] at h; cases h
theorem digit_boundsI {c : UInt8} (h : digitU c = true) : (48 : Int) ≤ (c.toNat : Int) ∧ (c.toNat : Int) ≤ 57 := by rw [digitU_iff] at h; omega
theorem digit_not {c : UInt8} (h : digitU c = false) : (c.toNat : Int) < 48 ∨ (48 ≤ (c.toNat : Int) ∧ 57 < (c.toNat : Int)) := by
  have : ¬ (48 ≤ c.toNat ∧ c.toNat ≤ 57) := by rw [← digitU_iff, h]; simp
  omega


/-- What number.Parse and Number answer. -/
def NumPost (l : List UInt8) (most : Nat) (w : World) (e : Ending) (w' : World) : Prop := e = .returned (.tuple #[.int .i64 ((numM l most).1 : Int), .int .i64 (numM l most).2]) ∧ w' = w
theorem num_fin {l : List UInt8} {most : Nat} {w : World} {e : Ending} (v : Nat) (er : Int) (h : numM l most = (v, er)) (he : e = .returned (.tuple #[.int .i64 (v : Int), .int .i64 er])) : NumPost l most w e w := by
  unfold NumPost; rw [h]; exact ⟨he, rfl⟩
theorem head_get (s : ByteArray) (h : 0 < s.size) : s.data.toList.head? = some s[0] := by
  rw [List.head?_eq_getElem?, List.getElem?_eq_getElem (by rw [size_data]; exact h)]; rfl
theorem num_over {l : List UInt8} {most k : Nat} (hf : formN l = true) (h : most < valL (l.take k)) : numM l most = (0, 7) := by
  have := valL_prefix (List.take_prefix k l)
  unfold numM; rw [hf, if_pos rfl, if_neg (by omega)]

def NumSt (l : List UInt8) (most k v : Nat) (ov : Bool) : Prop := allDigits (l.take k) = true ∧ (ov = false → v ≤ most ∧ valL (l.take k) = v) ∧ (ov = true → most < valL (l.take k))
end Go.Proofs.Ytfcdajldpnomfaa

