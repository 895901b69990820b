/-
  Data in their order: plain functions and facts.
-/
import Derived.Test.YtckammgnmgkieaaMQ41
import Derived.Test.YtckammgnmgkieaaMQ32
import Derived.Deep.RegionHeld3
namespace Go.Proofs.Ytckammgnmgkieaa
set_option maxRecDepth 20000
open Go.RowKit Go.Shelf

/-- Lists by their items, one by one; who has fewer, ahead. -/
def cmpL {α : Type} (f : α → α → Int) : List α → List α → Int
  | [], [] => 0
  | [], _ :: _ => -1
  | _ :: _, [] => 1
  | x :: r, y :: t => if f x y = 0 then cmpL f r t else f x y
def orI (a b : Int) : Int := if a = 0 then b else a
def cmpU (a b : Nat) : Int := cmpI a b
def cmpB (a b : UInt8) : Int := cmpI a.toNat b.toNat
def compareD (a b : Dat) : Int :=
  orI (cmpI a.ty b.ty) (orI (cmpL compareN a.names b.names) (orI (cmpL cmpU a.nums b.nums) (orI (cmpL orderM a.texts b.texts) (cmpL cmpB a.raw b.raw))))

section
variable {α : Type} {f : α → α → Int}
theorem cmpL_step {a b : List α} (k : Nat) (h1 : k < a.length) (h2 : k < b.length) :
    cmpL f (a.drop k) (b.drop k) = if f a[k] b[k] = 0 then cmpL f (a.drop (k + 1)) (b.drop (k + 1)) else f a[k] b[k] := by
  rw [List.drop_eq_getElem_cons h1, List.drop_eq_getElem_cons h2]
  rfl
theorem cmpL_nil (b : List α) : cmpL f [] b = cmpI 0 b.length := by
  cases b with
  | nil => rfl
  | cons x r => simp [cmpL, cmpI]
theorem cmpL_nil' (a : List α) : cmpL f a [] = cmpI a.length 0 := by
  cases a with
  | nil => rfl
  | cons x r => simp [cmpL, cmpI]; omega
theorem cmpI_sub (a b k : Int) : cmpI (a - k) (b - k) = cmpI a b := by
  unfold cmpI
  by_cases h : a < b
  · rw [if_pos h, if_pos (by omega)]
  · rw [if_neg h, if_neg (by omega)]
    by_cases h2 : b < a
    · rw [if_pos h2, if_pos (by omega)]
    · rw [if_neg h2, if_neg (by omega)]
theorem cmpL_end {a b : List α} (k : Nat) (h1 : k ≤ a.length) (h2 : k ≤ b.length) (h : k = a.length ∨ k = b.length) : cmpL f (a.drop k) (b.drop k) = cmpI a.length b.length := by
  rcases h with h | h
  · rw [List.drop_of_length_le (by omega), cmpL_nil, List.length_drop, ← cmpI_sub a.length b.length k]
    congr 1 <;> omega
  · rw [List.drop_of_length_le (l := b) (by omega), cmpL_nil', List.length_drop, ← cmpI_sub a.length b.length k]
    congr 1 <;> omega
theorem cmpL_swap (hf : ∀ x y, f y x = - f x y) : ∀ a b : List α, cmpL f b a = - cmpL f a b
  | [], [] => rfl
  | [], _ :: _ => rfl
  | _ :: _, [] => rfl
  | x :: r, y :: t => by
    simp only [cmpL, hf x y, cmpL_swap hf r t]
    by_cases h : f x y = 0
    · rw [if_pos h, if_pos (by omega)]
    · rw [if_neg h, if_neg (by omega)]
theorem cmpL_range (hf : ∀ x y, f x y = -1 ∨ f x y = 0 ∨ f x y = 1) : ∀ a b : List α, cmpL f a b = -1 ∨ cmpL f a b = 0 ∨ cmpL f a b = 1
  | [], [] => .inr (.inl rfl)
  | [], _ :: _ => .inl rfl
  | _ :: _, [] => .inr (.inr rfl)
  | x :: r, y :: t => by
    simp only [cmpL]
    split
    · exact cmpL_range hf r t
    · exact hf x y
end
theorem cmpI_swap (a b : Int) : cmpI b a = - cmpI a b := by
  rcases cmpI_cases a b with ⟨h, h2⟩ | ⟨h, h2⟩ | ⟨h, h2⟩ <;> rcases cmpI_cases b a with ⟨g, g2⟩ | ⟨g, g2⟩ | ⟨g, g2⟩ <;> omega
theorem cmpI_range (a b : Int) : cmpI a b = -1 ∨ cmpI a b = 0 ∨ cmpI a b = 1 := by
  rcases cmpI_cases a b with ⟨h, h2⟩ | ⟨h, h2⟩ | ⟨h, h2⟩ <;> omega
theorem orI_swap {a b a' b' : Int} (h : a' = -a) (h2 : b' = -b) : orI a' b' = - orI a b := by
  unfold orI; subst h h2
  by_cases h : a = 0
  · rw [if_pos h, if_pos (by omega)]
  · rw [if_neg h, if_neg (by omega)]
theorem orI_range {a b : Int} (h : a = -1 ∨ a = 0 ∨ a = 1) (h2 : b = -1 ∨ b = 0 ∨ b = 1) : orI a b = -1 ∨ orI a b = 0 ∨ orI a b = 1 := by
  unfold orI; split <;> assumption

theorem orderM_cmpL : ∀ a b : List UInt8, orderM a b = cmpL cmpB a b
  | [], [] => by simp [orderM, cmpL, Op.bytesLess]
  | [], _ :: _ => by simp [orderM, cmpL, Op.bytesLess]
  | _ :: _, [] => by simp [orderM, cmpL, Op.bytesLess]
  | x :: r, y :: t => by
    have ih := orderM_cmpL r t
    simp only [cmpL]
    rcases cmpI_cases x.toNat y.toNat with ⟨h, h2⟩ | ⟨h, h2⟩ | ⟨h, h2⟩
    · have hc : cmpB x y = -1 := h
      rw [hc]
      have : x < y := by rw [UInt8.lt_iff_toNat_lt]; omega
      simp [orderM, Op.bytesLess, this]
    · have hc : cmpB x y = 0 := h
      have e : x = y := UInt8.toNat_inj.1 (by omega)
      subst e
      rw [hc, ← ih]
      have : ¬ x < x := by rw [UInt8.lt_iff_toNat_lt]; omega
      simp [orderM, Op.bytesLess, this]
    · have hc : cmpB x y = 1 := h
      rw [hc]
      have n1 : ¬ x < y := by rw [UInt8.lt_iff_toNat_lt]; omega
      have n2 : ¬ x = y := by rintro rfl; omega
      simp [orderM, Op.bytesLess, n1, n2]
theorem cmpB_swap (a b : UInt8) : cmpB b a = - cmpB a b := cmpI_swap _ _
theorem cmpB_range (a b : UInt8) : cmpB a b = -1 ∨ cmpB a b = 0 ∨ cmpB a b = 1 := cmpI_range _ _
theorem cmpU_swap (a b : Nat) : cmpU b a = - cmpU a b := cmpI_swap _ _
theorem cmpU_range (a b : Nat) : cmpU a b = -1 ∨ cmpU a b = 0 ∨ cmpU a b = 1 := cmpI_range _ _
theorem orderM_swap (a b : List UInt8) : orderM b a = - orderM a b := by rw [orderM_cmpL, orderM_cmpL]; exact cmpL_swap cmpB_swap a b
theorem orderM_range (a b : List UInt8) : orderM a b = -1 ∨ orderM a b = 0 ∨ orderM a b = 1 := by rw [orderM_cmpL]; exact cmpL_range cmpB_range a b
theorem compareD_swap (a b : Dat) : compareD b a = - compareD a b :=
  orI_swap (cmpI_swap _ _) (orI_swap (cmpL_swap compareN_swap _ _) (orI_swap (cmpL_swap cmpU_swap _ _) (orI_swap (cmpL_swap orderM_swap _ _) (cmpL_swap cmpB_swap _ _))))
theorem compareD_range (a b : Dat) : compareD a b = -1 ∨ compareD a b = 0 ∨ compareD a b = 1 :=
  orI_range (cmpI_range _ _) (orI_range (cmpL_range compareN_range _ _) (orI_range (cmpL_range cmpU_range _ _) (orI_range (cmpL_range orderM_range _ _) (cmpL_range cmpB_range _ _))))

end Go.Proofs.Ytckammgnmgkieaa

/-
  Records: plain data, their order, rows in their own order.
-/
namespace Go.Proofs.Ytckammgnmgkieaa
set_option maxRecDepth 20000
open Go.RowKit Go.Shelf
open Stb (COrd)

theorem cord_orI {α : Type} {f g : α → α → Int} (hf : COrd f) (hg : COrd g) : COrd (fun a b => orI (f a b) (g a b)) := by
  refine ⟨fun x y => orI_swap (hf.anti x y) (hg.anti x y), fun x y z h1 h2 => ?_⟩
  have a1 := hf.anti x y; have a2 := hf.anti y z; have a3 := hf.anti x z
  have t1 := hf.trans x y z; have t2 := hf.trans y z x; have t3 := hf.trans z x y
  have u1 := hg.trans x y z
  unfold orI at *
  by_cases c1 : f x y = 0 <;> by_cases c2 : f y z = 0 <;> by_cases c3 : f x z = 0 <;> simp only [c1, c2, c3, if_true, if_false] at h1 h2 ⊢ <;> first | omega | exact u1 h1 h2
theorem cord_on {α β : Type} {f : β → β → Int} (hf : COrd f) (p : α → β) : COrd (fun a b => f (p a) (p b)) := ⟨fun _ _ => hf.anti _ _, fun _ _ _ => hf.trans _ _ _⟩
theorem cord_cmpI : COrd cmpI := ⟨cmpI_swap, fun a b c => by
  rcases cmpI_cases a b with ⟨h, h2⟩ | ⟨h, h2⟩ | ⟨h, h2⟩ <;> rcases cmpI_cases b c with ⟨g, g2⟩ | ⟨g, g2⟩ | ⟨g, g2⟩ <;> rcases cmpI_cases a c with ⟨k, k2⟩ | ⟨k, k2⟩ | ⟨k, k2⟩ <;> omega⟩
theorem cmpL_trans {α : Type} {f : α → α → Int} (hf : COrd f) : ∀ a b c : List α, cmpL f a b ≤ 0 → cmpL f b c ≤ 0 → cmpL f a c ≤ 0
  | [], [], _, _, h2 => h2
  | [], _ :: _, [], _, _ => by simp [cmpL]
  | [], _ :: _, _ :: _, _, _ => by simp [cmpL]
  | _ :: _, [], _, h1, _ => by simp [cmpL] at h1
  | _ :: _, _ :: _, [], _, h2 => by simp [cmpL] at h2
  | x :: r, y :: s, z :: t, h1, h2 => by
    have ih := cmpL_trans hf r s t
    have a1 := hf.anti x y; have a2 := hf.anti y z; have a3 := hf.anti x z
    have t1 := hf.trans x y z; have t2 := hf.trans y z x; have t3 := hf.trans z x y
    simp only [cmpL] at *
    by_cases c1 : f x y = 0 <;> by_cases c2 : f y z = 0 <;> by_cases c3 : f x z = 0 <;> simp only [c1, c2, c3, if_true, if_false] at h1 h2 ⊢ <;> first | omega | exact ih h1 h2
theorem cord_cmpL {α : Type} {f : α → α → Int} (hf : COrd f) : COrd (cmpL f) := ⟨fun x y => cmpL_swap hf.anti x y, cmpL_trans hf⟩
theorem cord_compareN : COrd compareN := ⟨compareN_swap, compareN_trans⟩
theorem cord_orderM : COrd orderM := by
  have e : orderM = cmpL cmpB := by funext a b; exact orderM_cmpL a b
  rw [e]
  exact cord_cmpL (cord_on cord_cmpI (fun b : UInt8 => (b.toNat : Int)))
theorem cord_compareD : COrd compareD :=
  cord_orI (cord_on cord_cmpI Dat.ty) (cord_orI (cord_on (cord_cmpL cord_compareN) Dat.names) (cord_orI (cord_on (cord_cmpL (cord_on cord_cmpI (fun n : Nat => (n : Int)))) Dat.nums) (cord_orI (cord_on (cord_cmpL cord_orderM) Dat.texts) (cord_on (cord_cmpL (cord_on cord_cmpI (fun b : UInt8 => (b.toNat : Int)))) Dat.raw))))

structure Rc where
  owner : Nm
  ttl : Nat
  data : Dat
def compareR (a b : Rc) : Int := orI (compareN a.owner b.owner) (compareD a.data b.data)
def sameR (a b : Rc) : Bool := compareR a b == 0
theorem cord_compareR : COrd compareR := cord_orI (cord_on cord_compareN Rc.owner) (cord_on cord_compareD Rc.data)
theorem compareR_range (a b : Rc) : compareR a b = -1 ∨ compareR a b = 0 ∨ compareR a b = 1 := orI_range (compareN_range _ _) (compareD_range _ _)
theorem compareR_self (a : Rc) : compareR a a = 0 := by have := cord_compareR.anti a a; omega

/-! A row in its own order, as the document makes it. -/
def minT (a b : Nat) : Nat := if b < a then b else a
def insR : List Rc → Rc → List Rc
  | [], x => [x]
  | y :: r, x => if compareR y x < 0 then y :: insR r x else if compareR y x = 0 then ⟨y.owner, minT y.ttl x.ttl, y.data⟩ :: r else x :: y :: r
def canonM (l : List Rc) : List Rc := l.foldl insR []

/-! .. and as the program makes it: sorted, run by run. -/
def insS : List Rc → Rc → List Rc
  | [], x => [x]
  | y :: r, x => if compareR y x ≤ 0 then y :: insS r x else x :: y :: r
def sortM (l : List Rc) : List Rc := l.foldl insS []
def leastM (t : Nat) (l : List Rc) : Nat := l.foldl (fun m x => minT m x.ttl) t
def grpM : Nat → List Rc → List Rc
  | 0, _ => []
  | _, [] => []
  | n + 1, y :: r => ⟨y.owner, leastM y.ttl (r.takeWhile (sameR y)), y.data⟩ :: grpM n (r.dropWhile (sameR y))
theorem grpM_more : ∀ (n m : Nat) (l : List Rc), l.length ≤ n → l.length ≤ m → grpM n l = grpM m l
  | 0, 0, l, _, _ => rfl
  | 0, m + 1, l, h, _ => by
    have : l = [] := List.eq_nil_of_length_eq_zero (by omega)
    subst this; rfl
  | n + 1, 0, l, _, h => by
    have : l = [] := List.eq_nil_of_length_eq_zero (by omega)
    subst this; rfl
  | n + 1, m + 1, [], _, _ => rfl
  | n + 1, m + 1, y :: r, h1, h2 => by
    have hl : (r.dropWhile (sameR y)).length ≤ r.length := (List.dropWhile_sublist _).length_le
    simp only [List.length_cons] at h1 h2
    simp only [grpM]
    rw [grpM_more n m _ (by omega) (by omega)]
def grp (l : List Rc) : List Rc := grpM l.length l
theorem grp_cons (y : Rc) (r : List Rc) : grp (y :: r) = ⟨y.owner, leastM y.ttl (r.takeWhile (sameR y)), y.data⟩ :: grp (r.dropWhile (sameR y)) := by
  have hl : (r.dropWhile (sameR y)).length ≤ r.length := (List.dropWhile_sublist _).length_le
  unfold grp
  simp only [List.length_cons, grpM]
  rw [grpM_more r.length _ _ hl (Nat.le_refl _)]
theorem grp_nil : grp [] = [] := rfl

def RisesR (l : List Rc) : Prop := l.Pairwise fun a b => compareR a b ≤ 0

theorem insS_eq {y x : Rc} (hyx : compareR y x = 0) : ∀ (E R : List Rc), (∀ e ∈ E, compareR y e = 0) → (∀ z ∈ R.head?, 0 < compareR z y) → insS (E ++ R) x = E ++ x :: R
  | [], R, _, h => by
    cases R with
    | nil => rfl
    | cons z R =>
      have hz : 0 < compareR z y := h z (by simp)
      have t := cord_compareR.trans z x y
      have a := cord_compareR.anti x y
      have : ¬ compareR z x ≤ 0 := by intro hh; have := t hh (by have := cord_compareR.anti y x; omega); omega
      simp [insS, this]
  | e :: E, R, h1, h2 => by
    have he : compareR y e = 0 := h1 e (by simp)
    have t := cord_compareR.trans e y x
    have a := cord_compareR.anti y e
    have : compareR e x ≤ 0 := t (by omega) (by omega)
    simp only [List.cons_append, insS, if_pos this]
    rw [insS_eq hyx E R (fun e h => h1 e (by simp [h])) h2]
theorem insS_lt {y x : Rc} (hyx : compareR y x < 0) : ∀ (E R : List Rc), (∀ e ∈ E, compareR y e = 0) → insS (E ++ R) x = E ++ insS R x
  | [], R, _ => rfl
  | e :: E, R, h1 => by
    have he : compareR y e = 0 := h1 e (by simp)
    have t := cord_compareR.trans e y x
    have a := cord_compareR.anti y e
    have : compareR e x ≤ 0 := t (by omega) (by omega)
    simp only [List.cons_append, insS, if_pos this]
    rw [insS_lt hyx E R (fun e h => h1 e (by simp [h]))]
theorem leastM_snoc (t : Nat) (E : List Rc) (x : Rc) : leastM t (E ++ [x]) = minT (leastM t E) x.ttl := by simp [leastM, List.foldl_append]
theorem takeWhile_app {p : Rc → Bool} : ∀ (E R : List Rc), (∀ e ∈ E, p e = true) → (∀ z ∈ R.head?, p z = false) → (E ++ R).takeWhile p = E ∧ (E ++ R).dropWhile p = R
  | [], [], _, _ => ⟨rfl, rfl⟩
  | [], z :: R, _, h => by
    have : p z = false := h z (by simp)
    simp [this]
  | e :: E, R, h1, h2 => by
    have he := h1 e (by simp)
    have ih := takeWhile_app E R (fun e h => h1 e (by simp [h])) h2
    simp only [List.cons_append, List.takeWhile_cons, List.dropWhile_cons, he, if_true]
    exact ⟨by rw [ih.1], ih.2⟩
theorem insS_mem {x : Rc} : ∀ (l : List Rc) (z : Rc), z ∈ insS l x → z = x ∨ z ∈ l
  | [], z, h => by simp [insS] at h; exact .inl h
  | y :: r, z, h => by
    simp only [insS] at h
    split at h
    · rcases List.mem_cons.1 h with rfl | h
      · simp
      · rcases insS_mem r z h with h | h <;> simp [h]
    · simp at h; rcases h with h | h | h <;> simp [h]
theorem insS_head {x : Rc} (l : List Rc) (z : Rc) (h : z ∈ (insS l x).head?) : z = x ∨ z ∈ l.head? := by
  cases l with
  | nil => simp [insS] at h; exact .inl h.symm
  | cons y r =>
    simp only [insS] at h
    split at h
    · right; simpa using h
    · left; simp at h; exact h.symm

theorem dropWhile_head (p : Rc → Bool) : ∀ (l : List Rc) (z : Rc), z ∈ (l.dropWhile p).head? → p z = false
  | [], z, h => by simp at h
  | y :: r, z, h => by
    rw [List.dropWhile_cons] at h
    split at h
    · exact dropWhile_head p r z h
    · rename_i hy
      simp at h; subst h; simpa using hy

/-- One record more, in its place. -/
theorem grp_insS (x : Rc) : ∀ (n : Nat) (l : List Rc), l.length ≤ n → RisesR l → grp (insS l x) = insR (grp l) x
  | _, [], _, _ => by simp [insS, grp_cons, grp_nil, insR, leastM]
  | 0, y :: r, h, _ => by simp at h
  | n + 1, y :: r, h, hR => by
    have hl : (r.dropWhile (sameR y)).length ≤ r.length := (List.dropWhile_sublist _).length_le
    have hp := List.takeWhile_append_dropWhile (p := sameR y) (l := r)
    have hE : ∀ e ∈ r.takeWhile (sameR y), compareR y e = 0 := fun e he => by
      have hh : ∀ (l : List Rc), e ∈ l.takeWhile (sameR y) → sameR y e = true := by
        intro l
        induction l with
        | nil => intro h; simp at h
        | cons a l ih =>
          intro h
          rw [List.takeWhile_cons] at h
          split at h
          · rename_i ha
            rcases List.mem_cons.1 h with rfl | h
            · exact ha
            · exact ih h
          · simp at h
      have := hh r he
      simpa [sameR] using this
    have hH : ∀ z ∈ (r.dropWhile (sameR y)).head?, 0 < compareR z y := fun z hz => by
      have h1 := dropWhile_head (sameR y) r z hz
      have h2 : z ∈ r := (List.dropWhile_sublist _).mem (List.mem_of_mem_head? hz)
      have h3 : compareR y z ≤ 0 := (List.pairwise_cons.1 hR).1 z h2
      have := cord_compareR.anti y z
      simp [sameR] at h1
      omega
    have hRR : RisesR (r.dropWhile (sameR y)) := List.Pairwise.sublist (List.dropWhile_sublist _) (List.pairwise_cons.1 hR).2
    simp only [List.length_cons] at h
    generalize hEE : r.takeWhile (sameR y) = E at *
    generalize hDD : r.dropWhile (sameR y) = R at *
    have hEs : ∀ e ∈ E, sameR y e = true := fun e he => by simp [sameR, hE e he]
    rw [grp_cons, hEE, hDD]
    have hcy : ∀ t, compareR ⟨y.owner, t, y.data⟩ x = compareR y x := fun t => rfl
    simp only [insR, hcy]
    by_cases c : compareR y x < 0
    · rw [if_pos c]
      have e1 : insS (y :: r) x = y :: (E ++ insS R x) := by
        simp only [insS, if_pos (show compareR y x ≤ 0 by omega)]
        rw [← hp, insS_lt c E R hE]
      rw [e1, grp_cons]
      have hh : ∀ z ∈ (insS R x).head?, sameR y z = false := fun z hz => by
        rcases insS_head R z hz with rfl | hz
        · simp [sameR]; omega
        · have := hH z hz
          have := cord_compareR.anti y z
          simp [sameR]; omega
      obtain ⟨t1, t2⟩ := takeWhile_app E (insS R x) hEs hh
      rw [t1, t2, grp_insS x n R (by omega) hRR]
    · rw [if_neg c]
      by_cases c0 : compareR y x = 0
      · rw [if_pos c0]
        have e1 : insS (y :: r) x = y :: (E ++ [x] ++ R) := by
          simp only [insS, if_pos (show compareR y x ≤ 0 by omega)]
          rw [← hp, insS_eq c0 E R hE hH]; simp
        rw [e1, grp_cons]
        have hh : ∀ z ∈ R.head?, sameR y z = false := fun z hz => by
          have := hH z hz
          have := cord_compareR.anti y z
          simp [sameR]; omega
        obtain ⟨t1, t2⟩ := takeWhile_app (E ++ [x]) R (fun e he => by
          rcases List.mem_append.1 he with he | he
          · exact hEs e he
          · simp at he; subst he; simp [sameR, c0]) hh
        rw [t1, t2, leastM_snoc]
      · rw [if_neg c0]
        have e1 : insS (y :: r) x = x :: y :: r := by simp only [insS, if_neg (show ¬ compareR y x ≤ 0 by omega)]
        rw [e1, grp_cons]
        have hne : sameR x y = false := by
          have := cord_compareR.anti x y
          simp [sameR]; omega
        simp only [List.takeWhile_cons, List.dropWhile_cons, hne, Bool.false_eq_true, if_false]
        rw [grp_cons, hEE, hDD]
        rfl

theorem insS_rises {x : Rc} : ∀ (l : List Rc), RisesR l → RisesR (insS l x)
  | [], _ => by simp [insS, RisesR]
  | y :: r, h => by
    have h1 := List.pairwise_cons.1 h
    simp only [insS]
    split
    · rename_i c
      refine List.pairwise_cons.2 ⟨fun z hz => ?_, insS_rises r h1.2⟩
      rcases insS_mem r z hz with rfl | hz
      · exact c
      · exact h1.1 z hz
    · rename_i c
      have hxy : compareR x y ≤ 0 := by have := cord_compareR.anti x y; omega
      refine List.pairwise_cons.2 ⟨fun z hz => ?_, h⟩
      rcases List.mem_cons.1 hz with rfl | hz
      · exact hxy
      · exact cord_compareR.trans _ _ _ hxy (h1.1 z hz)
theorem sortM_rises (l : List Rc) : RisesR (sortM l) := by
  unfold sortM
  suffices ∀ (l a : List Rc), RisesR a → RisesR (l.foldl insS a) from this l [] List.Pairwise.nil
  intro l
  induction l with
  | nil => intro a h; exact h
  | cons x l ih => intro a h; exact ih _ (insS_rises a h)
/-- Sorted, run by run: the document's row. -/
theorem grp_sortM (l : List Rc) : grp (sortM l) = canonM l := by
  unfold sortM canonM
  suffices ∀ (l a b : List Rc), RisesR a → grp a = b → grp (l.foldl insS a) = l.foldl insR b from this l [] [] List.Pairwise.nil rfl
  intro l
  induction l with
  | nil => intro a b _ h; exact h
  | cons x l ih =>
    intro a b h hb
    exact ih _ _ (insS_rises a h) (by rw [grp_insS x a.length a (Nat.le_refl _) h, hb])
end Go.Proofs.Ytckammgnmgkieaa

/-
  Rows in their own order: what they are, and that there is but one.
-/
namespace Go.Proofs.Ytckammgnmgkieaa
set_option maxRecDepth 20000
open Go.RowKit Go.Shelf
open Stb (COrd)

def StrictR (l : List Rc) : Prop := l.Pairwise fun a b => compareR a b < 0
structure CanOf (l c : List Rc) : Prop where
  up : StrictR c
  has : ∀ x ∈ l, ∃ y ∈ c, compareR y x = 0 ∧ y.ttl ≤ x.ttl
  of : ∀ y ∈ c, ∃ x ∈ l, compareR x y = 0 ∧ x.ttl = y.ttl

theorem cR_anti (x y : Rc) : compareR y x = - compareR x y := cord_compareR.anti x y
theorem cR_trans {x y z : Rc} (h1 : compareR x y ≤ 0) (h2 : compareR y z ≤ 0) : compareR x z ≤ 0 := cord_compareR.trans x y z h1 h2
theorem cR_lt_le {x y z : Rc} (h1 : compareR x y < 0) (h2 : compareR y z ≤ 0) : compareR x z < 0 := by
  have a := cR_anti x z; have b := cR_anti x y
  have t := cord_compareR.trans y z x h2
  have := cord_compareR.trans x y z (by omega) h2
  by_cases c : compareR x z < 0
  · exact c
  · have := t (by omega); omega
theorem cR_le_lt {x y z : Rc} (h1 : compareR x y ≤ 0) (h2 : compareR y z < 0) : compareR x z < 0 := by
  have a := cR_anti x z; have b := cR_anti y z
  have t := cord_compareR.trans z x y
  have := cord_compareR.trans x y z h1 (by omega)
  by_cases c : compareR x z < 0
  · exact c
  · have := t (by omega) h1; omega
theorem cR_eq {x y z : Rc} (h1 : compareR x y = 0) (h2 : compareR y z = 0) : compareR x z = 0 := by
  have a := cR_anti x z; have b := cR_anti y z; have c := cR_anti x y
  have t1 := cord_compareR.trans x y z (by omega) (by omega)
  have t2 := cord_compareR.trans z y x (by omega) (by omega)
  omega
theorem cR_sym {x y : Rc} (h : compareR x y = 0) : compareR y x = 0 := by have := cR_anti x y; omega
theorem minT_le (a b : Nat) : minT a b ≤ a ∧ minT a b ≤ b ∧ (minT a b = a ∨ minT a b = b) := by
  unfold minT; split <;> omega

theorem insR_lt {x : Rc} : ∀ (l : List Rc), StrictR l → ∀ z, compareR z x < 0 → (∀ y ∈ l, compareR z y < 0) → ∀ y ∈ insR l x, compareR z y < 0
  | [], _, z, h, _, y, hy => by simp [insR] at hy; subst hy; exact h
  | a :: r, hs, z, h, h2, y, hy => by
    have p := List.pairwise_cons.1 hs
    simp only [insR] at hy
    split at hy
    · rcases List.mem_cons.1 hy with rfl | hy
      · exact h2 y (by simp)
      · exact insR_lt r p.2 z h (fun y hy => h2 y (by simp [hy])) y hy
    · split at hy
      · rcases List.mem_cons.1 hy with rfl | hy
        · exact h2 a (by simp)
        · exact h2 y (by simp [hy])
      · rcases List.mem_cons.1 hy with rfl | hy
        · exact h
        · exact h2 y hy
theorem insR_strict (x : Rc) : ∀ (l : List Rc), StrictR l → StrictR (insR l x)
  | [], _ => by simp [insR, StrictR]
  | a :: r, hs => by
    have p := List.pairwise_cons.1 hs
    simp only [insR]
    split
    · rename_i c
      exact List.pairwise_cons.2 ⟨insR_lt r p.2 a c p.1, insR_strict x r p.2⟩
    · rename_i c
      split
      · exact List.pairwise_cons.2 ⟨fun y hy => p.1 y hy, p.2⟩
      · rename_i c2
        have hx : compareR x a < 0 := by have := cR_anti x a; omega
        refine List.pairwise_cons.2 ⟨fun y hy => ?_, hs⟩
        rcases List.mem_cons.1 hy with rfl | hy
        · exact hx
        · exact cR_lt_le hx (by have := p.1 y hy; omega)
/-- x itself is in it; what was in it is. -/
theorem insR_has (x : Rc) : ∀ (l : List Rc), (∃ y ∈ insR l x, compareR y x = 0 ∧ y.ttl ≤ x.ttl) ∧ ∀ a ∈ l, ∃ y ∈ insR l x, compareR y a = 0 ∧ y.ttl ≤ a.ttl
  | [] => ⟨⟨x, by simp [insR], compareR_self x, Nat.le_refl _⟩, by simp⟩
  | a :: r => by
    obtain ⟨⟨y, hy, h1⟩, h2⟩ := insR_has x r
    simp only [insR]
    split
    · refine ⟨⟨y, by simp [hy], h1⟩, fun b hb => ?_⟩
      rcases List.mem_cons.1 hb with rfl | hb
      · exact ⟨b, by simp, compareR_self b, Nat.le_refl _⟩
      · obtain ⟨z, hz, h⟩ := h2 b hb
        exact ⟨z, by simp [hz], h⟩
    · have m := minT_le a.ttl x.ttl
      split
      · rename_i c
        refine ⟨⟨_, List.mem_cons_self .., c, m.2.1⟩, fun b hb => ?_⟩
        rcases List.mem_cons.1 hb with rfl | hb
        · exact ⟨_, List.mem_cons_self .., compareR_self b, m.1⟩
        · exact ⟨b, by simp [hb], compareR_self b, Nat.le_refl _⟩
      · exact ⟨⟨x, by simp, compareR_self x, Nat.le_refl _⟩, fun b hb => ⟨b, by simp only [List.mem_cons] at hb ⊢; exact Or.inr hb, compareR_self b, Nat.le_refl _⟩⟩
theorem insR_of (x : Rc) : ∀ (l : List Rc), ∀ y ∈ insR l x, ∃ a, (a = x ∨ a ∈ l) ∧ compareR a y = 0 ∧ a.ttl = y.ttl
  | [], y, hy => by simp [insR] at hy; subst hy; exact ⟨y, .inl rfl, compareR_self y, rfl⟩
  | a :: r, y, hy => by
    simp only [insR] at hy
    split at hy
    · rcases List.mem_cons.1 hy with rfl | hy
      · exact ⟨y, .inr (by simp), compareR_self y, rfl⟩
      · obtain ⟨b, hb, h⟩ := insR_of x r y hy
        exact ⟨b, hb.imp id (fun h => by simp [h]), h⟩
    · split at hy
      · rename_i c
        rcases List.mem_cons.1 hy with rfl | hy
        · rcases (minT_le a.ttl x.ttl).2.2 with e | e
          · exact ⟨a, .inr (by simp), compareR_self a, e.symm⟩
          · exact ⟨x, .inl rfl, cR_sym c, e.symm⟩
        · exact ⟨y, .inr (by simp [hy]), compareR_self y, rfl⟩
      · simp only [List.mem_cons] at hy
        exact ⟨y, hy.imp id (fun h => by simpa using h), compareR_self y, rfl⟩
theorem insR_length (x : Rc) : ∀ (l : List Rc), (insR l x).length ≤ l.length + 1 ∧ l.length ≤ (insR l x).length
  | [] => by simp [insR]
  | a :: r => by
    have := insR_length x r
    simp only [insR]
    repeat' split
    all_goals simp only [List.length_cons]; omega
theorem CanOf.step {l c : List Rc} (h : CanOf l c) (x : Rc) : CanOf (l ++ [x]) (insR c x) := by
  refine ⟨insR_strict x c h.up, fun a ha => ?_, fun y hy => ?_⟩
  · rcases List.mem_append.1 ha with ha | ha
    · obtain ⟨y, hy, h1, h2⟩ := h.has a ha
      obtain ⟨z, hz, g1, g2⟩ := (insR_has x c).2 y hy
      exact ⟨z, hz, cR_eq g1 h1, Nat.le_trans g2 h2⟩
    · simp at ha; subst ha
      exact (insR_has a c).1
  · obtain ⟨a, ha, h1, h2⟩ := insR_of x c y hy
    rcases ha with rfl | ha
    · exact ⟨a, by simp, h1, h2⟩
    · obtain ⟨b, hb, g1, g2⟩ := h.of a ha
      exact ⟨b, by simp [hb], cR_eq g1 h1, by omega⟩
theorem canonM_snoc (l : List Rc) (x : Rc) : canonM (l ++ [x]) = insR (canonM l) x := by simp [canonM, List.foldl_append]
theorem list_snoc_ind {α : Type} {P : List α → Prop} (h0 : P []) (hs : ∀ l x, P l → P (l ++ [x])) (l : List α) : P l := by
  have : ∀ l : List α, P l.reverse := by
    intro l
    induction l with
    | nil => exact h0
    | cons x l ih => rw [List.reverse_cons]; exact hs _ _ ih
  have := this l.reverse
  rwa [List.reverse_reverse] at this
theorem canonM_can (l : List Rc) : CanOf l (canonM l) :=
  list_snoc_ind (P := fun l => CanOf l (canonM l)) ⟨List.Pairwise.nil, by simp, by simp [canonM]⟩ (fun l x h => by rw [canonM_snoc]; exact h.step x) l
theorem canonM_length (l : List Rc) : (canonM l).length ≤ l.length :=
  list_snoc_ind (P := fun l => (canonM l).length ≤ l.length) (by simp [canonM]) (fun l x h => by rw [canonM_snoc]; have := insR_length x (canonM l); simp; omega) l

/-- Whoever stands last is put last. -/
theorem insR_last (x : Rc) : ∀ (l : List Rc), (∀ y ∈ l, compareR y x < 0) → insR l x = l ++ [x]
  | [], _ => rfl
  | a :: r, h => by
    simp only [insR, if_pos (h a (by simp))]
    rw [insR_last x r (fun y hy => h y (by simp [hy]))]
    rfl
theorem canonM_strict (l : List Rc) : StrictR l → canonM l = l :=
  list_snoc_ind (P := fun l => StrictR l → canonM l = l) (fun _ => rfl) (fun l x ih h => by
    have h' := List.pairwise_append.1 h
    rw [canonM_snoc, ih h'.1, insR_last x l (fun y hy => h'.2.2 y hy x (by simp))]) l
theorem canonM_again (l : List Rc) : canonM (canonM l) = canonM l := canonM_strict _ (canonM_can l).up

/-! Rows that are alike. -/
def sameRowM : List Rc → List Rc → Bool
  | [], [] => true
  | a :: l, b :: m => (decide (a.ttl = b.ttl) && sameR a b) && sameRowM l m
  | _, _ => false
theorem sameRowM_refl : ∀ l, sameRowM l l = true
  | [] => rfl
  | a :: l => by simp [sameRowM, sameR, compareR_self, sameRowM_refl l]
def Pair1 (c d : List Rc) : Prop := ∀ y ∈ c, ∃ z ∈ d, compareR z y = 0 ∧ z.ttl = y.ttl
theorem sameRowM_of : ∀ (c d : List Rc), StrictR c → StrictR d → Pair1 c d → Pair1 d c → sameRowM c d = true
  | [], [], _, _, _, _ => rfl
  | [], b :: d, _, _, _, h => by obtain ⟨z, hz, _⟩ := h b (by simp); cases hz
  | a :: c, [], _, _, h, _ => by obtain ⟨z, hz, _⟩ := h a (by simp); cases hz
  | a :: c, b :: d, h1, h2, p1, p2 => by
    have q1 := List.pairwise_cons.1 h1
    have q2 := List.pairwise_cons.1 h2
    have hab : compareR b a = 0 ∧ b.ttl = a.ttl := by
      obtain ⟨z, hz, g1, g2⟩ := p1 a (by simp)
      rcases List.mem_cons.1 hz with rfl | hz
      · exact ⟨g1, g2⟩
      · exfalso
        obtain ⟨w, hw, k1, k2⟩ := p2 b (by simp)
        have hbz := q2.1 z hz
        have hba : compareR b a < 0 := cR_lt_le hbz (by omega)
        rcases List.mem_cons.1 hw with rfl | hw
        · have := cR_anti b w; omega
        · have haw := q1.1 w hw
          have : compareR a b < 0 := cR_lt_le haw (by omega)
          have := cR_anti a b; omega
    have t1 : Pair1 c d := fun y hy => by
      obtain ⟨z, hz, g1, g2⟩ := p1 y (by simp [hy])
      rcases List.mem_cons.1 hz with rfl | hz
      · exfalso
        have := q1.1 y hy
        have h3 : compareR z y < 0 := cR_le_lt (by omega) this
        omega
      · exact ⟨z, hz, g1, g2⟩
    have t2 : Pair1 d c := fun y hy => by
      obtain ⟨z, hz, g1, g2⟩ := p2 y (by simp [hy])
      rcases List.mem_cons.1 hz with rfl | hz
      · exfalso
        have := q2.1 y hy
        have h3 : compareR z y < 0 := cR_le_lt (by have := cR_sym hab.1; omega) this
        omega
      · exact ⟨z, hz, g1, g2⟩
    simp only [sameRowM, Bool.and_eq_true, decide_eq_true_eq]
    exact ⟨⟨hab.2.symm, by simp [sameR, cR_sym hab.1]⟩, sameRowM_of c d q1.2 q2.2 t1 t2⟩
/-- Of each that the one has the other has one that is alike, whose TTL is no more. -/
def Covers (l m : List Rc) : Prop := ∀ x ∈ m, ∃ y ∈ l, compareR y x = 0 ∧ y.ttl ≤ x.ttl
theorem StrictR.one {c : List Rc} : StrictR c → ∀ {y z : Rc}, y ∈ c → z ∈ c → compareR y z = 0 → y = z := by
  intro h
  induction c with
  | nil => intro y z hy; cases hy
  | cons a c ih =>
    intro y z hy hz hc
    have p := List.pairwise_cons.1 h
    rcases List.mem_cons.1 hy with ey | hy'
    · rcases List.mem_cons.1 hz with ez | hz'
      · rw [ey, ez]
      · have := p.1 z hz'; rw [ey] at hc; omega
    · rcases List.mem_cons.1 hz with ez | hz'
      · have := p.1 y hy'; have := cR_anti y z; rw [ez] at hc this; omega
      · exact ih p.2 hy' hz' hc
theorem CanOf.alike {l m c d : List Rc} (h : CanOf l c) (g : CanOf m d) (h1 : Covers l m) (h2 : Covers m l) : sameRowM c d = true := by
  have key : ∀ {l m c d : List Rc}, CanOf l c → CanOf m d → Covers l m → Covers m l → Pair1 c d := by
    intro l m c d h g h1 h2 y hy
    obtain ⟨x, hx, e1, e2⟩ := h.of y hy
    obtain ⟨x', hx', e3, e4⟩ := h2 x hx
    obtain ⟨z, hz, e5, e6⟩ := g.has x' hx'
    have hzy : compareR z y = 0 := cR_eq e5 (cR_eq e3 e1)
    refine ⟨z, hz, hzy, ?_⟩
    obtain ⟨w, hw, f1, f2⟩ := g.of z hz
    obtain ⟨w', hw', f3, f4⟩ := h1 w hw
    obtain ⟨y', hy', f5, f6⟩ := h.has w' hw'
    have : y' = y := h.up.one hy' hy (cR_eq f5 (cR_eq f3 (cR_eq f1 hzy)))
    subst this
    omega
  exact sameRowM_of c d h.up g.up (key h g h1 h2) (key g h h2 h1)
theorem Covers.of_sub {l m : List Rc} (h : ∀ x ∈ m, x ∈ l) : Covers l m := fun x hx => ⟨x, h x hx, compareR_self x, Nat.le_refl _⟩
theorem Covers.app {l l' m m' : List Rc} (h : Covers l m) (g : Covers l' m') : Covers (l ++ l') (m ++ m') := fun x hx => by
  rcases List.mem_append.1 hx with hx | hx
  · obtain ⟨y, hy, h⟩ := h x hx; exact ⟨y, by simp [hy], h⟩
  · obtain ⟨y, hy, h⟩ := g x hx; exact ⟨y, by simp [hy], h⟩
theorem covers_canon (l : List Rc) : Covers (canonM l) l := (canonM_can l).has
theorem canon_covers (l : List Rc) : Covers l (canonM l) := fun y hy => by
  obtain ⟨x, hx, e1, e2⟩ := (canonM_can l).of y hy
  exact ⟨x, hx, e1, by omega⟩
theorem canon_turned (l m : List Rc) (h : ∀ x, x ∈ l ↔ x ∈ m) : sameRowM (canonM l) (canonM m) = true :=
  (canonM_can l).alike (canonM_can m) (.of_sub fun x hx => (h x).2 hx) (.of_sub fun x hx => (h x).1 hx)
theorem canon_merge (a b : List Rc) : sameRowM (canonM (a ++ b)) (canonM (canonM a ++ canonM b)) = true :=
  (canonM_can _).alike (canonM_can _) ((canon_covers a).app (canon_covers b)) ((covers_canon a).app (covers_canon b))
end Go.Proofs.Ytckammgnmgkieaa

/-
  A row cut into runs of records that are the same: plain facts.
-/
namespace Go.Proofs.Ytckammgnmgkieaa
set_option maxRecDepth 20000
open Go.RowKit Go.Shelf
set_option linter.unusedVariables false

/-- Where the run that begins at s ends. -/
def nxtM (rs : List Rc) (s : Nat) : Nat := match rs.drop s with
  | [] => s + 1
  | y :: r => s + 1 + (r.takeWhile (sameR y)).length
def segsF : Nat → Nat → List Rc → List (Nat × Nat)
  | 0, _, _ => []
  | f + 1, s, rs => if s < rs.length then (s, nxtM rs s) :: segsF f (nxtM rs s) rs else []
def segs (rs : List Rc) : List (Nat × Nat) := segsF rs.length 0 rs
theorem takeWhile_len {p : Rc → Bool} : ∀ (l : List Rc), (l.takeWhile p).length ≤ l.length ∧ (∀ j (hj : j < (l.takeWhile p).length) (h : j < l.length), p l[j] = true) ∧ (∀ h : (l.takeWhile p).length < l.length, p l[(l.takeWhile p).length] = false)
  | [] => ⟨Nat.le_refl _, fun j hj => by simp at hj, fun h => by simp at h⟩
  | x :: r => by
    obtain ⟨h1, h2, h3⟩ := takeWhile_len (p := p) r
    by_cases hx : p x = true
    · have e : (x :: r).takeWhile p = x :: r.takeWhile p := by rw [List.takeWhile_cons, if_pos hx]
      simp only [e, List.length_cons]
      refine ⟨by omega, fun j hj h => ?_, fun h => ?_⟩
      · cases j with
        | zero => exact hx
        | succ j => exact h2 j (by omega) (by omega)
      · exact h3 (by omega)
    · have hx' : p x = false := by simpa using hx
      have e : (x :: r).takeWhile p = [] := by rw [List.takeWhile_cons, if_neg hx]
      simp only [e, List.length_nil, List.length_cons]
      exact ⟨by omega, fun j hj => by omega, fun h => hx'⟩
theorem nxtM_at {rs : List Rc} {s : Nat} (hs : s < rs.length) : nxtM rs s = s + 1 + ((rs.drop (s + 1)).takeWhile (sameR rs[s])).length := by
  unfold nxtM
  rw [List.drop_eq_getElem_cons hs]
theorem nxtM_lt {rs : List Rc} {s : Nat} (hs : s < rs.length) : s < nxtM rs s ∧ nxtM rs s ≤ rs.length := by
  rw [nxtM_at hs]
  have := (takeWhile_len (p := sameR rs[s]) (rs.drop (s + 1))).1
  rw [List.length_drop] at this
  omega
/-- One more that is the same. -/
theorem nxtM_more {rs : List Rc} {s e : Nat} (hs : s < rs.length) (h1 : s + 1 ≤ e) (h2 : e ≤ nxtM rs s) (he : e < rs.length) (hsame : sameR rs[s] rs[e] = true) : e + 1 ≤ nxtM rs s := by
  rw [nxtM_at hs] at h2 ⊢
  obtain ⟨t1, t2, t3⟩ := takeWhile_len (p := sameR rs[s]) (rs.drop (s + 1))
  rcases Nat.lt_or_ge e (s + 1 + ((rs.drop (s + 1)).takeWhile (sameR rs[s])).length) with h | h
  · omega
  · exfalso
    obtain ⟨j, rfl⟩ : ∃ j, e = s + 1 + j := ⟨e - (s + 1), by omega⟩
    have e1 : ((rs.drop (s + 1)).takeWhile (sameR rs[s])).length = j := by omega
    have := t3 (by rw [List.length_drop]; omega)
    simp only [e1, List.getElem_drop] at this
    rw [hsame] at this; cases this
/-- .. and no more. -/
theorem nxtM_stop {rs : List Rc} {s e : Nat} (hs : s < rs.length) (h1 : s + 1 ≤ e) (h2 : e ≤ nxtM rs s) (h : e = rs.length ∨ ∃ he : e < rs.length, sameR rs[s] rs[e] = false) : e = nxtM rs s := by
  have hn := nxtM_lt hs
  rcases h with h | ⟨he, h⟩
  · omega
  · rcases Nat.lt_or_ge e (nxtM rs s) with h3 | h3
    · exfalso
      rw [nxtM_at hs] at h3
      obtain ⟨t1, t2, t3⟩ := takeWhile_len (p := sameR rs[s]) (rs.drop (s + 1))
      obtain ⟨j, rfl⟩ : ∃ j, e = s + 1 + j := ⟨e - (s + 1), by omega⟩
      have := t2 j (by omega) (by rw [List.length_drop]; omega)
      simp only [List.getElem_drop] at this
      rw [h] at this; cases this
    · omega
theorem segsF_more (rs : List Rc) : ∀ (f s : Nat), rs.length - s ≤ f → segsF f s rs = segsF (rs.length - s) s rs
  | 0, s, h => by rw [show rs.length - s = 0 by omega]
  | f + 1, s, h => by
    by_cases hs : s < rs.length
    · have hn := nxtM_lt hs
      obtain ⟨m, hm⟩ : ∃ m, rs.length - s = m + 1 := ⟨rs.length - s - 1, by omega⟩
      rw [hm]
      simp only [segsF, if_pos hs]
      rw [segsF_more rs f (nxtM rs s) (by omega), segsF_more rs m (nxtM rs s) (by omega)]
    · rw [show rs.length - s = 0 by omega]
      simp only [segsF, if_neg hs]
/-- What is left to come from s on. -/
def leftM (rs : List Rc) (s : Nat) : List (Nat × Nat) := segsF (rs.length - s) s rs
theorem leftM_zero (rs : List Rc) : leftM rs 0 = segs rs := rfl
theorem leftM_end (rs : List Rc) {s : Nat} (h : rs.length ≤ s) : leftM rs s = [] := by unfold leftM; rw [show rs.length - s = 0 by omega]; rfl
theorem leftM_step {rs : List Rc} {s : Nat} (hs : s < rs.length) : leftM rs s = (s, nxtM rs s) :: leftM rs (nxtM rs s) := by
  have hn := nxtM_lt hs
  obtain ⟨m, hm⟩ : ∃ m, rs.length - s = m + 1 := ⟨rs.length - s - 1, by omega⟩
  unfold leftM
  rw [hm]
  simp only [segsF, if_pos hs]
  rw [segsF_more rs m (nxtM rs s) (by omega)]
/-- A run's record. -/
def runR (rs : List Rc) (x : Nat × Nat) : Rc := match rs.drop x.1 with
  | [] => Rc.mk [] 0 ⟨0, [], [], [], []⟩
  | y :: r => ⟨y.owner, leastM y.ttl (r.take (x.2 - x.1 - 1)), y.data⟩
theorem takeWhile_take (p : Rc → Bool) : ∀ l : List Rc, l.take (l.takeWhile p).length = l.takeWhile p ∧ l.drop (l.takeWhile p).length = l.dropWhile p
  | [] => ⟨rfl, rfl⟩
  | x :: r => by
    have ih := takeWhile_take p r
    by_cases hx : p x = true
    · simp only [List.takeWhile_cons, List.dropWhile_cons, hx, if_true, List.length_cons, List.take_succ_cons, List.drop_succ_cons, ih.1, ih.2]
      exact ⟨trivial, trivial⟩
    · simp only [List.takeWhile_cons, List.dropWhile_cons, hx, Bool.false_eq_true, if_false, List.length_nil, List.take_zero, List.drop_zero]
      exact ⟨trivial, trivial⟩
theorem leftM_grp (rs : List Rc) : ∀ (n s : Nat), rs.length - s ≤ n → (leftM rs s).map (runR rs) = grp (rs.drop s)
  | n, s, h => by
    by_cases hs : s < rs.length
    · have hn := nxtM_lt hs
      have e1 := nxtM_at hs
      obtain ⟨t1, t2⟩ := takeWhile_take (sameR rs[s]) (rs.drop (s + 1))
      rw [leftM_step hs, List.map_cons, List.drop_eq_getElem_cons hs, grp_cons]
      have ed : (rs.drop (s + 1)).dropWhile (sameR rs[s]) = rs.drop (nxtM rs s) := by rw [← t2, List.drop_drop, e1]
      have er : runR rs (s, nxtM rs s) = ⟨rs[s].owner, leastM rs[s].ttl ((rs.drop (s + 1)).takeWhile (sameR rs[s])), rs[s].data⟩ := by
        unfold runR
        simp only [List.drop_eq_getElem_cons hs]
        rw [← t1, show nxtM rs s - s - 1 = ((rs.drop (s + 1)).takeWhile (sameR rs[s])).length by omega]
      rw [er, ed]
      cases n with
      | zero => omega
      | succ n => rw [leftM_grp rs n (nxtM rs s) (by omega)]
    · rw [leftM_end rs (by omega), List.drop_of_length_le (by omega)]
      rfl
theorem segs_grp (rs : List Rc) : (segs rs).map (runR rs) = grp rs := by rw [← leftM_zero, leftM_grp rs rs.length 0 (by omega)]; rfl
end Go.Proofs.Ytckammgnmgkieaa

/-
  A row of records cut into sets: plain facts. (The runs' facts are XRunP's, with another word for 'alike'.)
-/
namespace Go.Proofs.Ytckammgnmgkieaa
set_option maxRecDepth 20000
open Go.RowKit Go.Shelf
set_option linter.unusedVariables false

structure St where
  owner : Nm
  ty : Int
  ttl : Nat
  data : List Dat
/-- Does r belong to the set that begins with y? -/
def belM (o : Nm) (t : Int) (r : Rc) : Bool := decide (r.data.ty = t) && sameN r.owner o
def belR (y r : Rc) : Bool := belM y.owner y.data.ty r
theorem belR_refl (y : Rc) : belR y y = true := by simp [belR, belM, sameN_refl]
/-- A run's set. -/
def stR (y : Rc) (r : List Rc) : St := ⟨y.owner, y.data.ty, leastM y.ttl r, y.data :: r.map Rc.data⟩
def setsF : Nat → List Rc → List St
  | 0, _ => []
  | _, [] => []
  | n + 1, y :: r => stR y (r.takeWhile (belR y)) :: setsF n (r.dropWhile (belR y))
theorem setsF_more : ∀ (n m : Nat) (l : List Rc), l.length ≤ n → l.length ≤ m → setsF n l = setsF m l
  | 0, 0, l, _, _ => rfl
  | 0, m + 1, l, h, _ => by
    have : l = [] := List.eq_nil_of_length_eq_zero (by omega)
    subst this; rfl
  | n + 1, 0, l, _, h => by
    have : l = [] := List.eq_nil_of_length_eq_zero (by omega)
    subst this; rfl
  | n + 1, m + 1, [], _, _ => rfl
  | n + 1, m + 1, y :: r, h1, h2 => by
    have hl : (r.dropWhile (belR y)).length ≤ r.length := (List.dropWhile_sublist _).length_le
    simp only [List.length_cons] at h1 h2
    simp only [setsF]
    rw [setsF_more n m _ (by omega) (by omega)]
/-- The sets of a row in order. -/
def setsM (l : List Rc) : List St := setsF l.length l
theorem setsM_cons (y : Rc) (r : List Rc) : setsM (y :: r) = stR y (r.takeWhile (belR y)) :: setsM (r.dropWhile (belR y)) := by
  have hl : (r.dropWhile (belR y)).length ≤ r.length := (List.dropWhile_sublist _).length_le
  unfold setsM
  simp only [List.length_cons, setsF]
  rw [setsF_more r.length _ _ hl (Nat.le_refl _)]
theorem setsM_nil : setsM [] = [] := rfl

/-- Where the run that begins at s ends. -/
def nxtS (rs : List Rc) (s : Nat) : Nat := match rs.drop s with
  | [] => s + 1
  | y :: r => s + 1 + (r.takeWhile (belR y)).length
def segsH : Nat → Nat → List Rc → List (Nat × Nat)
  | 0, _, _ => []
  | f + 1, s, rs => if s < rs.length then (s, nxtS rs s) :: segsH f (nxtS rs s) rs else []
def segsS (rs : List Rc) : List (Nat × Nat) := segsH rs.length 0 rs
theorem nxtS_at {rs : List Rc} {s : Nat} (hs : s < rs.length) : nxtS rs s = s + 1 + ((rs.drop (s + 1)).takeWhile (belR rs[s])).length := by
  unfold nxtS
  rw [List.drop_eq_getElem_cons hs]
theorem nxtS_lt {rs : List Rc} {s : Nat} (hs : s < rs.length) : s < nxtS rs s ∧ nxtS rs s ≤ rs.length := by
  rw [nxtS_at hs]
  have := (takeWhile_len (p := belR rs[s]) (rs.drop (s + 1))).1
  rw [List.length_drop] at this
  omega
/-- One more that is the same. -/
theorem nxtS_more {rs : List Rc} {s e : Nat} (hs : s < rs.length) (h1 : s + 1 ≤ e) (h2 : e ≤ nxtS rs s) (he : e < rs.length) (hsame : belR rs[s] rs[e] = true) : e + 1 ≤ nxtS rs s := by
  rw [nxtS_at hs] at h2 ⊢
  obtain ⟨t1, t2, t3⟩ := takeWhile_len (p := belR rs[s]) (rs.drop (s + 1))
  rcases Nat.lt_or_ge e (s + 1 + ((rs.drop (s + 1)).takeWhile (belR rs[s])).length) with h | h
  · omega
  · exfalso
    obtain ⟨j, rfl⟩ : ∃ j, e = s + 1 + j := ⟨e - (s + 1), by omega⟩
    have e1 : ((rs.drop (s + 1)).takeWhile (belR rs[s])).length = j := by omega
    have := t3 (by rw [List.length_drop]; omega)
    simp only [e1, List.getElem_drop] at this
    rw [hsame] at this; cases this
/-- .. and no more. -/
theorem nxtS_stop {rs : List Rc} {s e : Nat} (hs : s < rs.length) (h1 : s + 1 ≤ e) (h2 : e ≤ nxtS rs s) (h : e = rs.length ∨ ∃ he : e < rs.length, belR rs[s] rs[e] = false) : e = nxtS rs s := by
  have hn := nxtS_lt hs
  rcases h with h | ⟨he, h⟩
  · omega
  · rcases Nat.lt_or_ge e (nxtS rs s) with h3 | h3
    · exfalso
      rw [nxtS_at hs] at h3
      obtain ⟨t1, t2, t3⟩ := takeWhile_len (p := belR rs[s]) (rs.drop (s + 1))
      obtain ⟨j, rfl⟩ : ∃ j, e = s + 1 + j := ⟨e - (s + 1), by omega⟩
      have := t2 j (by omega) (by rw [List.length_drop]; omega)
      simp only [List.getElem_drop] at this
      rw [h] at this; cases this
    · omega
theorem segsH_more (rs : List Rc) : ∀ (f s : Nat), rs.length - s ≤ f → segsH f s rs = segsH (rs.length - s) s rs
  | 0, s, h => by rw [show rs.length - s = 0 by omega]
  | f + 1, s, h => by
    by_cases hs : s < rs.length
    · have hn := nxtS_lt hs
      obtain ⟨m, hm⟩ : ∃ m, rs.length - s = m + 1 := ⟨rs.length - s - 1, by omega⟩
      rw [hm]
      simp only [segsH, if_pos hs]
      rw [segsH_more rs f (nxtS rs s) (by omega), segsH_more rs m (nxtS rs s) (by omega)]
    · rw [show rs.length - s = 0 by omega]
      simp only [segsH, if_neg hs]
/-- What is left to come from s on. -/
def leftS (rs : List Rc) (s : Nat) : List (Nat × Nat) := segsH (rs.length - s) s rs
theorem leftS_zero (rs : List Rc) : leftS rs 0 = segsS rs := rfl
theorem leftS_end (rs : List Rc) {s : Nat} (h : rs.length ≤ s) : leftS rs s = [] := by unfold leftS; rw [show rs.length - s = 0 by omega]; rfl
theorem leftS_step {rs : List Rc} {s : Nat} (hs : s < rs.length) : leftS rs s = (s, nxtS rs s) :: leftS rs (nxtS rs s) := by
  have hn := nxtS_lt hs
  obtain ⟨m, hm⟩ : ∃ m, rs.length - s = m + 1 := ⟨rs.length - s - 1, by omega⟩
  unfold leftS
  rw [hm]
  simp only [segsH, if_pos hs]
  rw [segsH_more rs m (nxtS rs s) (by omega)]
/-- A piece's set. -/
def setR (rs : List Rc) (x : Nat × Nat) : St := match rs.drop x.1 with
  | [] => ⟨[], 0, 0, []⟩
  | y :: r => stR y (r.take (x.2 - x.1 - 1))
theorem leftS_sets (rs : List Rc) : ∀ (n s : Nat), rs.length - s ≤ n → (leftS rs s).map (setR rs) = setsM (rs.drop s)
  | n, s, h => by
    by_cases hs : s < rs.length
    · have hn := nxtS_lt hs
      have e1 := nxtS_at hs
      obtain ⟨t1, t2⟩ := takeWhile_take (belR rs[s]) (rs.drop (s + 1))
      rw [leftS_step hs, List.map_cons, List.drop_eq_getElem_cons hs, setsM_cons]
      have ed : (rs.drop (s + 1)).dropWhile (belR rs[s]) = rs.drop (nxtS rs s) := by rw [← t2, List.drop_drop, e1]
      have er : setR rs (s, nxtS rs s) = stR rs[s] ((rs.drop (s + 1)).takeWhile (belR rs[s])) := by
        unfold setR
        simp only [List.drop_eq_getElem_cons hs]
        rw [← t1, show nxtS rs s - s - 1 = ((rs.drop (s + 1)).takeWhile (belR rs[s])).length by omega]
      rw [er, ed]
      cases n with
      | zero => omega
      | succ n => rw [leftS_sets rs n (nxtS rs s) (by omega)]
    · rw [leftS_end rs (by omega), List.drop_of_length_le (by omega)]
      rfl
theorem segs_sets (rs : List Rc) : (segsS rs).map (setR rs) = setsM rs := by rw [← leftS_zero, leftS_sets rs rs.length 0 (by omega)]; rfl
end Go.Proofs.Ytckammgnmgkieaa

/-
  Sets of a row in its own order: what SetsAll asks of them.
-/
namespace Go.Proofs.Ytckammgnmgkieaa
set_option maxRecDepth 20000
open Go.RowKit Go.Shelf
open Stb (COrd)
set_option linter.unusedVariables false

/-- How two records stand by their owners and types alone. -/
def keyR (a b : Rc) : Int := orI (compareN a.owner b.owner) (cmpI a.data.ty b.data.ty)
theorem cord_keyR : COrd keyR := cord_orI (cord_on cord_compareN Rc.owner) (cord_on (cord_on cord_cmpI Dat.ty) Rc.data)
theorem cmpI_zero {a b : Int} : cmpI a b = 0 ↔ a = b := by
  unfold cmpI
  constructor
  · intro h
    by_cases h1 : a < b
    · rw [if_pos h1] at h; cases h
    · rw [if_neg h1] at h
      by_cases h2 : b < a
      · simp [h2] at h
      · omega
  · rintro rfl; simp
theorem keyR_zero (a b : Rc) : keyR a b = 0 ↔ belR b a = true := by
  unfold keyR belR belM orI
  rw [Bool.and_eq_true, decide_eq_true_eq]
  by_cases h : compareN a.owner b.owner = 0
  · rw [if_pos h]
    exact ⟨fun h2 => ⟨cmpI_zero.1 h2, (compareN_zero _ _).1 h⟩, fun h2 => cmpI_zero.2 h2.1⟩
  · rw [if_neg h]
    exact ⟨fun h2 => absurd h2 h, fun h2 => absurd ((compareN_zero _ _).2 h2.2) h⟩
theorem keyR_of {a b : Rc} (h : compareR a b ≤ 0) : keyR a b ≤ 0 := by
  unfold compareR compareD orI at h
  unfold keyR orI
  by_cases h1 : compareN a.owner b.owner = 0
  · rw [if_pos h1] at h ⊢
    by_cases h2 : cmpI a.data.ty b.data.ty = 0
    · omega
    · rw [if_neg h2] at h; exact h
  · rw [if_neg h1] at h ⊢; exact h
theorem keyR_eq {a b : Rc} (h : compareR a b = 0) : keyR a b = 0 := by
  have h1 := keyR_of (a := a) (b := b) (by omega)
  have h2 := keyR_of (a := b) (b := a) (by have := cR_anti a b; omega)
  have h3 := cord_keyR.anti a b
  omega
theorem keyR_sym {a b : Rc} (h : keyR a b = 0) : keyR b a = 0 := by have := cord_keyR.anti a b; omega
theorem belM_eq {o : Nm} {t : Int} {a b : Rc} (h : keyR a b = 0) : belM o t a = belM o t b := by
  have h1 := (keyR_zero a b).1 h
  unfold belR belM at h1
  rw [Bool.and_eq_true, decide_eq_true_eq] at h1
  unfold belM
  rw [h1.1]
  congr 1
  have e := h1.2
  cases h2 : sameN b.owner o with
  | true => exact sameN_trans e h2
  | false =>
    cases h3 : sameN a.owner o with
    | false => rfl
    | true => rw [sameN_symm] at e; rw [sameN_trans e h3] at h2; cases h2
theorem filter_gt {p : Rc → Bool} {x : Rc} : ∀ (c : List Rc), (∀ y ∈ c, 0 < compareR y x) → insR (c.filter p) x = x :: c.filter p := fun c h => by
  cases e : c.filter p with
  | nil => rfl
  | cons z r =>
    have hz : z ∈ c := (List.mem_filter.1 (show z ∈ c.filter p by rw [e]; simp)).1
    have := h z hz
    rw [insR, if_neg (by omega), if_neg (by omega)]
theorem insR_filter {p : Rc → Bool} (hp : ∀ a b, compareR a b = 0 → p a = p b) (x : Rc) : ∀ (c : List Rc), StrictR c → (∀ y ∈ c, p ⟨y.owner, minT y.ttl x.ttl, y.data⟩ = p y) → (insR c x).filter p = if p x = true then insR (c.filter p) x else c.filter p
  | [], _, _ => by
    by_cases hx : p x = true
    · simp [insR, hx]
    · simp [insR, hx]
  | y :: r, hs, hm => by
    have hs2 : StrictR r := (List.pairwise_cons.1 hs).2
    have hy := (List.pairwise_cons.1 hs).1
    have ih := insR_filter hp x r hs2 (fun z hz => hm z (by simp [hz]))
    by_cases h1 : compareR y x < 0
    · rw [insR, if_pos h1, List.filter_cons, ih, List.filter_cons]
      by_cases hpy : p y = true
      · rw [if_pos hpy, if_pos hpy]
        by_cases hx : p x = true
        · rw [if_pos hx, if_pos hx, insR, if_pos h1]
        · rw [if_neg hx, if_neg hx]
      · rw [if_neg hpy, if_neg hpy]
    · by_cases h2 : compareR y x = 0
      · have e := hp y x h2
        have em := hm y (by simp)
        rw [insR, if_neg h1, if_pos h2, List.filter_cons, em, List.filter_cons]
        by_cases hpy : p y = true
        · rw [if_pos hpy, if_pos hpy, if_pos (by rw [← e]; exact hpy), insR, if_neg h1, if_pos h2]
        · rw [if_neg hpy, if_neg hpy, if_neg (by rw [← e]; exact hpy)]
      · rw [insR, if_neg h1, if_neg h2, List.filter_cons]
        by_cases hx : p x = true
        · rw [if_pos hx, if_pos hx]
          refine (filter_gt (y :: r) fun z hz => ?_).symm
          rcases List.mem_cons.1 hz with rfl | hz
          · have := compareR_range z x; omega
          · have h3 := hy z hz
            have h4 : compareR x y ≤ 0 := by have := cR_anti y x; omega
            have h5 := cR_le_lt h4 h3
            have := cR_anti x z
            omega
        · rw [if_neg hx, if_neg hx]
theorem canonM_filter (o : Nm) (t : Int) (l : List Rc) : canonM (l.filter (belM o t)) = (canonM l).filter (belM o t) :=
  list_snoc_ind (P := fun l => canonM (l.filter (belM o t)) = (canonM l).filter (belM o t)) rfl (fun l x ih => by
    rw [canonM_snoc, insR_filter (fun a b h => belM_eq (keyR_eq h)) x _ (canonM_can l).up (fun y _ => rfl), List.filter_append]
    by_cases hx : belM o t x = true
    · rw [if_pos hx, List.filter_cons, if_pos hx, List.filter_nil, canonM_snoc, ih]
    · rw [if_neg hx, List.filter_cons, if_neg hx, List.filter_nil, List.append_nil, ih]) l
theorem all_takeWhile {p : Rc → Bool} : ∀ (l : List Rc), (∀ z ∈ l, p z = true) → l.takeWhile p = l ∧ l.dropWhile p = [] := fun l h => by
  have := takeWhile_app (p := p) l [] h (fun z hz => by cases hz)
  simpa using this
theorem takeWhile_all {p : Rc → Bool} : ∀ (l : List Rc), ∀ z ∈ l.takeWhile p, p z = true
  | [], z, h => by cases h
  | x :: r, z, h => by
    by_cases hx : p x = true
    · rw [List.takeWhile_cons, if_pos hx] at h
      rcases List.mem_cons.1 h with rfl | h
      · exact hx
      · exact takeWhile_all r z h
    · rw [List.takeWhile_cons, if_neg hx] at h; cases h
/-- What is behind a run is of another set. -/
theorem drop_other {y : Rc} {r : List Rc} (hs : StrictR (y :: r)) : ∀ z ∈ r.dropWhile (belR y), belR y z = false := by
  have hd := dropWhile_head (belR y) r
  have hsub : ∀ z ∈ r.dropWhile (belR y), z ∈ r := fun z hz => (List.dropWhile_sublist _).subset hz
  have hst : StrictR (r.dropWhile (belR y)) := List.Pairwise.sublist (List.dropWhile_sublist _) (List.pairwise_cons.1 hs).2
  cases e : r.dropWhile (belR y) with
  | nil => intro z hz; cases hz
  | cons d D =>
    rw [e] at hd hsub hst
    have h1 : belR y d = false := hd d (by simp)
    have h2 : compareR y d < 0 := (List.pairwise_cons.1 hs).1 d (hsub d (by simp))
    have k1 : keyR d y ≠ 0 := fun h => by rw [(keyR_zero d y).1 h] at h1; cases h1
    have k2 : keyR y d ≤ 0 := keyR_of (by omega)
    have k3 : keyR y d < 0 := by have := cord_keyR.anti y d; omega
    intro z hz
    rcases List.mem_cons.1 hz with rfl | hz
    · exact h1
    · have h3 : compareR d z < 0 := (List.pairwise_cons.1 hst).1 z hz
      have k4 : keyR d z ≤ 0 := keyR_of (by omega)
      cases hb : belR y z with
      | false => rfl
      | true =>
        have k5 : keyR z y = 0 := (keyR_zero z y).2 hb
        have k6 := cord_keyR.trans d z y k4 (by omega)
        have := cord_keyR.anti d y
        omega
theorem belR_trans {a b c : Rc} (h1 : belR a b = true) (h2 : belR a c = true) : belR b c = true := by
  have k1 := (keyR_zero b a).2 h1
  have k2 := (keyR_zero c a).2 h2
  have k3 := keyR_sym k1
  refine (keyR_zero c b).1 ?_
  have t1 := cord_keyR.trans c a b (by omega) (by omega)
  have t2 := cord_keyR.trans b a c (by omega) (by have := keyR_sym k2; omega)
  have := cord_keyR.anti c b
  omega
/-- Each set is all that its owner and type have. -/
theorem sets_filter : ∀ (n : Nat) (c : List Rc), c.length ≤ n → StrictR c → ∀ s ∈ setsM c, ∃ y r, s = stR y r ∧ y ∈ c ∧ c.filter (belM s.owner s.ty) = y :: r
  | 0, c, hn, _, s, h => by
    obtain rfl : c = [] := List.eq_nil_of_length_eq_zero (by omega)
    cases h
  | n + 1, [], _, _, s, h => by cases h
  | n + 1, y :: r, hn, hs, s, h => by
    have hl : (r.dropWhile (belR y)).length ≤ r.length := (List.dropWhile_sublist _).length_le
    have hst : StrictR (r.dropWhile (belR y)) := List.Pairwise.sublist (List.dropWhile_sublist _) (List.pairwise_cons.1 hs).2
    have hr : r = r.takeWhile (belR y) ++ r.dropWhile (belR y) := (List.takeWhile_append_dropWhile).symm
    have hno := drop_other hs
    have hall := takeWhile_all (p := belR y) r
    rw [setsM_cons] at h
    rcases List.mem_cons.1 h with rfl | h
    · refine ⟨y, r.takeWhile (belR y), rfl, by simp, ?_⟩
      have e : (fun z => belM (stR y (r.takeWhile (belR y))).owner (stR y (r.takeWhile (belR y))).ty z) = belR y := rfl
      show (y :: r).filter (belR y) = _
      rw [List.filter_cons, if_pos (belR_refl y)]
      congr 1
      rw (occs := .pos [1]) [hr]
      rw [List.filter_append, List.filter_eq_self.2 hall, List.filter_eq_nil_iff.2 (fun z hz => by rw [hno z hz]; simp), List.append_nil]
    · simp only [List.length_cons] at hn
      obtain ⟨y', r', e1, e2, e3⟩ := sets_filter n _ (by omega) hst s h
      refine ⟨y', r', e1, List.mem_cons_of_mem _ ((List.dropWhile_sublist _).subset e2), ?_⟩
      have hb : ∀ z, belR y z = true → belM s.owner s.ty z = false := fun z hz => by
        cases hh : belM s.owner s.ty z with
        | false => rfl
        | true =>
          exfalso
          have h5 : belR y' z = true := by rw [e1] at hh; exact hh
          have h6 := hno y' e2
          have k1 := (keyR_zero z y').2 h5
          have k2 := (keyR_zero z y).2 hz
          have : belR z y' = true := (keyR_zero y' z).1 (keyR_sym k1)
          have h7 : belR z y = true := (keyR_zero y z).1 (keyR_sym k2)
          rw [belR_trans h7 this] at h6; cases h6
      rw [List.filter_cons, if_neg (by rw [hb y (belR_refl y)]; simp)]
      rw (occs := .pos [1]) [hr]
      rw [List.filter_append, List.filter_eq_nil_iff.2 (fun z hz => by rw [hb z (hall z hz)]; simp), List.nil_append, e3]
theorem setsM_all {y : Rc} {r : List Rc} (h : ∀ z ∈ r, belR y z = true) : setsM (y :: r) = [stR y r] := by
  rw [setsM_cons, (all_takeWhile r h).1, (all_takeWhile r h).2]; rfl
/-- One set of a row: the first of those that are of the owner and the type. -/
def ofM (l : List Rc) (o : Nm) (t : Int) : Option St := (setsM (canonM (l.filter (belM o t)))).head?
theorem ofM_sets {l : List Rc} {s : St} (h : s ∈ setsM (canonM l)) : ofM l s.owner s.ty = some s := by
  obtain ⟨y, r, e1, _, e3⟩ := sets_filter _ _ (Nat.le_refl _) (canonM_can l).up s h
  unfold ofM
  rw [canonM_filter, e3, setsM_all (fun z hz => ?_), ← e1]; rfl
  have hz2 : z ∈ (canonM l).filter (belM s.owner s.ty) := by rw [e3]; simp [hz]
  have := (List.mem_filter.1 hz2).2
  rw [e1] at this; exact this
theorem sets_count : ∀ (n : Nat) (c : List Rc), c.length ≤ n → ((setsM c).map fun s => s.data.length).sum = c.length
  | 0, c, hn => by
    obtain rfl : c = [] := List.eq_nil_of_length_eq_zero (by omega)
    rfl
  | n + 1, [], _ => rfl
  | n + 1, y :: r, hn => by
    have hl : (r.dropWhile (belR y)).length ≤ r.length := (List.dropWhile_sublist _).length_le
    simp only [List.length_cons] at hn
    have hr : (r.takeWhile (belR y)).length + (r.dropWhile (belR y)).length = r.length := by
      rw [← List.length_append, List.takeWhile_append_dropWhile]
    rw [setsM_cons, List.map_cons, List.sum_cons, sets_count n _ (by omega)]
    simp only [stR, List.length_cons, List.length_map]
    omega
/-- An owner's types: the row has it. -/
theorem sets_type {l : List Rc} {s : St} (h : s ∈ setsM (canonM l)) : ∃ a ∈ l, sameN a.owner s.owner = true ∧ a.data.ty = s.ty := by
  obtain ⟨y, r, e1, e2, _⟩ := sets_filter _ _ (Nat.le_refl _) (canonM_can l).up s h
  obtain ⟨a, ha, h1, _⟩ := (canonM_can l).of y e2
  have h2 := (keyR_zero a y).1 (keyR_eq h1)
  unfold belR belM at h2
  rw [Bool.and_eq_true, decide_eq_true_eq] at h2
  exact ⟨a, ha, by rw [e1]; exact h2.2, by rw [e1]; exact h2.1⟩
end Go.Proofs.Ytckammgnmgkieaa

/-
  The statements' own helper of layer 2: Is.
-/
namespace Go.Proofs.Ytckammgnmgkieaa
set_option maxRecDepth 20000
open Go.RowKit Go.Shelf

end Go.Proofs.Ytckammgnmgkieaa

/-
  The statements' own helper of layer 2: Good.
-/
namespace Go.Proofs.Ytckammgnmgkieaa
set_option maxRecDepth 20000
open Go.RowKit Go.Shelf

def goodN (xs : Nm) : Bool := fewN xs && decide (checkN xs = 0)
set_option maxHeartbeats 4000000 in
theorem law2_Good (v : Value) (xs : Nm) (w : World) (hA : StrsAt w v xs) (hm : xs.length ≤ maxLen) (hk : ∀ x ∈ xs, x.length ≤ maxLen) :
    Calls Try.prog 13 #[v] w fun e w' => e = .returned (.bool (goodN xs)) ∧ w' = w := by
  have hF := law2_Few v xs w hA hm hk
  obtain ⟨a, c, rfl, _⟩ := id hA
  by_cases hf : fewN xs = true
  · have hC := ref_CheckName _ xs w hA (fewN_ok hf)
    have hg : goodN xs = decide (checkN xs = 0) := by unfold goodN; rw [hf, Bool.true_and]
    rw [hf] at hF
    have HG := Lib.hid hg
    clear hg hf hm hk hA
    generalize checkN xs = q at *
    go_enter Try.func13, Try.ntmps13
    go_wp2_with (first | (go_at_call 29; refine hF.mono ?_; rintro e w2 ⟨rfl, rfl⟩) | (go_at_call 30; refine hC.mono ?_; rintro e w3 ⟨rfl, rfl⟩))
    go_ret
    refine ⟨?_, rfl⟩
    rw [HG.out]
    show Ending.returned (.bool (q == 0)) = _
    rw [show (q == 0) = decide (q = 0) from rfl]
  · have hf0 : fewN xs = false := by simpa using hf
    have hg : goodN xs = false := by unfold goodN; rw [hf0, Bool.false_and]
    rw [hf0] at hF
    have HG := Lib.hid hg
    clear hg hf hf0 hm hk hA
    go_enter Try.func13, Try.ntmps13
    go_wp2_with (go_at_call 29; refine hF.mono ?_; rintro e w2 ⟨rfl, rfl⟩)
    go_ret
    exact ⟨by rw [HG.out]; rfl, rfl⟩
end Go.Proofs.Ytckammgnmgkieaa

/-
  The document's names (package toponymref6): Same, Under.
-/
namespace Go.Proofs.Ytckammgnmgkieaa
set_option maxRecDepth 20000
open Go.RowKit Go.Shelf

theorem keepS2 {n : Nat} {w W W' : World} {p q : Addr} {u v : Value} (h : W.cell? p = some u ∧ W.cell? q = some v ∧ Below n w W) (hb : Below W.heap.size W W') (hp : p.block < n) (hq : q.block < n) (hn : n ≤ w.heap.size) :
    W'.cell? p = some u ∧ W'.cell? q = some v ∧ Below n w W' := by
  have hz := h.2.2.size
  exact ⟨(hb.cell (by omega)).trans h.1, (hb.cell (by omega)).trans h.2.1, h.2.2.trans (hb.mono (by omega))⟩

theorem nm_nil (W : World) : NmAt W (.slice none 0 0) [] := ⟨⟨_, _, rfl, .inl rfl⟩, SlOK.nil⟩
theorem foldN_cons (x : List UInt8) (r : Nm) : foldN (x :: r) = foldL x :: foldN r := rfl
theorem foldL_size (l : List UInt8) : (foldL l).length = l.length := by simp [foldL]

end Go.Proofs.Ytckammgnmgkieaa

/-
  The document's data: small helpers (apart, counts).
-/
namespace Go.Proofs.Ytckammgnmgkieaa
set_option maxRecDepth 20000
open Go.RowKit Go.Shelf

/-- How many names, numbers, octets a type has. -/
def countsM (t : Int) : Int × Int × Int :=
  if t = 1 then (0, 0, 4) else if t = 28 then (0, 0, 16) else if t = 2 ∨ t = 5 ∨ t = 12 ∨ t = 39 then (1, 0, 0) else if t = 15 then (1, 1, 0) else if t = 6 then (2, 5, 0) else if t = 16 then (0, 0, 0) else (0, 0, -1)
def CountsPost (t : Int) (w : World) (e : Ending) (w' : World) : Prop := e = .returned (.tuple #[.int .i64 (countsM t).1, .int .i64 (countsM t).2.1, .int .i64 (countsM t).2.2]) ∧ w' = w

set_option maxHeartbeats 2000000 in
theorem ref_counts (t : Int) (w : World) : Calls Try.prog 56 #[.int .i64 t] w (CountsPost t w) := by
  have lit : ∀ k : Int, t = k → ∀ c, countsM k = c → Calls Try.prog 56 #[.int .i64 k] w (fun e w' => e = .returned (.tuple #[.int .i64 c.1, .int .i64 c.2.1, .int .i64 c.2.2]) ∧ w' = w) → Calls Try.prog 56 #[.int .i64 t] w (CountsPost t w) := by
    rintro k rfl c rfl h; exact h
  by_cases h1 : t = 1
  · refine lit _ h1 _ rfl ?_
    go_enter Try.func56, Try.ntmps56
    go_wp2
    go_ret3
    exact ⟨rfl, rfl⟩
  by_cases h2 : t = 28
  · refine lit _ h2 _ rfl ?_
    go_enter Try.func56, Try.ntmps56
    go_wp2
    go_ret3
    exact ⟨rfl, rfl⟩
  by_cases h3 : t = 2
  · refine lit _ h3 _ rfl ?_
    go_enter Try.func56, Try.ntmps56
    go_wp2
    go_ret3
    exact ⟨rfl, rfl⟩
  by_cases h4 : t = 5
  · refine lit _ h4 _ rfl ?_
    go_enter Try.func56, Try.ntmps56
    go_wp2
    go_ret3
    exact ⟨rfl, rfl⟩
  by_cases h5 : t = 12
  · refine lit _ h5 _ rfl ?_
    go_enter Try.func56, Try.ntmps56
    go_wp2
    go_ret3
    exact ⟨rfl, rfl⟩
  by_cases h6 : t = 39
  · refine lit _ h6 _ rfl ?_
    go_enter Try.func56, Try.ntmps56
    go_wp2
    go_ret3
    exact ⟨rfl, rfl⟩
  by_cases h7 : t = 15
  · refine lit _ h7 _ rfl ?_
    go_enter Try.func56, Try.ntmps56
    go_wp2
    go_ret3
    exact ⟨rfl, rfl⟩
  by_cases h8 : t = 6
  · refine lit _ h8 _ rfl ?_
    go_enter Try.func56, Try.ntmps56
    go_wp2
    go_ret3
    exact ⟨rfl, rfl⟩
  by_cases h9 : t = 16
  · refine lit _ h9 _ rfl ?_
    go_enter Try.func56, Try.ntmps56
    go_wp2
    go_ret3
    exact ⟨rfl, rfl⟩
  have hc : countsM t = (0, 0, -1) := by
    unfold countsM
    rw [if_neg h1, if_neg h2, if_neg (by omega), if_neg h7, if_neg h8, if_neg h9]
  have HC := Lib.hid hc; clear hc lit
  have e1 : (t == 1) = false := by simpa using h1
  have e2 : (t == 28) = false := by simpa using h2
  have e3 : (t == 2) = false := by simpa using h3
  have e4 : (t == 5) = false := by simpa using h4
  have e5 : (t == 12) = false := by simpa using h5
  have e6 : (t == 39) = false := by simpa using h6
  have e7 : (t == 15) = false := by simpa using h7
  have e8 : (t == 6) = false := by simpa using h8
  have e9 : (t == 16) = false := by simpa using h9
  clear h1 h2 h3 h4 h5 h6 h7 h8 h9
  go_enter Try.func56, Try.ntmps56
  go_wp2
  go_ret3
  exact ⟨by rw [HC.out]; rfl, rfl⟩
end Go.Proofs.Ytckammgnmgkieaa

