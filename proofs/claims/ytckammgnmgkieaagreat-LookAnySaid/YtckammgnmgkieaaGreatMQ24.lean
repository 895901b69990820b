import Derived.Shelf.Small.Bits
import Derived.Shelf.Strconv.Itoa0
import Derived.Shelf.Sort.Plain
import Derived.Shelf.Slices.Turned
import Derived.Ground.Names2Prog
import Derived.Shelf.Slices.Clone
import Derived.Shelf.Slices.CompactI
import Derived.Shelf.Slices.SearchI
import Derived.Shelf.Slices.Cells
import Derived.Shelf.Slices.In.SortNone
import Derived.Lib.Split
import Derived.Lib.Repeat
import Derived.Lib.AppendIntMem
import Derived.Deep.RegionHeld3
import Derived.Deep.AppendLies
import Derived.Outline
import Derived.IntWalk
import Derived.Test.YtckammgnmgkieaaGreatMQ16
import Derived.Test.YtckammgnmgkieaaGreatMQ10
import Derived.Test.YtckammgnmgkieaaGreatProg
namespace Go.Proofs.YtckammgnmgkieaaGreat
set_option maxRecDepth 20000
open Go.RowKit Go.Shelf
open Stb (COrd)
theorem qb7 {α : Type} {f g : α → α → Int} (hf : COrd f) (hg : COrd g) : COrd (fun a b => orI (f a b) (g a b)) := by
 refine ⟨fun x y => qmn (hf.anti x y) (hg.anti x y), fun x y z h1 h2 => ?_⟩
 have a1 := hf.anti x y; have a2 := hf.anti y z; have a3 := hf.anti x z
 have t1 := hf.trans x y z; have t2 := hf.trans y z x; have t3 := hf.trans z x y
 have u1 := hg.trans x y z
 unfold orI at *
 by_cases c1 : f x y = 0 <;> by_cases c2 : f y z = 0 <;> by_cases c3 : f x z = 0 <;> simp only [c1, c2, c3, if_true, if_false] at h1 h2 ⊢ <;> first | omega | exact u1 h1 h2
theorem qaV {α β : Type} {f : β → β → Int} (hf : COrd f) (p : α → β) : COrd (fun a b => f (p a) (p b)) := ⟨fun _ _ => hf.anti _ _, fun _ _ _ => hf.trans _ _ _⟩
theorem qco : COrd cmpI := ⟨qk8, fun a b c => by
 rcases qaD a b with ⟨h, h2⟩ | ⟨h, h2⟩ | ⟨h, h2⟩ <;> rcases qaD b c with ⟨g, g2⟩ | ⟨g, g2⟩ | ⟨g, g2⟩ <;> rcases qaD a c with ⟨k, k2⟩ | ⟨k, k2⟩ | ⟨k, k2⟩ <;> omega⟩
theorem qfH {α : Type} {f : α → α → Int} (hf : COrd f) : ∀ a b c : List α, cmpL f a b ≤ 0 → cmpL f b c ≤ 0 → cmpL f a c ≤ 0
 | [], [], _, _, h2 => h2
 | [], _ :: _, [], _, _ => by simp [cmpL]
 | [], _ :: _, _ :: _, _, _ => by simp [cmpL]
 | _ :: _, [], _, h1, _ => by simp [cmpL] at h1
 | _ :: _, _ :: _, [], _, h2 => by simp [cmpL] at h2
 | x :: r, y :: s, z :: t, h1, h2 => by
  have ih := qfH hf r s t
  have a1 := hf.anti x y; have a2 := hf.anti y z; have a3 := hf.anti x z
  have t1 := hf.trans x y z; have t2 := hf.trans y z x; have t3 := hf.trans z x y
  simp only [cmpL] at *
  by_cases c1 : f x y = 0 <;> by_cases c2 : f y z = 0 <;> by_cases c3 : f x z = 0 <;> simp only [c1, c2, c3, if_true, if_false] at h1 h2 ⊢ <;> first | omega | exact ih h1 h2
theorem qcv {α : Type} {f : α → α → Int} (hf : COrd f) : COrd (cmpL f) := ⟨fun x y => qg4 hf.anti x y, qfH hf⟩
theorem qcA : COrd qai := ⟨qg5, qfZ⟩
theorem qiO : COrd orderM := by
 have e : orderM = cmpL cmpB := by funext a b; exact qcj a b
 rw [e]
 exact qcv (qaV qco (fun b : UInt8 => (b.toNat : Int)))
theorem cord_compareD : COrd qao :=
 qb7 (qaV qco Dat.ty) (qb7 (qaV (qcv qcA) Dat.names) (qb7 (qaV (qcv (qaV qco (fun n : Nat => (n : Int)))) Dat.nums) (qb7 (qaV (qcv qiO) Dat.texts) (qaV (qcv (qaV qco (fun b : UInt8 => (b.toNat : Int)))) Dat.raw))))
structure Rc where
 owner : Nm
 ttl : Nat
 data : Dat
def qac (a b : Rc) : Int := orI (qai a.owner b.owner) (qao a.data b.data)
def sameR (a b : Rc) : Bool := qac a b == 0
theorem cord_compareR : COrd qac := qb7 (qaV qcA Rc.owner) (qaV cord_compareD Rc.data)
theorem qgd (a b : Rc) : qac a b = -1 ∨ qac a b = 0 ∨ qac a b = 1 := qct (qdk _ _) (qf8 _ _)
theorem qay (a : Rc) : qac a a = 0 := by have := cord_compareR.anti a a; omega
def minT (a b : Nat) : Nat := if b < a then b else a
def insR : List Rc → Rc → List Rc
 | [], x => [x]
 | y :: r, x => if qac y x < 0 then y :: insR r x else if qac y x = 0 then ⟨y.owner, minT y.ttl x.ttl, y.data⟩ :: r else x :: y :: r
def canonM (l : List Rc) : List Rc := l.foldl insR []
def insS : List Rc → Rc → List Rc
 | [], x => [x]
 | y :: r, x => if qac y x ≤ 0 then y :: insS r x else x :: y :: r
def sortM (l : List Rc) : List Rc := l.foldl insS []
def leastM (t : Nat) (l : List Rc) : Nat := l.foldl (fun m x => minT m x.ttl) t
def grpM : Nat → List Rc → List Rc
 | 0, _ => []
 | _, [] => []
 | n + 1, y :: r => ⟨y.owner, leastM y.ttl (r.takeWhile (sameR y)), y.data⟩ :: grpM n (r.dropWhile (sameR y))
theorem qgX : ∀ (n m : Nat) (l : List Rc), l.length ≤ n → l.length ≤ m → grpM n l = grpM m l
 | 0, 0, l, _, _ => rfl
 | 0, m + 1, l, h, _ => by
  have : l = [] := List.eq_nil_of_length_eq_zero (by omega)
  subst this; rfl
 | n + 1, 0, l, _, h => by
  have : l = [] := List.eq_nil_of_length_eq_zero (by omega)
  subst this; rfl
 | n + 1, m + 1, [], _, _ => rfl
 | n + 1, m + 1, y :: r, h1, h2 => by
  have hl : (r.dropWhile (sameR y)).length ≤ r.length := (List.dropWhile_sublist _).length_le
  simp only [List.length_cons] at h1 h2
  simp only [grpM]
  rw [qgX n m _ (by omega) (by omega)]
def grp (l : List Rc) : List Rc := grpM l.length l
theorem qbK (y : Rc) (r : List Rc) : grp (y :: r) = ⟨y.owner, leastM y.ttl (r.takeWhile (sameR y)), y.data⟩ :: grp (r.dropWhile (sameR y)) := by
 have hl : (r.dropWhile (sameR y)).length ≤ r.length := (List.dropWhile_sublist _).length_le
 unfold grp
 simp only [List.length_cons, grpM]
 rw [qgX r.length _ _ hl (qN0)]
theorem qmJ : grp [] = [] := rfl
def RisesR (l : List Rc) : Prop := l.Pairwise fun a b => qac a b ≤ 0
theorem qjh {y x : Rc} (hyx : qac y x = 0) : ∀ (E R : List Rc), (∀ e ∈ E, qac y e = 0) → (∀ z ∈ R.head?, 0 < qac z y) → insS (E ++ R) x = E ++ x :: R
 | [], R, _, h => by
  cases R with
  | nil => rfl
  | cons z R =>
   have hz : 0 < qac z y := h z (by simp)
   have t := cord_compareR.trans z x y
   have a := cord_compareR.anti x y
   have : ¬ qac z x ≤ 0 := by intro hh; have := t hh (by have := cord_compareR.anti y x; omega); omega
   simp [insS, this]
 | e :: E, R, h1, h2 => by
  have he : qac y e = 0 := h1 e (by simp)
  have t := cord_compareR.trans e y x
  have a := cord_compareR.anti y e
  have : qac e x ≤ 0 := t (by omega) (by omega)
  simp only [List.cons_append, insS, if_pos this]
  rw [qjh hyx E R (fun e h => h1 e (by simp [h])) h2]
theorem qje {y x : Rc} (hyx : qac y x < 0) : ∀ (E R : List Rc), (∀ e ∈ E, qac y e = 0) → insS (E ++ R) x = E ++ insS R x
 | [], R, _ => rfl
 | e :: E, R, h1 => by
  have he : qac y e = 0 := h1 e (by simp)
  have t := cord_compareR.trans e y x
  have a := cord_compareR.anti y e
  have : qac e x ≤ 0 := t (by omega) (by omega)
  simp only [List.cons_append, insS, if_pos this]
  rw [qje hyx E R (fun e h => h1 e (by simp [h]))]
theorem qdg (t : Nat) (E : List Rc) (x : Rc) : leastM t (E ++ [x]) = minT (leastM t E) x.ttl := by simp [leastM, List.foldl_append]
theorem qbI {p : Rc → Bool} : ∀ (E R : List Rc), (∀ e ∈ E, p e = true) → (∀ z ∈ R.head?, p z = false) → (E ++ R).takeWhile p = E ∧ (E ++ R).dropWhile p = R
 | [], [], _, _ => ⟨rfl, rfl⟩
 | [], z :: R, _, h => by
  have : p z = false := h z (by simp)
  simp [this]
 | e :: E, R, h1, h2 => by
  have he := h1 e (by simp)
  have ih := qbI E R (fun e h => h1 e (by simp [h])) h2
  simp only [List.cons_append, List.takeWhile_cons, List.dropWhile_cons, he, if_true]
  exact ⟨by rw [ih.1], ih.2⟩
theorem qe7 {x : Rc} : ∀ (l : List Rc) (z : Rc), z ∈ insS l x → z = x ∨ z ∈ l
 | [], z, h => by simp [insS] at h; exact .inl h
 | y :: r, z, h => by
  simp only [insS] at h
  split at h
  ·rcases List.mem_cons.1 h with rfl | h
   ·simp
   ·rcases qe7 r z h with h | h <;> simp [h]
  ·simp at h; rcases h with h | h | h <;> simp [h]
theorem qkk {x : Rc} (l : List Rc) (z : Rc) (h : z ∈ (insS l x).head?) : z = x ∨ z ∈ l.head? := by
 cases l with
 | nil => simp [insS] at h; exact .inl h.symm
 | cons y r =>
  simp only [insS] at h
  split at h
  ·right; simpa using h
  ·left; simp at h; exact h.symm
theorem qb6 (p : Rc → Bool) : ∀ (l : List Rc) (z : Rc), z ∈ (l.dropWhile p).head? → p z = false
 | [], z, h => by simp at h
 | y :: r, z, h => by
  rw [List.dropWhile_cons] at h
  split at h
  ·exact qb6 p r z h
  ·rename_i hy
   simp at h; subst h; simpa using hy
theorem qhI (x : Rc) : ∀ (n : Nat) (l : List Rc), l.length ≤ n → RisesR l → grp (insS l x) = insR (grp l) x
 | _, [], _, _ => by simp [insS, qbK, qmJ, insR, leastM]
 | 0, y :: r, h, _ => by simp at h
 | n + 1, y :: r, h, hR => by
  have hl : (r.dropWhile (sameR y)).length ≤ r.length := (List.dropWhile_sublist _).length_le
  have hp := List.takeWhile_append_dropWhile (p := sameR y) (l := r)
  have hE : ∀ e ∈ r.takeWhile (sameR y), qac y e = 0 := fun e he => by
   have hh : ∀ (l : List Rc), e ∈ l.takeWhile (sameR y) → sameR y e = true := by
    intro l
    induction l with
    | nil => intro h; simp at h
    | cons a l ih =>
     intro h
     rw [List.takeWhile_cons] at h
     split at h
     ·rename_i ha
      rcases List.mem_cons.1 h with rfl | h
      ·exact ha
      ·exact ih h
     ·simp at h
   have := hh r he
   simpa [sameR] using this
  have hH : ∀ z ∈ (r.dropWhile (sameR y)).head?, 0 < qac z y := fun z hz => by
   have h1 := qb6 (sameR y) r z hz
   have h2 : z ∈ r := (List.dropWhile_sublist _).mem (List.mem_of_mem_head? hz)
   have h3 : qac y z ≤ 0 := (List.pairwise_cons.1 hR).1 z h2
   have := cord_compareR.anti y z
   simp [sameR] at h1
   omega
  have hRR : RisesR (r.dropWhile (sameR y)) := List.Pairwise.sublist (List.dropWhile_sublist _) (List.pairwise_cons.1 hR).2
  simp only [List.length_cons] at h
  generalize hEE : r.takeWhile (sameR y) = E at *
  generalize hDD : r.dropWhile (sameR y) = R at *
  have hEs : ∀ e ∈ E, sameR y e = true := fun e he => by simp [sameR, hE e he]
  rw [qbK, hEE, hDD]
  have hcy : ∀ t, qac ⟨y.owner, t, y.data⟩ x = qac y x := fun t => rfl
  simp only [insR, hcy]
  by_cases c : qac y x < 0
  ·rw [if_pos c]
   have e1 : insS (y :: r) x = y :: (E ++ insS R x) := by
    simp only [insS, if_pos (show qac y x ≤ 0 by omega)]
    rw [← hp, qje c E R hE]
   rw [e1, qbK]
   have hh : ∀ z ∈ (insS R x).head?, sameR y z = false := fun z hz => by
    rcases qkk R z hz with rfl | hz
    ·simp [sameR]; omega
    ·have := hH z hz
     have := cord_compareR.anti y z
     simp [sameR]; omega
   obtain ⟨t1, t2⟩ := qbI E (insS R x) hEs hh
   rw [t1, t2, qhI x n R (by omega) hRR]
  ·rw [if_neg c]
   by_cases c0 : qac y x = 0
   ·rw [if_pos c0]
    have e1 : insS (y :: r) x = y :: (E ++ [x] ++ R) := by
     simp only [insS, if_pos (show qac y x ≤ 0 by omega)]
     rw [← hp, qjh c0 E R hE hH]; simp
    rw [e1, qbK]
    have hh : ∀ z ∈ R.head?, sameR y z = false := fun z hz => by
     have := hH z hz
     have := cord_compareR.anti y z
     simp [sameR]; omega
    obtain ⟨t1, t2⟩ := qbI (E ++ [x]) R (fun e he => by
     rcases List.mem_append.1 he with he | he
     ·exact hEs e he
     ·simp at he; subst he; simp [sameR, c0]) hh
    rw [t1, t2, qdg]
   ·rw [if_neg c0]
    have e1 : insS (y :: r) x = x :: y :: r := by simp only [insS, if_neg (show ¬ qac y x ≤ 0 by omega)]
    rw [e1, qbK]
    have hne : sameR x y = false := by
     have := cord_compareR.anti x y
     simp [sameR]; omega
    simp only [List.takeWhile_cons, List.dropWhile_cons, hne, Bool.false_eq_true, if_false]
    rw [qbK, hEE, hDD]
    rfl
theorem qfA {x : Rc} : ∀ (l : List Rc), RisesR l → RisesR (insS l x)
 | [], _ => by simp [insS, RisesR]
 | y :: r, h => by
  have h1 := List.pairwise_cons.1 h
  simp only [insS]
  split
  ·rename_i c
   refine List.pairwise_cons.2 ⟨fun z hz => ?_, qfA r h1.2⟩
   rcases qe7 r z hz with rfl | hz
   ·exact c
   ·exact h1.1 z hz
  ·rename_i c
   have hxy : qac x y ≤ 0 := by have := cord_compareR.anti x y; omega
   refine List.pairwise_cons.2 ⟨fun z hz => ?_, h⟩
   rcases List.mem_cons.1 hz with rfl | hz
   ·exact hxy
   ·exact cord_compareR.trans _ _ _ hxy (h1.1 z hz)
theorem qlf (l : List Rc) : grp (sortM l) = canonM l := by
 unfold sortM canonM
 suffices ∀ (l a b : List Rc), RisesR a → grp a = b → grp (l.foldl insS a) = l.foldl insR b from this l [] [] List.Pairwise.nil rfl
 intro l
 induction l with
 | nil => intro a b _ h; exact h
 | cons x l ih =>
  intro a b h hb
  exact ih _ _ (qfA a h) (by rw [qhI x a.length a (qN0) h, hb])
end Go.Proofs.YtckammgnmgkieaaGreat
namespace Go.Proofs.YtckammgnmgkieaaGreat
set_option maxRecDepth 20000
open Go.RowKit Go.Shelf
def WdsAt (W : World) (v : Value) (l : List Wd) : Prop :=
 ∃ a c, v = .slice a l.length c ∧ l.length ≤ c ∧ (a = none → c = 0) ∧ (l = [] ∨ ∃ b off, a = some ⟨b, off, none⟩ ∧ b < W.heap.size ∧ ∀ j (hj : j < l.length), W.cell? ⟨b, off + j * 2, none⟩ = some (strV l[j].1) ∧ W.cell? ⟨b, off + j * 2 + 1, none⟩ = some (.bool l[j].2))
theorem WdsAt.below {W W' : World} {v : Value} {l : List Wd} (h : WdsAt W v l) (hb : Below W.heap.size W W') : WdsAt W' v l := by
 obtain ⟨a, c, e, h1, h2, h⟩ := h
 refine ⟨a, c, e, h1, h2, ?_⟩
 rcases h with h | ⟨b, off, ea, hlt, hc⟩
 ·exact .inl h
 ·exact .inr ⟨b, off, ea, Nat.lt_of_lt_of_le hlt hb.size, fun j hj => ⟨(hb.cell (p := ⟨b, off + j * 2, none⟩) hlt).trans (hc j hj).1, (hb.cell (p := ⟨b, off + j * 2 + 1, none⟩) hlt).trans (hc j hj).2⟩⟩
theorem WdsAt.cell {W W' : World} {a : Option Addr} {n c : Nat} {l : List Wd} (h : WdsAt W (.slice a n c) l) (hb : Below W.heap.size W W') (j : Nat) (hj : j < l.length) :
 ∃ b off, a = some ⟨b, off, none⟩ ∧ b < W.heap.size ∧ W'.cell? ⟨b, off + j * 2, none⟩ = some (strV l[j].1) ∧ W'.cell? ⟨b, off + j * 2 + 1, none⟩ = some (.bool l[j].2) := by
 obtain ⟨a', c', e, _, _, h⟩ := h
 cases e
 rcases h with h | ⟨b, off, ea, hlt, hc⟩
 ·subst h; simp at hj
 ·exact ⟨b, off, ea, hlt, (hb.cell (p := ⟨b, off + j * 2, none⟩) hlt).trans (hc j hj).1, (hb.cell (p := ⟨b, off + j * 2 + 1, none⟩) hlt).trans (hc j hj).2⟩
def WdsOK (l : List Wd) : Prop := l.length ≤ 1048576 ∧ ∀ x ∈ l, x.1.length ≤ 500000
theorem OwnG.ne_block {α : Type} {T : TypeId} {enc : α → Value} {W : World} {base : Nat} {v : Value} {xs : List α} (h : OwnG T enc W base v xs) {B : Nat} {cs : Array Value} {t : TypeId} (hB : W.heap[B]? = some (.cells cs t)) (ht : t ≠ T) : some B ≠ v.ownBlock := by
 rcases h.2 with ⟨rfl, _⟩ | ⟨g, cap, cur, rfl, _, hg, _⟩
 ·simp [Value.ownBlock]
 ·intro e
  obtain rfl : B = g := by simpa [Value.ownBlock] using e
  rw [hg] at hB
  cases hB
  exact ht rfl
theorem qgz (W : World) (o : Obj) : (W.alloc o).heap[W.heap.size]? = some o := by
 show (W.heap.push o)[W.heap.size]? = some o
 simp
theorem qaY {W : World} {B : Nat} {cs : Array Value} {t : TypeId} (h : W.heap[B]? = some (.cells cs t)) (j : Nat) (v : Value) (hv : cs[j]? = some v) : W.cell? ⟨B, j, none⟩ = some v := by
 simp only [World.cell?, h]
 simpa using hv
def Tab (W : World) : Prop := Lib.TabIs Tryz.prog W "internal/strconv.uint64pow10" .u64 Lib.pow10Tab
theorem Tab.below {W W' : World} (h : Tab W) (hb : Below W.heap.size W W') : Tab W' := (Lib.tabBelow_of_tabIs h) W' hb
theorem WdsAt.drop {W : World} {g off n c : Nat} {l : List Wd} (h : WdsAt W (.slice (some ⟨g, off, none⟩) n c) l) (hn : l.length = n) (h1 : 1 ≤ n) :
 WdsAt W (.slice (if c = 1 then some ⟨g, off, none⟩ else some ⟨g, off + 2, none⟩) (n - 1) (c - 1)) (l.drop 1) := by
 obtain ⟨a, c', e, h2, h3, h⟩ := h
 rw [Value.slice.injEq] at e
 obtain ⟨rfl, _, rfl⟩ := e
 refine ⟨_, _, by rw [List.length_drop, hn], by rw [List.length_drop, hn]; omega, ?_, ?_⟩
 ·intro h; split at h <;> cases h
 ·rcases h with h | ⟨b, o, e, hb, hcell⟩
  ·subst h; simp at hn; omega
  ·rw [Option.some.injEq] at e
   cases e
   by_cases h4 : c = 1
   ·left; exact List.eq_nil_of_length_eq_zero (by rw [List.length_drop]; omega)
   ·right
    rw [if_neg h4]
    refine ⟨g, off + 2, rfl, hb, fun j hj => ?_⟩
    have hj' : j + 1 < l.length := by rw [List.length_drop] at hj; omega
    have := hcell (j + 1) hj'
    rw [show off + (j + 1) * 2 = off + 2 + j * 2 by omega] at this
    rw [List.getElem_drop]
    simp only [Nat.add_comm 1 j]
    exact this
theorem WdsOK.drop {l : List Wd} (h : WdsOK l) (k : Nat) : WdsOK (l.drop k) := ⟨by have := h.1; rw [List.length_drop]; omega, fun x hx => h.2 x (List.mem_of_mem_drop hx)⟩
end Go.Proofs.YtckammgnmgkieaaGreat
