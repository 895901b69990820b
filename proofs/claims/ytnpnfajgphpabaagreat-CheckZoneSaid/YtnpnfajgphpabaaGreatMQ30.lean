import Derived.Shelf.SlSortFuncK.RowK2
import Derived.Shelf.SlicesQ.Reverse
import Derived.Test.YtnpnfajgphpabaaGreatMQ18
namespace Go.Proofs.YtnpnfajgphpabaaGreat
set_option maxRecDepth 20000
set_option linter.unusedSectionVars false
open Go.RowKit Go.Shelf Go.Sort Go.Lib
section
variable {α : Type} [Inhabited α]
structure SW (enc : α → List Value) (k : Nat) (w : World) (blk off : Nat) (d : Array α) (W : World) : Prop where
 row : HoldsK enc k W blk off d
 rest : w.grownBy W (some blk)
 lt : blk < w.heap.size
theorem SW.refl {enc : α → List Value} {k : Nat} {w : World} {blk off : Nat} {d : Array α} (h : HoldsK enc k w blk off d) (hlt : blk < w.heap.size) : SW enc k w blk off d w := ⟨h, qcG w _, hlt⟩
theorem SW.drew {enc : α → List Value} {k : Nat} {w W : World} {blk off : Nat} {d : Array α} (h : SW enc k w blk off d W) : SW enc k w blk off d W.drew := ⟨h.row, qat h.rest (qk4 W _), h.lt⟩
theorem qjY {W W' : World} (r : Option Nat) (hb : Below W.heap.size W W') : W.grownBy W' r := ⟨hb.os, hb.tape, hb.output, hb.size, fun k hk _ => hb.block k hk⟩
theorem SW.lt' {enc : α → List Value} {k : Nat} {w W : World} {blk off : Nat} {d : Array α} (h : SW enc k w blk off d W) : blk < W.heap.size := Nat.lt_of_lt_of_le h.lt h.rest.size
theorem SW.below {enc : α → List Value} {k : Nat} {w W W' : World} {blk off : Nat} {d : Array α} (h : SW enc k w blk off d W) (hb : Below W.heap.size W W') : SW enc k w blk off d W' := by
 refine ⟨fun j hj => ?_, qat h.rest (qjY _ hb), h.lt⟩
 have h1 := h.row j hj
 exact ⟨(hb.cell (p := ⟨blk, off + j, none⟩) h.lt').trans h1.1, (hb.frozen (p := ⟨blk, off + j, none⟩) h.lt').trans h1.2⟩
theorem SW.trans {enc : α → List Value} {k : Nat} {w W W' : World} {blk off : Nat} {d d' : Array α} (h : SW enc k w blk off d W) (g : SW enc k W blk off d' W') : SW enc k w blk off d' W' := ⟨g.row, qat h.rest g.rest, h.lt⟩
theorem qcE (blk : Nat) : ∀ (vs : List Value) (o : Nat) (w : World), w.grownBy (w.setCells blk o vs) (some blk)
 | [], _, w => qcG w _
 | v :: r, o, w => by
  rw [World.setCells]
  exact qat (qe2 w blk o v) (qcE blk r (o + 1) _)
theorem SW.swap {enc : α → List Value} {k : Nat} {w W : World} {blk off : Nat} {d : Array α} (hk : ∀ x, (enc x).length = k) (h : SW enc k w blk off d W) (i j : Nat) (hi : i < d.size) (hj : j < d.size) :
 SW enc k w blk off (swp d i j) ((W.setCells blk (off + i * k) (enc d[j]!)).setCells blk (off + j * k) (enc d[i]!)) := by
 refine ⟨?_, qat (qat h.rest (qcE _ _ _ _)) (qcE _ _ _ _), h.lt⟩
 have e : (W.setCells blk (off + i * k) (enc d[j]!)).setCells blk (off + j * k) (enc d[i]!) = putRowK enc k W blk off (swp d i j) := by
  conv => lhs; rw [← putRowK_self enc k W blk off d h.row]
  exact putRowK_swp enc k hk W blk off d i j hi hj
 rw [e]
 exact holdsK_putRowK enc k W blk off d _ h.row (by rw [size_swp])
theorem qej {W : World} {blk off : Nat} {F : Array Value} (h : Holds id W blk off F) (s : Nat) (vs : List Value) (hs : s + vs.length ≤ F.size) : Holds id (W.setCells blk (off + s) vs) blk off (setMany F s vs) := by
 have e : W.setCells blk (off + s) vs = putRow id W blk off (setMany F s vs) := by
  conv => lhs; rw [← putRow_self id W blk off F h]
  exact setCells_putRow _ _ _ _ _ _ hs
 rw [e]
 exact holds_putRow id W blk off F _ h (by rw [size_setMany])
theorem SW.load {enc : α → List Value} {k : Nat} {w W : World} {blk off : Nat} {d : Array α} (P : Program) (hk : ∀ x, (enc x).length = k) (h : SW enc k w blk off d W) (i : Nat) (hi : i < d.size) :
 Sem.run P (loadCellsFrom ⟨blk, off + i * k, none⟩ 0 k #[]) W = .ok (enc d[i]!).toArray W := run_loadCellsFrom_list P _ _ _ k (hk _) (HoldsK.cells h.row hk hi)
theorem bnd_k {n x k : Nat} (hx : x < n) : x * k + k ≤ n * k := by
 have := Nat.mul_le_mul_right k (show x + 1 ≤ n from hx); rwa [Nat.add_mul, Nat.one_mul] at this
theorem SW.store1 {enc : α → List Value} {k : Nat} {w W : World} {blk off : Nat} {d : Array α} (P : Program) (hk : ∀ x, (enc x).length = k) (h1 : ∀ x, ∀ v ∈ enc x, v.oneCell' = true) (h : SW enc k w blk off d W) (i : Nat) (hi : i < d.size) (x : α) :
 Sem.run P (storeCells ⟨blk, off + i * k, none⟩ (enc x) 0) W = .ok () (W.setCells blk (off + i * k) (enc x)) := stores_of_holds P h.row (i * k) _ (by rw [hk, size_flatK]; exact bnd_k hi) (h1 _)
theorem SW.store2 {enc : α → List Value} {k : Nat} {w W : World} {blk off : Nat} {d : Array α} (P : Program) (hk : ∀ x, (enc x).length = k) (h1 : ∀ x, ∀ v ∈ enc x, v.oneCell' = true) (h : SW enc k w blk off d W) (i j : Nat) (hi : i < d.size) (hj : j < d.size) (x y : α) :
 Sem.run P (storeCells ⟨blk, off + j * k, none⟩ (enc y) 0) (W.setCells blk (off + i * k) (enc x)) = .ok () ((W.setCells blk (off + i * k) (enc x)).setCells blk (off + j * k) (enc y)) :=
 stores_of_holds P (qej h.row (i * k) _ (by rw [hk, size_flatK]; exact bnd_k hi)) (j * k) _ (by rw [hk, size_setMany, size_flatK]; exact bnd_k hj) (h1 _)
end
end Go.Proofs.YtnpnfajgphpabaaGreat
namespace Go.Proofs.YtnpnfajgphpabaaGreat
set_option maxRecDepth 20000
open Go.RowKit Go.Shelf
open Stb (COrd)
theorem qbk {α : Type} {f g : α → α → Int} (hf : COrd f) (hg : COrd g) : COrd (fun a b => orI (f a b) (g a b)) := by
 refine ⟨fun x y => qj6 (hf.anti x y) (hg.anti x y), fun x y z h1 h2 => ?_⟩
 have a1 := hf.anti x y; have a2 := hf.anti y z; have a3 := hf.anti x z
 have t1 := hf.trans x y z; have t2 := hf.trans y z x; have t3 := hf.trans z x y
 have u1 := hg.trans x y z
 unfold orI at *
 by_cases c1 : f x y = 0 <;> by_cases c2 : f y z = 0 <;> by_cases c3 : f x z = 0 <;> simp only [c1, c2, c3, if_true, if_false] at h1 h2 ⊢ <;> first | omega | exact u1 h1 h2
theorem qaH {α β : Type} {f : β → β → Int} (hf : COrd f) (p : α → β) : COrd (fun a b => f (p a) (p b)) := ⟨fun _ _ => hf.anti _ _, fun _ _ _ => hf.trans _ _ _⟩
theorem qbj : COrd cmpI := ⟨qjr, fun a b c => by
 rcases qaA a b with ⟨h, h2⟩ | ⟨h, h2⟩ | ⟨h, h2⟩ <;> rcases qaA b c with ⟨g, g2⟩ | ⟨g, g2⟩ | ⟨g, g2⟩ <;> rcases qaA a c with ⟨k, k2⟩ | ⟨k, k2⟩ | ⟨k, k2⟩ <;> omega⟩
theorem qeG {α : Type} {f : α → α → Int} (hf : COrd f) : ∀ a b c : List α, cmpL f a b ≤ 0 → cmpL f b c ≤ 0 → cmpL f a c ≤ 0
 | [], [], _, _, h2 => h2
 | [], _ :: _, [], _, _ => by simp [cmpL]
 | [], _ :: _, _ :: _, _, _ => by simp [cmpL]
 | _ :: _, [], _, h1, _ => by simp [cmpL] at h1
 | _ :: _, _ :: _, [], _, h2 => by simp [cmpL] at h2
 | x :: r, y :: s, z :: t, h1, h2 => by
  have ih := qeG hf r s t
  have a1 := hf.anti x y; have a2 := hf.anti y z; have a3 := hf.anti x z
  have t1 := hf.trans x y z; have t2 := hf.trans y z x; have t3 := hf.trans z x y
  simp only [cmpL] at *
  by_cases c1 : f x y = 0 <;> by_cases c2 : f y z = 0 <;> by_cases c3 : f x z = 0 <;> simp only [c1, c2, c3, if_true, if_false] at h1 h2 ⊢ <;> first | omega | exact ih h1 h2
theorem qb1 {α : Type} {f : α → α → Int} (hf : COrd f) : COrd (cmpL f) := ⟨fun x y => qfV hf.anti x y, qeG hf⟩
theorem qby : COrd qai := ⟨qgc, qfn⟩
theorem qhl : COrd orderM := by
 have e : orderM = cmpL cmpB := by funext a b; exact qbZ a b
 rw [e]
 exact qb1 (qaH qbj (fun b : UInt8 => (b.toNat : Int)))
theorem qf5 : COrd qas :=
 qbk (qaH qbj Dat.ty) (qbk (qaH (qb1 qby) Dat.names) (qbk (qaH (qb1 (qaH qbj (fun n : Nat => (n : Int)))) Dat.nums) (qbk (qaH (qb1 qhl) Dat.texts) (qaH (qb1 (qaH qbj (fun b : UInt8 => (b.toNat : Int)))) Dat.raw))))
structure Rc where
 owner : Nm
 ttl : Nat
 data : Dat
def qab (a b : Rc) : Int := orI (qai a.owner b.owner) (qas a.data b.data)
def sameR (a b : Rc) : Bool := qab a b == 0
theorem cord_compareR : COrd qab := qbk (qaH qby Rc.owner) (qaH qf5 Rc.data)
theorem qfl (a b : Rc) : qab a b = -1 ∨ qab a b = 0 ∨ qab a b = 1 := qb7 (qcN _ _) (qfh _ _)
theorem qav (a : Rc) : qab a a = 0 := by have := cord_compareR.anti a a; omega
def minT (a b : Nat) : Nat := if b < a then b else a
def insR : List Rc → Rc → List Rc
 | [], x => [x]
 | y :: r, x => if qab y x < 0 then y :: insR r x else if qab y x = 0 then ⟨y.owner, minT y.ttl x.ttl, y.data⟩ :: r else x :: y :: r
def canonM (l : List Rc) : List Rc := l.foldl insR []
def insS : List Rc → Rc → List Rc
 | [], x => [x]
 | y :: r, x => if qab y x ≤ 0 then y :: insS r x else x :: y :: r
def sortM (l : List Rc) : List Rc := l.foldl insS []
def leastM (t : Nat) (l : List Rc) : Nat := l.foldl (fun m x => minT m x.ttl) t
def grpM : Nat → List Rc → List Rc
 | 0, _ => []
 | _, [] => []
 | n + 1, y :: r => ⟨y.owner, leastM y.ttl (r.takeWhile (sameR y)), y.data⟩ :: grpM n (r.dropWhile (sameR y))
theorem qfR : ∀ (n m : Nat) (l : List Rc), l.length ≤ n → l.length ≤ m → grpM n l = grpM m l
 | 0, 0, l, _, _ => rfl
 | 0, m + 1, l, h, _ => by
  have : l = [] := List.eq_nil_of_length_eq_zero (by omega)
  subst this; rfl
 | n + 1, 0, l, _, h => by
  have : l = [] := List.eq_nil_of_length_eq_zero (by omega)
  subst this; rfl
 | n + 1, m + 1, [], _, _ => rfl
 | n + 1, m + 1, y :: r, h1, h2 => by
  have hl : (r.dropWhile (sameR y)).length ≤ r.length := (List.dropWhile_sublist _).length_le
  simp only [List.length_cons] at h1 h2
  simp only [grpM]
  rw [qfR n m _ (by omega) (by omega)]
def grp (l : List Rc) : List Rc := grpM l.length l
theorem qbC (y : Rc) (r : List Rc) : grp (y :: r) = ⟨y.owner, leastM y.ttl (r.takeWhile (sameR y)), y.data⟩ :: grp (r.dropWhile (sameR y)) := by
 have hl : (r.dropWhile (sameR y)).length ≤ r.length := (List.dropWhile_sublist _).length_le
 unfold grp
 simp only [List.length_cons, grpM]
 rw [qfR r.length _ _ hl (qN0)]
theorem qkU : grp [] = [] := rfl
def RisesR (l : List Rc) : Prop := l.Pairwise fun a b => qab a b ≤ 0
theorem qhP {y x : Rc} (hyx : qab y x = 0) : ∀ (E R : List Rc), (∀ e ∈ E, qab y e = 0) → (∀ z ∈ R.head?, 0 < qab z y) → insS (E ++ R) x = E ++ x :: R
 | [], R, _, h => by
  cases R with
  | nil => rfl
  | cons z R =>
   have hz : 0 < qab z y := h z (by simp)
   have t := cord_compareR.trans z x y
   have a := cord_compareR.anti x y
   have : ¬ qab z x ≤ 0 := by intro hh; have := t hh (by have := cord_compareR.anti y x; omega); omega
   simp [insS, this]
 | e :: E, R, h1, h2 => by
  have he : qab y e = 0 := h1 e (by simp)
  have t := cord_compareR.trans e y x
  have a := cord_compareR.anti y e
  have : qab e x ≤ 0 := t (by omega) (by omega)
  simp only [List.cons_append, insS, if_pos this]
  rw [qhP hyx E R (fun e h => h1 e (by simp [h])) h2]
theorem qhW {y x : Rc} (hyx : qab y x < 0) : ∀ (E R : List Rc), (∀ e ∈ E, qab y e = 0) → insS (E ++ R) x = E ++ insS R x
 | [], R, _ => rfl
 | e :: E, R, h1 => by
  have he : qab y e = 0 := h1 e (by simp)
  have t := cord_compareR.trans e y x
  have a := cord_compareR.anti y e
  have : qab e x ≤ 0 := t (by omega) (by omega)
  simp only [List.cons_append, insS, if_pos this]
  rw [qhW hyx E R (fun e h => h1 e (by simp [h]))]
theorem qcD (t : Nat) (E : List Rc) (x : Rc) : leastM t (E ++ [x]) = minT (leastM t E) x.ttl := by simp [leastM, List.foldl_append]
theorem qbB {p : Rc → Bool} : ∀ (E R : List Rc), (∀ e ∈ E, p e = true) → (∀ z ∈ R.head?, p z = false) → (E ++ R).takeWhile p = E ∧ (E ++ R).dropWhile p = R
 | [], [], _, _ => ⟨rfl, rfl⟩
 | [], z :: R, _, h => by
  have : p z = false := h z (by simp)
  simp [this]
 | e :: E, R, h1, h2 => by
  have he := h1 e (by simp)
  have ih := qbB E R (fun e h => h1 e (by simp [h])) h2
  simp only [List.cons_append, List.takeWhile_cons, List.dropWhile_cons, he, if_true]
  exact ⟨by rw [ih.1], ih.2⟩
theorem qep {x : Rc} : ∀ (l : List Rc) (z : Rc), z ∈ insS l x → z = x ∨ z ∈ l
 | [], z, h => by simp [insS] at h; exact .inl h
 | y :: r, z, h => by
  simp only [insS] at h
  split at h
  ·rcases List.mem_cons.1 h with rfl | h
   ·simp
   ·rcases qep r z h with h | h <;> simp [h]
  ·simp at h; rcases h with h | h | h <;> simp [h]
theorem qjq {x : Rc} (l : List Rc) (z : Rc) (h : z ∈ (insS l x).head?) : z = x ∨ z ∈ l.head? := by
 cases l with
 | nil => simp [insS] at h; exact .inl h.symm
 | cons y r =>
  simp only [insS] at h
  split at h
  ·right; simpa using h
  ·left; simp at h; exact h.symm
theorem qbN (p : Rc → Bool) : ∀ (l : List Rc) (z : Rc), z ∈ (l.dropWhile p).head? → p z = false
 | [], z, h => by simp at h
 | y :: r, z, h => by
  rw [List.dropWhile_cons] at h
  split at h
  ·exact qbN p r z h
  ·rename_i hy
   simp at h; subst h; simpa using hy
theorem qgD (x : Rc) : ∀ (n : Nat) (l : List Rc), l.length ≤ n → RisesR l → grp (insS l x) = insR (grp l) x
 | _, [], _, _ => by simp [insS, qbC, qkU, insR, leastM]
 | 0, y :: r, h, _ => by simp at h
 | n + 1, y :: r, h, hR => by
  have hl : (r.dropWhile (sameR y)).length ≤ r.length := (List.dropWhile_sublist _).length_le
  have hp := List.takeWhile_append_dropWhile (p := sameR y) (l := r)
  have hE : ∀ e ∈ r.takeWhile (sameR y), qab y e = 0 := fun e he => by
   have hh : ∀ (l : List Rc), e ∈ l.takeWhile (sameR y) → sameR y e = true := by
    intro l
    induction l with
    | nil => intro h; simp at h
    | cons a l ih =>
     intro h
     rw [List.takeWhile_cons] at h
     split at h
     ·rename_i ha
      rcases List.mem_cons.1 h with rfl | h
      ·exact ha
      ·exact ih h
     ·simp at h
   have := hh r he
   simpa [sameR] using this
  have hH : ∀ z ∈ (r.dropWhile (sameR y)).head?, 0 < qab z y := fun z hz => by
   have h1 := qbN (sameR y) r z hz
   have h2 : z ∈ r := (List.dropWhile_sublist _).mem (List.mem_of_mem_head? hz)
   have h3 : qab y z ≤ 0 := (List.pairwise_cons.1 hR).1 z h2
   have := cord_compareR.anti y z
   simp [sameR] at h1
   omega
  have hRR : RisesR (r.dropWhile (sameR y)) := List.Pairwise.sublist (List.dropWhile_sublist _) (List.pairwise_cons.1 hR).2
  simp only [List.length_cons] at h
  generalize hEE : r.takeWhile (sameR y) = E at *
  generalize hDD : r.dropWhile (sameR y) = R at *
  have hEs : ∀ e ∈ E, sameR y e = true := fun e he => by simp [sameR, hE e he]
  rw [qbC, hEE, hDD]
  have hcy : ∀ t, qab ⟨y.owner, t, y.data⟩ x = qab y x := fun t => rfl
  simp only [insR, hcy]
  by_cases c : qab y x < 0
  ·rw [if_pos c]
   have e1 : insS (y :: r) x = y :: (E ++ insS R x) := by
    simp only [insS, if_pos (show qab y x ≤ 0 by omega)]
    rw [← hp, qhW c E R hE]
   rw [e1, qbC]
   have hh : ∀ z ∈ (insS R x).head?, sameR y z = false := fun z hz => by
    rcases qjq R z hz with rfl | hz
    ·simp [sameR]; omega
    ·have := hH z hz
     have := cord_compareR.anti y z
     simp [sameR]; omega
   obtain ⟨t1, t2⟩ := qbB E (insS R x) hEs hh
   rw [t1, t2, qgD x n R (by omega) hRR]
  ·rw [if_neg c]
   by_cases c0 : qab y x = 0
   ·rw [if_pos c0]
    have e1 : insS (y :: r) x = y :: (E ++ [x] ++ R) := by
     simp only [insS, if_pos (show qab y x ≤ 0 by omega)]
     rw [← hp, qhP c0 E R hE hH]; simp
    rw [e1, qbC]
    have hh : ∀ z ∈ R.head?, sameR y z = false := fun z hz => by
     have := hH z hz
     have := cord_compareR.anti y z
     simp [sameR]; omega
    obtain ⟨t1, t2⟩ := qbB (E ++ [x]) R (fun e he => by
     rcases List.mem_append.1 he with he | he
     ·exact hEs e he
     ·simp at he; subst he; simp [sameR, c0]) hh
    rw [t1, t2, qcD]
   ·rw [if_neg c0]
    have e1 : insS (y :: r) x = x :: y :: r := by simp only [insS, if_neg (show ¬ qab y x ≤ 0 by omega)]
    rw [e1, qbC]
    have hne : sameR x y = false := by
     have := cord_compareR.anti x y
     simp [sameR]; omega
    simp only [List.takeWhile_cons, List.dropWhile_cons, hne, Bool.false_eq_true, if_false]
    rw [qbC, hEE, hDD]
    rfl
theorem qeI {x : Rc} : ∀ (l : List Rc), RisesR l → RisesR (insS l x)
 | [], _ => by simp [insS, RisesR]
 | y :: r, h => by
  have h1 := List.pairwise_cons.1 h
  simp only [insS]
  split
  ·rename_i c
   refine List.pairwise_cons.2 ⟨fun z hz => ?_, qeI r h1.2⟩
   rcases qep r z hz with rfl | hz
   ·exact c
   ·exact h1.1 z hz
  ·rename_i c
   have hxy : qab x y ≤ 0 := by have := cord_compareR.anti x y; omega
   refine List.pairwise_cons.2 ⟨fun z hz => ?_, h⟩
   rcases List.mem_cons.1 hz with rfl | hz
   ·exact hxy
   ·exact cord_compareR.trans _ _ _ hxy (h1.1 z hz)
theorem qjl (l : List Rc) : grp (sortM l) = canonM l := by
 unfold sortM canonM
 suffices ∀ (l a b : List Rc), RisesR a → grp a = b → grp (l.foldl insS a) = l.foldl insR b from this l [] [] List.Pairwise.nil rfl
 intro l
 induction l with
 | nil => intro a b _ h; exact h
 | cons x l ih =>
  intro a b h hb
  exact ih _ _ (qeI a h) (by rw [qgD x a.length a (qN0) h, hb])
end Go.Proofs.YtnpnfajgphpabaaGreat
namespace Go.Proofs.YtnpnfajgphpabaaGreat
set_option maxRecDepth 100000
set_option maxHeartbeats 4000000
open Go.RowKit Go.Shelf
section
attribute [local go_sem] Oper.semAt_some
theorem qg0 (n : Nat) (hn : 1 ≤ n) (l b b2 : Nat) (v u : Value) (xs ys : List Value) (hs : xs.length ≤ maxLen) (hs2 : ys.length ≤ maxLen) (J Jx : List (Fin (min xs.length ys.length)) → World → Prop)
 (hJ : ∀ pre W k, J pre W → J pre (W.drewN k))
 (hY : ∀ pre x W, J pre W → pre.length < min xs.length ys.length → YieldAt Fence.wide (n - 1) Tryz.prog l (pairV xs ys x) W fun e W' =>
   (e = .returned (.bool true) ∧ J (pre ++ [x]) W' ∧ KeepP b b2 v u W W') ∨ (e = .returned (.bool false) ∧ Jx (pre ++ [x]) W'))
 (W : World) (hc : W.cell? ⟨b, 0, none⟩ = some v) (hc2 : W.cell? ⟨b2, 0, none⟩ = some u) (hA : SlAt W v xs) (hU : SlAt W u ys) (h0 : J [] W) :
 CallsIn Fence.wide n Tryz.prog 127 #[.func (.yield l) #[] #[], .pointer (some ⟨b, 0, none⟩), .pointer (some ⟨b2, 0, none⟩)] W fun e W' => (∃ v, e = .returned v) ∧
  ((∃ zs, zs = List.finRange (min xs.length ys.length) ∧ J zs W') ∨ (∃ pre, pre <+: List.finRange (min xs.length ys.length) ∧ Jx pre W')) := by
 unfold maxLen at hs hs2
 obtain ⟨a, c, rfl, hle, hnn, hx⟩ := hA
 obtain ⟨a2, c2, rfl, hle2, hnn2, hx2⟩ := hU
 obtain ⟨m, hm⟩ : ∃ m, min xs.length ys.length = m := ⟨_, rfl⟩
 have hmi : min (xs.length : Int) (ys.length : Int) = (m : Int) := by omega
 have hmx : m ≤ xs.length := by omega
 have hmy : m ≤ ys.length := by omega
 refine callsIn_of_wp Tryz.func127 rfl trivial ?_ rfl
 simp only [Tryz.ntmps127, List.size_toArray, List.length_cons, List.length_nil, Nat.reduceAdd, Nat.reduceSub, Array.replicate_succ, Array.replicate_zero, List.push_toArray, List.append_toArray, List.nil_append, List.cons_append]
 gi_wp2
 gi_loopw [10] (fun i wr => ∃ k : Nat, k ≤ m ∧ i = .int .i64 k ∧ J ((List.finRange (min xs.length ys.length)).take k) wr ∧ KeepP b b2 (.slice a xs.length c) (.slice a2 ys.length c2) W wr)
  (fun i _ => m - (intOf i).toNat)
 case atStart => exact ⟨0, Nat.zero_le _, rfl, h0, KeepP.refl _ _ _ _ _⟩
 case round =>
  obtain ⟨k, hk, rfl, hJs, hnx⟩ := hrel
  by_cases hlt : k < m
  ·have hkx : k < xs.length := by omega
   have hky : k < ys.length := by omega
   rcases hx with e | ⟨g, off, rfl, hg, hcells⟩
   ·subst e; simp at hkx
   rcases hx2 with e | ⟨g2, off2, rfl, hg2, hcells2⟩
   ·subst e; simp at hky
   have hcell : wr.cell? ⟨g, off + k, none⟩ = some xs[k] := ((hnx.1.2 g (qa5 hkx)).cell).trans (hcells k hkx)
   have hcell2 : wr.cell? ⟨g2, off2 + k, none⟩ = some ys[k] := ((hnx.2.2 g2 (qa5 hky)).cell).trans (hcells2 k hky)
   have hkm : k < min xs.length ys.length := by omega
   have hY1 := fun q => hY _ ⟨k, hkm⟩ (wr.drewN q) (hJ _ _ q hJs) (by simp; omega)
   have hcb : wr.cell? ⟨b, 0, none⟩ = some (.slice (some ⟨g, off, none⟩) xs.length c) := hnx.1.1.cell.trans hc
   have hcb2 : wr.cell? ⟨b2, 0, none⟩ = some (.slice (some ⟨g2, off2, none⟩) ys.length c2) := hnx.2.1.cell.trans hc2
   have htk : (List.finRange (min xs.length ys.length)).take (k + 1) = (List.finRange (min xs.length ys.length)).take k ++ [⟨k, hkm⟩] := qan _
   have HTK := qH0 htk; clear htk
   have HM := qH0 hm
   unfold pairV at hY1
   generalize xs[k] = sv at *
   generalize ys[k] = tv at *
   clear hcells hcells2 hm hmi
   gi_wp2
   refine qbe 9 rfl qae (by kernel_rfl) ?_
   simp only [List.take_succ_cons, List.take_zero, List.drop_succ_cons, List.drop_zero]
   repeat (quiet_step_in (fail))
   refine wpQuietIn_nil ?_
   intro _ hw'
   obtain ⟨nq, hw''⟩ := hw'
   subst hw''
   obtain ⟨fn, tmps, assign, body, hy, hR⟩ := hY1 nq
   clear hY1
   gi_wp2
   refine hR.mono ?_
   rintro e W3 (⟨rfl, hJ3, hk3⟩ | ⟨rfl, hJx3⟩)
   ·gi_wp2
    go_roundw
    case rel => exact ⟨k + 1, by omega, by simp, by rw [HTK.out]; exact hJ3, hnx.trans ((KeepP.drewN _ _).trans hk3)⟩
    case measure => simp [intOf]; omega
   ·gi_wp2
    refine bodyPost_ret (results_none rfl _ _ _) rfl ?_
    exact ⟨⟨_, rfl⟩, .inr ⟨_, by rw [← HTK.out]; exact List.take_prefix _ _, hJx3⟩⟩
  ·obtain rfl : k = m := by omega
   gi_wp2
   go_end0
   exact ⟨⟨_, rfl⟩, .inl ⟨_, by rw [List.take_of_length_le (by simp; omega)], hJs⟩⟩
theorem qe8 (n : Nat) (hn : 1 ≤ n) (b b2 : Nat) (v u : Value) (xs ys : List Value) (hs : xs.length ≤ maxLen) (hs2 : ys.length ≤ maxLen) (w : World) (hb : b < w.heap.size) (hb2 : b2 < w.heap.size)
 (hc : w.cell? ⟨b, 0, none⟩ = some v) (hc2 : w.cell? ⟨b2, 0, none⟩ = some u) (hA : SlAt w v xs) (hU : SlAt w u ys) :
 SeqStopsK Fence.wide n Tryz.prog 127 #[.pointer (some ⟨b, 0, none⟩), .pointer (some ⟨b2, 0, none⟩)] (pairV xs ys) (KeepP b b2 v u) (fun zs => zs = List.finRange (min xs.length ys.length)) (fun pre => pre <+: List.finRange (min xs.length ys.length)) (min xs.length ys.length) w := fun l J Jx W hW hJ _ hY h0 =>
 qg0 n hn l b b2 v u xs ys hs hs2 J Jx (fun pre W' k h => hJ pre W' _ none h ⟨rfl, rfl, rfl, qN0, fun _ _ _ => rfl⟩ (fun _ e => by cases e)) hY W ((hW.cell (p := ⟨b, 0, none⟩) hb).trans hc) ((hW.cell (p := ⟨b2, 0, none⟩) hb2).trans hc2) (hA.below hW) (hU.below hW) h0
theorem qkt (a a2 : Option Addr) (n n2 c c2 : Nat) (w : World) :
 Calls Tryz.prog 120 #[.slice a n c, .slice a2 n2 c2] w fun e w' => e = .returned (.func (.func 127) #[] #[.pointer (some ⟨w.heap.size, 0, none⟩), .pointer (some ⟨w.heap.size + 1, 0, none⟩)]) ∧ w' = (w.alloc (.cells #[.slice a n c] 41)).alloc (.cells #[.slice a2 n2 c2] 41) := by
 go_enter Tryz.func120, Tryz.ntmps120
 go_wp2
 go_ret
 exact ⟨rfl, rfl⟩
theorem qjP (v u : Value) (xs ys : List Value) (cs : Nat → Int) (w : World) (hA : SlAt w v xs) (hU : SlAt w u ys) (hs : xs.length ≤ 1048576) (hs2 : ys.length ≤ 1048576)
 (hC : ∀ W, Below w.heap.size w W → ∀ j (h1 : j < xs.length) (h2 : j < ys.length), Calls Tryz.prog 105 #[xs[j], ys[j]] W fun e W' => e = .returned (.int .i64 (cs j)) ∧ Below W.heap.size W W') :
 Calls Tryz.prog 104 #[v, u, .func (.func 105) #[] #[]] w fun e w' => (∃ r, e = .returned (.int .i64 r) ∧ FirstC cs xs.length ys.length r) ∧ Below w.heap.size w w' := by
 obtain ⟨a, c, rfl, _⟩ := id hA
 obtain ⟨a2, c2, rfl, _⟩ := id hU
 refine (callsIn_wide (n := 5)).1 ?_
 refine callsIn_of_wp_marks Tryz.func104 rfl trivial ?_ rfl
 simp only [Tryz.ntmps104, List.size_toArray, List.length_cons, List.length_nil, Nat.reduceAdd, Nat.reduceSub, Array.replicate_succ, Array.replicate_zero, List.push_toArray, List.append_toArray, List.nil_append, List.cons_append]
 gi_wp2_with (refine ⟨trivial, ?_⟩; gi_at_call 120; refine (callsIn_wide.2 (qkt _ _ _ _ _ _ _)).mono ?_; rintro e w' ⟨rfl, rfl⟩)
 obtain ⟨W0, hW0⟩ : ∃ W0, ((((w.alloc (.cells #[.func (.func 105) #[] #[]] 157)).alloc (.cells #[.int .i64 0] 3)).alloc (.cells #[.slice a xs.length c] 41)).alloc (.cells #[.slice a2 ys.length c2] 41)) = W0 := ⟨_, rfl⟩
 have bF : Boxed W0 w.heap.size 157 (.func (.func 105) #[] #[]) := by rw [← hW0]; exact (((Boxed.new w _ _).alloc _).alloc _).alloc _
 have bI : Boxed W0 (w.heap.size + 1) 3 (.int .i64 0) := by
  have := Boxed.new (w.alloc (.cells #[.func (.func 105) #[] #[]] 157)) 3 (.int .i64 0)
  rw [World.size_alloc] at this
  rw [← hW0]; exact (this.alloc _).alloc _
 have bV : Boxed W0 (w.heap.size + 1 + 1) 41 (.slice a xs.length c) := by
  have := Boxed.new ((w.alloc (.cells #[.func (.func 105) #[] #[]] 157)).alloc (.cells #[.int .i64 0] 3)) 41 (.slice a xs.length c)
  rw [World.size_alloc, World.size_alloc] at this
  rw [← hW0]; exact this.alloc _
 have bU : Boxed W0 (w.heap.size + 1 + 1 + 1) 41 (.slice a2 ys.length c2) := by
  have := Boxed.new (((w.alloc (.cells #[.func (.func 105) #[] #[]] 157)).alloc (.cells #[.int .i64 0] 3)).alloc (.cells #[.slice a xs.length c] 41)) 41 (.slice a2 ys.length c2)
  rw [World.size_alloc, World.size_alloc, World.size_alloc] at this
  rw [← hW0]; exact this
 have hsz : W0.heap.size = w.heap.size + 4 := by rw [← hW0]; simp
 have hB0 : Below w.heap.size w W0 := by rw [← hW0]; exact ((((Below.refl _ w).alloc (qN0) _).alloc (by simp) _).alloc (by simp; omega) _).alloc (by simp; omega) _
 have hrow := hA.row_lt
 have hrow2 := hU.row_lt
 rw [hW0]
 have HZ := qH0 hsz; clear hsz hW0
 refine wpIn_rangeFunc_ownG rfl (by omega) (gf := 127) (lb := #[.pointer (some ⟨w.heap.size + 1 + 1, 0, none⟩), .pointer (some ⟨w.heap.size + 1 + 1 + 1, 0, none⟩)]) rfl trivial (enters_of Tryz.func127 (by kernel_rfl) rfl)
  (qe8 _ (by omega) (w.heap.size + 1 + 1) (w.heap.size + 1 + 1 + 1) (.slice a xs.length c) (.slice a2 ys.length c2) xs ys (by unfold maxLen; omega) (by unfold maxLen; omega) W0 (by rw [HZ.out]; omega) (by rw [HZ.out]; omega) bV.cell bU.cell (hA.below hB0) (hU.below hB0)) qdR
  (fun W l o o' hl h h1 h2 => ⟨qa9 (by rw [HZ.out]; omega) (fun g e => by have := hrow g e; rw [HZ.out]; omega) W l o o' hl h h1 h2, qa9 (by rw [HZ.out]; omega) (fun g e => by have := hrow2 g e; rw [HZ.out]; omega) W l o o' hl h h1 h2⟩) (qL0) (fun _ => rfl)
  (fun pre W => Below W0.heap.size W0 W ∧ ∀ j ∈ pre, cs j.val = 0)
  (fun k pre W => k = .ret ∧ Boxed W (w.heap.size + 1) 3 (.int .i64 (lastC cs pre)) ∧ Below w.heap.size w W ∧ ∃ p x, pre = p ++ [x] ∧ (∀ j ∈ p, cs j.val = 0) ∧ cs x.val ≠ 0)
  (OwnFrom.and (ownFrom_below (qN0) (qN0)) (ownFrom_pure _ _))
  (fun _ => OwnFrom.and (ownFrom_pure _ _) (OwnFrom.and (Own.from (boxed_own _ _ _) _) (OwnFrom.and (ownFrom_below (qN0) (by rw [HZ.out]; omega)) (ownFrom_pure _ _))))
  ⟨qL0, by simp⟩
  (fun j => { tmps := #[.slice a xs.length c, .slice a2 ys.length c2, .func (.func 105) #[] #[], undef, undef, .pointer (some ⟨w.heap.size, 0, none⟩), .pointer (some ⟨w.heap.size + 1, 0, none⟩), xs[j.val]'(by have := j.isLt; omega), ys[j.val]'(by have := j.isLt; omega), undef, .slice a xs.length c, .slice a2 ys.length c2, .func (.func 127) #[] #[.pointer (some ⟨w.heap.size + 1 + 1, 0, none⟩), .pointer (some ⟨w.heap.size + 1 + 1 + 1, 0, none⟩)], xs[j.val]'(by have := j.isLt; omega), ys[j.val]'(by have := j.isLt; omega), undef, undef, undef, undef, undef, undef, undef, undef, undef, undef, undef, undef], defers := [] }) ?assign ?body ?done ?stop
 case assign =>
  intro l x W K hK
  unfold pairV
  gi_wp2
  exact hK
 case body =>
  rintro l pre x W ⟨hB, hC0⟩ hlt
  have hxl := x.isLt
  have hx1 : x.val < xs.length := by omega
  have hx2 : x.val < ys.length := by omega
  have hBw : Below w.heap.size w W := hB0.trans (hB.mono (by rw [HZ.out]; omega))
  have hCk := hC W hBw x.val hx1 hx2
  have hFw : Boxed W w.heap.size 157 (.func (.func 105) #[] #[]) := (hB.block _ bF.lt).trans bF
  have hIw : Boxed W (w.heap.size + 1) 3 (.int .i64 0) := (hB.block _ bI.lt).trans bI
  have cF := hFw.cell
  have hsz1 := hB.size
  have hls := qa4 cs pre x
  generalize xs[x.val] = sv at *
  generalize ys[x.val] = tv at *
  generalize hq : cs x.val = q at *
  have HL := qH0 hls
  have HQ := qH0 hq
  clear hls hq
  by_cases hq0 : (q != 0) = true
  ·have hn : q ≠ 0 := by simpa using hq0
   have HN := qH0 hn; clear hn
   gi_wp2_with (refine ⟨trivial, ?_⟩; gi_at_call 105; refine (CallsIn.inRound l (callsIn_wide.2 hCk)).mono ?_; rintro e w2 ⟨rfl, hb2⟩; have hI2 : Boxed w2 (w.heap.size + 1) 3 (.int .i64 0) := (hb2.block _ hIw.lt).trans hIw; have c2 := hI2.cell; have f2 := hI2.frozen)
   have ko : KeepsOthers W w2 := ⟨hb2.size, fun k o hk _ => (hb2.block k (Array.getElem?_eq_some_iff.1 hk).1).trans hk⟩
   exact ⟨(ko.trans (KeepsOthers.setCell _ _ _)).from _, rfl, by rw [HL.out]; exact hI2.set _, (qB0 hBw hb2).setCell (p := ⟨w.heap.size + 1, 0, none⟩) (by simp) _, pre, x, rfl, hC0, by rw [HQ.out]; exact HN.out⟩
  ·have hn : (q != 0) = false := by simpa using hq0
   have HN := qH0 hn
   clear hq0
   gi_wp2_with (refine ⟨trivial, ?_⟩; gi_at_call 105; refine (CallsIn.inRound l (callsIn_wide.2 hCk)).mono ?_; rintro e w2 ⟨rfl, hb2⟩)
   have ko : KeepsOthers W w2 := ⟨hb2.size, fun k o hk _ => (hb2.block k (Array.getElem?_eq_some_iff.1 hk).1).trans hk⟩
   refine ⟨ko.from _, ⟨KeepN.below hb2 (by have := HZ.out; omega) (fun g e => by have := hrow g e; have := HZ.out; omega), KeepN.below hb2 (by have := HZ.out; omega) (fun g e => by have := hrow2 g e; have := HZ.out; omega)⟩, qB0 hB hb2, ?_⟩
   intro j hj
   rcases List.mem_append.1 hj with hj | hj
   ·exact hC0 j hj
   ·obtain rfl := List.mem_singleton.1 hj
    rw [HQ.out]; simpa using HN.out
 case done =>
  rintro D zs W hD rfl ⟨hB, hC0⟩ hK
  have hIw : Boxed W (w.heap.size + 1) 3 (.int .i64 0) := (hB.block _ bI.lt).trans bI
  have c0 := hIw.cell; have f0 := hIw.frozen
  have hBw : Below w.heap.size w W := hB0.trans (hB.mono (by rw [HZ.out]; omega))
  have hDn : w.heap.size + 1 ≠ D := by have := HZ.out; omega
  have HC0 := qH0 hC0; clear hC0
  gi_wp2_with (refine ⟨trivial, ?_⟩; gi_at_call 39; refine (callsIn_wide.2 (qa8 _ _ _)).mono ?_; rintro e w2 ⟨rfl, rfl⟩)
  refine ⟨by simp, .inl ⟨_, _, rfl, run_takeDeferred (qaw hK hDn.symm _), ?_⟩⟩
  refine ⟨_, qaC rfl Tryz.underlying3 _ _ rfl (qaq (hIw.set _) hDn _), ⟨_, rfl, .inr ⟨fun j h1 h2 => HC0.out ⟨j, by omega⟩ (List.mem_finRange _), rfl⟩⟩, ?_⟩
  exact qal (hBw.setCell (p := ⟨w.heap.size + 1, 0, none⟩) (by simp) _) (by have := HZ.out; omega) (qN0)
 case stop =>
  rintro D c3 pre W hD hp ⟨rfl, hI, hB, p, x, rfl, hC0, hne⟩ hK
  have hpf := qdQ hp
  have hDn : w.heap.size + 1 ≠ D := by have := HZ.out; omega
  rw [qa4] at hI
  have hxl := x.isLt
  gi_wp2
  refine ⟨by simp, .inl ⟨_, _, rfl, run_takeDeferred hK, ?_⟩⟩
  refine ⟨_, qaC rfl Tryz.underlying3 _ _ rfl (qaq hI hDn _), ⟨_, rfl, .inl ⟨x.val, by omega, by omega, fun j hj => hC0 _ (hpf j hj), hne, rfl⟩⟩, ?_⟩
  exact qal hB (by have := HZ.out; omega) (qN0)
end
end Go.Proofs.YtnpnfajgphpabaaGreat
namespace Go.Proofs.YtnpnfajgphpabaaGreat
set_option maxRecDepth 100000
set_option maxHeartbeats 4000000
open Go.RowKit Go.Shelf
section
attribute [local go_sem] Oper.semAt_some
theorem qgV (n : Nat) (hn : 1 ≤ n) (l b b2 : Nat) (v u : Value) (xs ys : List Value) (hs : xs.length ≤ maxLen) (hs2 : ys.length ≤ maxLen) (J Jx : List (Fin (min xs.length ys.length)) → World → Prop)
 (hJ : ∀ pre W k, J pre W → J pre (W.drewN k))
 (hY : ∀ pre x W, J pre W → pre.length < min xs.length ys.length → YieldAt Fence.wide (n - 1) Tryz.prog l (pairV xs ys x) W fun e W' =>
   (e = .returned (.bool true) ∧ J (pre ++ [x]) W' ∧ KeepP b b2 v u W W') ∨ (e = .returned (.bool false) ∧ Jx (pre ++ [x]) W'))
 (W : World) (hc : W.cell? ⟨b, 0, none⟩ = some v) (hc2 : W.cell? ⟨b2, 0, none⟩ = some u) (hA : SlAt W v xs) (hU : SlAt W u ys) (h0 : J [] W) :
 CallsIn Fence.wide n Tryz.prog 128 #[.func (.yield l) #[] #[], .pointer (some ⟨b, 0, none⟩), .pointer (some ⟨b2, 0, none⟩)] W fun e W' => (∃ v, e = .returned v) ∧
  ((∃ zs, zs = List.finRange (min xs.length ys.length) ∧ J zs W') ∨ (∃ pre, pre <+: List.finRange (min xs.length ys.length) ∧ Jx pre W')) := by
 unfold maxLen at hs hs2
 obtain ⟨a, c, rfl, hle, hnn, hx⟩ := hA
 obtain ⟨a2, c2, rfl, hle2, hnn2, hx2⟩ := hU
 obtain ⟨m, hm⟩ : ∃ m, min xs.length ys.length = m := ⟨_, rfl⟩
 have hmi : min (xs.length : Int) (ys.length : Int) = (m : Int) := by omega
 have hmx : m ≤ xs.length := by omega
 have hmy : m ≤ ys.length := by omega
 refine callsIn_of_wp Tryz.func128 rfl trivial ?_ rfl
 simp only [Tryz.ntmps128, List.size_toArray, List.length_cons, List.length_nil, Nat.reduceAdd, Nat.reduceSub, Array.replicate_succ, Array.replicate_zero, List.push_toArray, List.append_toArray, List.nil_append, List.cons_append]
 gi_wp2
 gi_loopw [10] (fun i wr => ∃ k : Nat, k ≤ m ∧ i = .int .i64 k ∧ J ((List.finRange (min xs.length ys.length)).take k) wr ∧ KeepP b b2 (.slice a xs.length c) (.slice a2 ys.length c2) W wr)
  (fun i _ => m - (intOf i).toNat)
 case atStart => exact ⟨0, Nat.zero_le _, rfl, h0, KeepP.refl _ _ _ _ _⟩
 case round =>
  obtain ⟨k, hk, rfl, hJs, hnx⟩ := hrel
  by_cases hlt : k < m
  ·have hkx : k < xs.length := by omega
   have hky : k < ys.length := by omega
   rcases hx with e | ⟨g, off, rfl, hg, hcells⟩
   ·subst e; simp at hkx
   rcases hx2 with e | ⟨g2, off2, rfl, hg2, hcells2⟩
   ·subst e; simp at hky
   have hcell : wr.cell? ⟨g, off + k, none⟩ = some xs[k] := ((hnx.1.2 g (qa5 hkx)).cell).trans (hcells k hkx)
   have hcell2 : wr.cell? ⟨g2, off2 + k, none⟩ = some ys[k] := ((hnx.2.2 g2 (qa5 hky)).cell).trans (hcells2 k hky)
   have hkm : k < min xs.length ys.length := by omega
   have hY1 := fun q => hY _ ⟨k, hkm⟩ (wr.drewN q) (hJ _ _ q hJs) (by simp; omega)
   have hcb : wr.cell? ⟨b, 0, none⟩ = some (.slice (some ⟨g, off, none⟩) xs.length c) := hnx.1.1.cell.trans hc
   have hcb2 : wr.cell? ⟨b2, 0, none⟩ = some (.slice (some ⟨g2, off2, none⟩) ys.length c2) := hnx.2.1.cell.trans hc2
   have htk : (List.finRange (min xs.length ys.length)).take (k + 1) = (List.finRange (min xs.length ys.length)).take k ++ [⟨k, hkm⟩] := qan _
   have HTK := qH0 htk; clear htk
   have HM := qH0 hm
   unfold pairV at hY1
   generalize xs[k] = sv at *
   generalize ys[k] = tv at *
   clear hcells hcells2 hm hmi
   gi_wp2
   refine qbe 9 rfl qae (by kernel_rfl) ?_
   simp only [List.take_succ_cons, List.take_zero, List.drop_succ_cons, List.drop_zero]
   repeat (quiet_step_in (fail))
   refine wpQuietIn_nil ?_
   intro _ hw'
   obtain ⟨nq, hw''⟩ := hw'
   subst hw''
   obtain ⟨fn, tmps, assign, body, hy, hR⟩ := hY1 nq
   clear hY1
   gi_wp2
   refine hR.mono ?_
   rintro e W3 (⟨rfl, hJ3, hk3⟩ | ⟨rfl, hJx3⟩)
   ·gi_wp2
    go_roundw
    case rel => exact ⟨k + 1, by omega, by simp, by rw [HTK.out]; exact hJ3, hnx.trans ((KeepP.drewN _ _).trans hk3)⟩
    case measure => simp [intOf]; omega
   ·gi_wp2
    refine bodyPost_ret (results_none rfl _ _ _) rfl ?_
    exact ⟨⟨_, rfl⟩, .inr ⟨_, by rw [← HTK.out]; exact List.take_prefix _ _, hJx3⟩⟩
  ·obtain rfl : k = m := by omega
   gi_wp2
   go_end0
   exact ⟨⟨_, rfl⟩, .inl ⟨_, by rw [List.take_of_length_le (by simp; omega)], hJs⟩⟩
theorem qff (n : Nat) (hn : 1 ≤ n) (b b2 : Nat) (v u : Value) (xs ys : List Value) (hs : xs.length ≤ maxLen) (hs2 : ys.length ≤ maxLen) (w : World) (hb : b < w.heap.size) (hb2 : b2 < w.heap.size)
 (hc : w.cell? ⟨b, 0, none⟩ = some v) (hc2 : w.cell? ⟨b2, 0, none⟩ = some u) (hA : SlAt w v xs) (hU : SlAt w u ys) :
 SeqStopsK Fence.wide n Tryz.prog 128 #[.pointer (some ⟨b, 0, none⟩), .pointer (some ⟨b2, 0, none⟩)] (pairV xs ys) (KeepP b b2 v u) (fun zs => zs = List.finRange (min xs.length ys.length)) (fun pre => pre <+: List.finRange (min xs.length ys.length)) (min xs.length ys.length) w := fun l J Jx W hW hJ _ hY h0 =>
 qgV n hn l b b2 v u xs ys hs hs2 J Jx (fun pre W' k h => hJ pre W' _ none h ⟨rfl, rfl, rfl, qN0, fun _ _ _ => rfl⟩ (fun _ e => by cases e)) hY W ((hW.cell (p := ⟨b, 0, none⟩) hb).trans hc) ((hW.cell (p := ⟨b2, 0, none⟩) hb2).trans hc2) (hA.below hW) (hU.below hW) h0
theorem qkG (a a2 : Option Addr) (n n2 c c2 : Nat) (w : World) :
 Calls Tryz.prog 122 #[.slice a n c, .slice a2 n2 c2] w fun e w' => e = .returned (.func (.func 128) #[] #[.pointer (some ⟨w.heap.size, 0, none⟩), .pointer (some ⟨w.heap.size + 1, 0, none⟩)]) ∧ w' = (w.alloc (.cells #[.slice a n c] 22)).alloc (.cells #[.slice a2 n2 c2] 22) := by
 go_enter Tryz.func122, Tryz.ntmps122
 go_wp2
 go_ret
 exact ⟨rfl, rfl⟩
theorem qkB (v u : Value) (xs ys : List Value) (cs : Nat → Int) (w : World) (hA : SlAt w v xs) (hU : SlAt w u ys) (hs : xs.length ≤ 1048576) (hs2 : ys.length ≤ 1048576)
 (hC : ∀ W, Below w.heap.size w W → ∀ j (h1 : j < xs.length) (h2 : j < ys.length), Calls Tryz.prog 107 #[xs[j], ys[j]] W fun e W' => e = .returned (.int .i64 (cs j)) ∧ Below W.heap.size W W') :
 Calls Tryz.prog 106 #[v, u, .func (.func 107) #[] #[]] w fun e w' => (∃ r, e = .returned (.int .i64 r) ∧ FirstC cs xs.length ys.length r) ∧ Below w.heap.size w w' := by
 obtain ⟨a, c, rfl, _⟩ := id hA
 obtain ⟨a2, c2, rfl, _⟩ := id hU
 refine (callsIn_wide (n := 5)).1 ?_
 refine callsIn_of_wp_marks Tryz.func106 rfl trivial ?_ rfl
 simp only [Tryz.ntmps106, List.size_toArray, List.length_cons, List.length_nil, Nat.reduceAdd, Nat.reduceSub, Array.replicate_succ, Array.replicate_zero, List.push_toArray, List.append_toArray, List.nil_append, List.cons_append]
 gi_wp2_with (refine ⟨trivial, ?_⟩; gi_at_call 122; refine (callsIn_wide.2 (qkG _ _ _ _ _ _ _)).mono ?_; rintro e w' ⟨rfl, rfl⟩)
 obtain ⟨W0, hW0⟩ : ∃ W0, ((((w.alloc (.cells #[.func (.func 107) #[] #[]] 125)).alloc (.cells #[.int .i64 0] 3)).alloc (.cells #[.slice a xs.length c] 22)).alloc (.cells #[.slice a2 ys.length c2] 22)) = W0 := ⟨_, rfl⟩
 have bF : Boxed W0 w.heap.size 125 (.func (.func 107) #[] #[]) := by rw [← hW0]; exact (((Boxed.new w _ _).alloc _).alloc _).alloc _
 have bI : Boxed W0 (w.heap.size + 1) 3 (.int .i64 0) := by
  have := Boxed.new (w.alloc (.cells #[.func (.func 107) #[] #[]] 125)) 3 (.int .i64 0)
  rw [World.size_alloc] at this
  rw [← hW0]; exact (this.alloc _).alloc _
 have bV : Boxed W0 (w.heap.size + 1 + 1) 22 (.slice a xs.length c) := by
  have := Boxed.new ((w.alloc (.cells #[.func (.func 107) #[] #[]] 125)).alloc (.cells #[.int .i64 0] 3)) 22 (.slice a xs.length c)
  rw [World.size_alloc, World.size_alloc] at this
  rw [← hW0]; exact this.alloc _
 have bU : Boxed W0 (w.heap.size + 1 + 1 + 1) 22 (.slice a2 ys.length c2) := by
  have := Boxed.new (((w.alloc (.cells #[.func (.func 107) #[] #[]] 125)).alloc (.cells #[.int .i64 0] 3)).alloc (.cells #[.slice a xs.length c] 22)) 22 (.slice a2 ys.length c2)
  rw [World.size_alloc, World.size_alloc, World.size_alloc] at this
  rw [← hW0]; exact this
 have hsz : W0.heap.size = w.heap.size + 4 := by rw [← hW0]; simp
 have hB0 : Below w.heap.size w W0 := by rw [← hW0]; exact ((((Below.refl _ w).alloc (qN0) _).alloc (by simp) _).alloc (by simp; omega) _).alloc (by simp; omega) _
 have hrow := hA.row_lt
 have hrow2 := hU.row_lt
 rw [hW0]
 have HZ := qH0 hsz; clear hsz hW0
 refine wpIn_rangeFunc_ownG rfl (by omega) (gf := 128) (lb := #[.pointer (some ⟨w.heap.size + 1 + 1, 0, none⟩), .pointer (some ⟨w.heap.size + 1 + 1 + 1, 0, none⟩)]) rfl trivial (enters_of Tryz.func128 (by kernel_rfl) rfl)
  (qff _ (by omega) (w.heap.size + 1 + 1) (w.heap.size + 1 + 1 + 1) (.slice a xs.length c) (.slice a2 ys.length c2) xs ys (by unfold maxLen; omega) (by unfold maxLen; omega) W0 (by rw [HZ.out]; omega) (by rw [HZ.out]; omega) bV.cell bU.cell (hA.below hB0) (hU.below hB0)) qdR
  (fun W l o o' hl h h1 h2 => ⟨qa9 (by rw [HZ.out]; omega) (fun g e => by have := hrow g e; rw [HZ.out]; omega) W l o o' hl h h1 h2, qa9 (by rw [HZ.out]; omega) (fun g e => by have := hrow2 g e; rw [HZ.out]; omega) W l o o' hl h h1 h2⟩) (qL0) (fun _ => rfl)
  (fun pre W => Below W0.heap.size W0 W ∧ ∀ j ∈ pre, cs j.val = 0)
  (fun k pre W => k = .ret ∧ Boxed W (w.heap.size + 1) 3 (.int .i64 (lastC cs pre)) ∧ Below w.heap.size w W ∧ ∃ p x, pre = p ++ [x] ∧ (∀ j ∈ p, cs j.val = 0) ∧ cs x.val ≠ 0)
  (OwnFrom.and (ownFrom_below (qN0) (qN0)) (ownFrom_pure _ _))
  (fun _ => OwnFrom.and (ownFrom_pure _ _) (OwnFrom.and (Own.from (boxed_own _ _ _) _) (OwnFrom.and (ownFrom_below (qN0) (by rw [HZ.out]; omega)) (ownFrom_pure _ _))))
  ⟨qL0, by simp⟩
  (fun j => { tmps := #[.slice a xs.length c, .slice a2 ys.length c2, .func (.func 107) #[] #[], undef, undef, .pointer (some ⟨w.heap.size, 0, none⟩), .pointer (some ⟨w.heap.size + 1, 0, none⟩), xs[j.val]'(by have := j.isLt; omega), ys[j.val]'(by have := j.isLt; omega), undef, .slice a xs.length c, .slice a2 ys.length c2, .func (.func 128) #[] #[.pointer (some ⟨w.heap.size + 1 + 1, 0, none⟩), .pointer (some ⟨w.heap.size + 1 + 1 + 1, 0, none⟩)], xs[j.val]'(by have := j.isLt; omega), ys[j.val]'(by have := j.isLt; omega), undef, undef, undef, undef, undef, undef, undef, undef, undef, undef, undef, undef], defers := [] }) ?assign ?body ?done ?stop
 case assign =>
  intro l x W K hK
  unfold pairV
  gi_wp2
  exact hK
 case body =>
  rintro l pre x W ⟨hB, hC0⟩ hlt
  have hxl := x.isLt
  have hx1 : x.val < xs.length := by omega
  have hx2 : x.val < ys.length := by omega
  have hBw : Below w.heap.size w W := hB0.trans (hB.mono (by rw [HZ.out]; omega))
  have hCk := hC W hBw x.val hx1 hx2
  have hFw : Boxed W w.heap.size 125 (.func (.func 107) #[] #[]) := (hB.block _ bF.lt).trans bF
  have hIw : Boxed W (w.heap.size + 1) 3 (.int .i64 0) := (hB.block _ bI.lt).trans bI
  have cF := hFw.cell
  have hsz1 := hB.size
  have hls := qa4 cs pre x
  generalize xs[x.val] = sv at *
  generalize ys[x.val] = tv at *
  generalize hq : cs x.val = q at *
  have HL := qH0 hls
  have HQ := qH0 hq
  clear hls hq
  by_cases hq0 : (q != 0) = true
  ·have hn : q ≠ 0 := by simpa using hq0
   have HN := qH0 hn; clear hn
   gi_wp2_with (refine ⟨trivial, ?_⟩; gi_at_call 107; refine (CallsIn.inRound l (callsIn_wide.2 hCk)).mono ?_; rintro e w2 ⟨rfl, hb2⟩; have hI2 : Boxed w2 (w.heap.size + 1) 3 (.int .i64 0) := (hb2.block _ hIw.lt).trans hIw; have c2 := hI2.cell; have f2 := hI2.frozen)
   have ko : KeepsOthers W w2 := ⟨hb2.size, fun k o hk _ => (hb2.block k (Array.getElem?_eq_some_iff.1 hk).1).trans hk⟩
   exact ⟨(ko.trans (KeepsOthers.setCell _ _ _)).from _, rfl, by rw [HL.out]; exact hI2.set _, (qB0 hBw hb2).setCell (p := ⟨w.heap.size + 1, 0, none⟩) (by simp) _, pre, x, rfl, hC0, by rw [HQ.out]; exact HN.out⟩
  ·have hn : (q != 0) = false := by simpa using hq0
   have HN := qH0 hn
   clear hq0
   gi_wp2_with (refine ⟨trivial, ?_⟩; gi_at_call 107; refine (CallsIn.inRound l (callsIn_wide.2 hCk)).mono ?_; rintro e w2 ⟨rfl, hb2⟩)
   have ko : KeepsOthers W w2 := ⟨hb2.size, fun k o hk _ => (hb2.block k (Array.getElem?_eq_some_iff.1 hk).1).trans hk⟩
   refine ⟨ko.from _, ⟨KeepN.below hb2 (by have := HZ.out; omega) (fun g e => by have := hrow g e; have := HZ.out; omega), KeepN.below hb2 (by have := HZ.out; omega) (fun g e => by have := hrow2 g e; have := HZ.out; omega)⟩, qB0 hB hb2, ?_⟩
   intro j hj
   rcases List.mem_append.1 hj with hj | hj
   ·exact hC0 j hj
   ·obtain rfl := List.mem_singleton.1 hj
    rw [HQ.out]; simpa using HN.out
 case done =>
  rintro D zs W hD rfl ⟨hB, hC0⟩ hK
  have hIw : Boxed W (w.heap.size + 1) 3 (.int .i64 0) := (hB.block _ bI.lt).trans bI
  have c0 := hIw.cell; have f0 := hIw.frozen
  have hBw : Below w.heap.size w W := hB0.trans (hB.mono (by rw [HZ.out]; omega))
  have hDn : w.heap.size + 1 ≠ D := by have := HZ.out; omega
  have HC0 := qH0 hC0; clear hC0
  gi_wp2_with (refine ⟨trivial, ?_⟩; gi_at_call 39; refine (callsIn_wide.2 (qa8 _ _ _)).mono ?_; rintro e w2 ⟨rfl, rfl⟩)
  refine ⟨by simp, .inl ⟨_, _, rfl, run_takeDeferred (qaw hK hDn.symm _), ?_⟩⟩
  refine ⟨_, qaC rfl Tryz.underlying3 _ _ rfl (qaq (hIw.set _) hDn _), ⟨_, rfl, .inr ⟨fun j h1 h2 => HC0.out ⟨j, by omega⟩ (List.mem_finRange _), rfl⟩⟩, ?_⟩
  exact qal (hBw.setCell (p := ⟨w.heap.size + 1, 0, none⟩) (by simp) _) (by have := HZ.out; omega) (qN0)
 case stop =>
  rintro D c3 pre W hD hp ⟨rfl, hI, hB, p, x, rfl, hC0, hne⟩ hK
  have hpf := qdQ hp
  have hDn : w.heap.size + 1 ≠ D := by have := HZ.out; omega
  rw [qa4] at hI
  have hxl := x.isLt
  gi_wp2
  refine ⟨by simp, .inl ⟨_, _, rfl, run_takeDeferred hK, ?_⟩⟩
  refine ⟨_, qaC rfl Tryz.underlying3 _ _ rfl (qaq hI hDn _), ⟨_, rfl, .inl ⟨x.val, by omega, by omega, fun j hj => hC0 _ (hpf j hj), hne, rfl⟩⟩, ?_⟩
  exact qal hB (by have := HZ.out; omega) (qN0)
end
end Go.Proofs.YtnpnfajgphpabaaGreat
