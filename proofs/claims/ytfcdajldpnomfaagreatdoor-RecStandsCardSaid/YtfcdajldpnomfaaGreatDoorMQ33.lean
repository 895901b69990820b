/-
  Records: plain data, their order, rows in their own order.
-/
import Derived.Test.YtfcdajldpnomfaaGreatDoorMQ27
import Derived.Test.YtfcdajldpnomfaaGreatDoorMQ36
import Derived.Test.YtfcdajldpnomfaaGreatDoorMQ37
import Derived.Test.YtfcdajldpnomfaaGreatDoorMQ22
import Derived.Lib.AppendIntMem
import Derived.Test.YtfcdajldpnomfaaGreatDoorMQ13
import Derived.Test.YtfcdajldpnomfaaGreatDoorMQ25
namespace Go.Proofs.YtfcdajldpnomfaaGreatDoor
set_option maxRecDepth 20000
open Go.RowKit Go.Shelf
open Stb (COrd)

theorem cord_orI {α : Type} {f g : α → α → Int} (hf : COrd f) (hg : COrd g) : COrd (fun a b => orI (f a b) (g a b)) := by
  refine ⟨fun x y => orI_swap (hf.anti x y) (hg.anti x y), fun x y z h1 h2 => ?_⟩
  have a1 := hf.anti x y; have a2 := hf.anti y z; have a3 := hf.anti x z
  have t1 := hf.trans x y z; have t2 := hf.trans y z x; have t3 := hf.trans z x y
  have u1 := hg.trans x y z
  unfold orI at *
  by_cases c1 : f x y = 0 <;> by_cases c2 : f y z = 0 <;> by_cases c3 : f x z = 0 <;> simp only [c1, c2, c3, if_true, if_false] at h1 h2 ⊢ <;> first | omega | exact u1 h1 h2
theorem cord_on {α β : Type} {f : β → β → Int} (hf : COrd f) (p : α → β) : COrd (fun a b => f (p a) (p b)) := ⟨fun _ _ => hf.anti _ _, fun _ _ _ => hf.trans _ _ _⟩
theorem cord_cmpI : COrd cmpI := ⟨cmpI_swap, fun a b c => by
  rcases cmpI_cases a b with ⟨h, h2⟩ | ⟨h, h2⟩ | ⟨h, h2⟩ <;> rcases cmpI_cases b c with ⟨g, g2⟩ | ⟨g, g2⟩ | ⟨g, g2⟩ <;> rcases cmpI_cases a c with ⟨k, k2⟩ | ⟨k, k2⟩ | ⟨k, k2⟩ <;> omega⟩
theorem cmpL_trans {α : Type} {f : α → α → Int} (hf : COrd f) : ∀ a b c : List α, cmpL f a b ≤ 0 → cmpL f b c ≤ 0 → cmpL f a c ≤ 0
  | [], [], _, _, h2 => h2
  | [], _ :: _, [], _, _ => by simp [cmpL]
  | [], _ :: _, _ :: _, _, _ => by simp [cmpL]
  | _ :: _, [], _, h1, _ => by simp [cmpL] at h1
  | _ :: _, _ :: _, [], _, h2 => by simp [cmpL] at h2
  | x :: r, y :: s, z :: t, h1, h2 => by
    have ih := cmpL_trans hf r s t
    have a1 := hf.anti x y; have a2 := hf.anti y z; have a3 := hf.anti x z
    have t1 := hf.trans x y z; have t2 := hf.trans y z x; have t3 := hf.trans z x y
    simp only [cmpL] at *
    by_cases c1 : f x y = 0 <;> by_cases c2 : f y z = 0 <;> by_cases c3 : f x z = 0 <;> simp only [c1, c2, c3, if_true, if_false] at h1 h2 ⊢ <;> first | omega | exact ih h1 h2
theorem cord_cmpL {α : Type} {f : α → α → Int} (hf : COrd f) : COrd (cmpL f) := ⟨fun x y => cmpL_swap hf.anti x y, cmpL_trans hf⟩
theorem cord_compareN : COrd compareN := ⟨compareN_swap, compareN_trans⟩
theorem cord_orderM : COrd orderM := by
  have e : orderM = cmpL cmpB := by funext a b; exact orderM_cmpL a b
  rw [e]
  exact cord_cmpL (cord_on cord_cmpI (fun b : UInt8 => (b.toNat : Int)))
theorem cord_compareD : COrd compareD :=
  cord_orI (cord_on cord_cmpI Dat.ty) (cord_orI (cord_on (cord_cmpL cord_compareN) Dat.names) (cord_orI (cord_on (cord_cmpL (cord_on cord_cmpI (fun n : Nat => (n : Int)))) Dat.nums) (cord_orI (cord_on (cord_cmpL cord_orderM) Dat.texts) (cord_on (cord_cmpL (cord_on cord_cmpI (fun b : UInt8 => (b.toNat : Int)))) Dat.raw))))

structure Rc where
  owner : Nm
  ttl : Nat
  data : Dat
def compareR (a b : Rc) : Int := orI (compareN a.owner b.owner) (compareD a.data b.data)
def sameR (a b : Rc) : Bool := compareR a b == 0
theorem cord_compareR : COrd compareR := cord_orI (cord_on cord_compareN Rc.owner) (cord_on cord_compareD Rc.data)
theorem compareR_range (a b : Rc) : compareR a b = -1 ∨ compareR a b = 0 ∨ compareR a b = 1 := orI_range (compareN_range _ _) (compareD_range _ _)
theorem compareR_self (a : Rc) : compareR a a = 0 := by have := cord_compareR.anti a a; omega

/-! A row in its own order, as the document makes it. -/
def minT (a b : Nat) : Nat := if b < a then b else a
def insR : List Rc → Rc → List Rc
  | [], x => [x]
  | y :: r, x => if compareR y x < 0 then y :: insR r x else if compareR y x = 0 then ⟨y.owner, minT y.ttl x.ttl, y.data⟩ :: r else x :: y :: r
def canonM (l : List Rc) : List Rc := l.foldl insR []

/-! .. and as the program makes it: sorted, run by run. -/
def insS : List Rc → Rc → List Rc
  | [], x => [x]
  | y :: r, x => if compareR y x ≤ 0 then y :: insS r x else x :: y :: r
def sortM (l : List Rc) : List Rc := l.foldl insS []
def leastM (t : Nat) (l : List Rc) : Nat := l.foldl (fun m x => minT m x.ttl) t
def grpM : Nat → List Rc → List Rc
  | 0, _ => []
  | _, [] => []
  | n + 1, y :: r => ⟨y.owner, leastM y.ttl (r.takeWhile (sameR y)), y.data⟩ :: grpM n (r.dropWhile (sameR y))
theorem grpM_more : ∀ (n m : Nat) (l : List Rc), l.length ≤ n → l.length ≤ m → grpM n l = grpM m l
  | 0, 0, l, _, _ => rfl
  | 0, m + 1, l, h, _ => by
    have : l = [] := List.eq_nil_of_length_eq_zero (by omega)
    subst this; rfl
  | n + 1, 0, l, _, h => by
    have : l = [] := List.eq_nil_of_length_eq_zero (by omega)
    subst this; rfl
  | n + 1, m + 1, [], _, _ => rfl
  | n + 1, m + 1, y :: r, h1, h2 => by
    have hl : (r.dropWhile (sameR y)).length ≤ r.length := (List.dropWhile_sublist _).length_le
    simp only [List.length_cons] at h1 h2
    simp only [grpM]
    rw [grpM_more n m _ (by omega) (by omega)]
def grp (l : List Rc) : List Rc := grpM l.length l
theorem grp_cons (y : Rc) (r : List Rc) : grp (y :: r) = ⟨y.owner, leastM y.ttl (r.takeWhile (sameR y)), y.data⟩ :: grp (r.dropWhile (sameR y)) := by
  have hl : (r.dropWhile (sameR y)).length ≤ r.length := (List.dropWhile_sublist _).length_le
  unfold grp
  simp only [List.length_cons, grpM]
  rw [grpM_more r.length _ _ hl (Nat.le_refl _)]
theorem grp_nil : grp [] = [] := rfl

def RisesR (l : List Rc) : Prop := l.Pairwise fun a b => compareR a b ≤ 0

theorem insS_eq {y x : Rc} (hyx : compareR y x = 0) : ∀ (E R : List Rc), (∀ e ∈ E, compareR y e = 0) → (∀ z ∈ R.head?, 0 < compareR z y) → insS (E ++ R) x = E ++ x :: R
  | [], R, _, h => by
    cases R with
    | nil => rfl
    | cons z R =>
      have hz : 0 < compareR z y := h z (by simp)
      have t := cord_compareR.trans z x y
      have a := cord_compareR.anti x y
      have : ¬ compareR z x ≤ 0 := by intro hh; have := t hh (by have := cord_compareR.anti y x; omega); omega
      simp [insS, this]
  | e :: E, R, h1, h2 => by
    have he : compareR y e = 0 := h1 e (by simp)
    have t := cord_compareR.trans e y x
    have a := cord_compareR.anti y e
    have : compareR e x ≤ 0 := t (by omega) (by omega)
    simp only [List.cons_append, insS, if_pos this]
    rw [insS_eq hyx E R (fun e h => h1 e (by simp [h])) h2]
theorem insS_lt {y x : Rc} (hyx : compareR y x < 0) : ∀ (E R : List Rc), (∀ e ∈ E, compareR y e = 0) → insS (E ++ R) x = E ++ insS R x
  | [], R, _ => rfl
  | e :: E, R, h1 => by
    have he : compareR y e = 0 := h1 e (by simp)
    have t := cord_compareR.trans e y x
    have a := cord_compareR.anti y e
    have : compareR e x ≤ 0 := t (by omega) (by omega)
    simp only [List.cons_append, insS, if_pos this]
    rw [insS_lt hyx E R (fun e h => h1 e (by simp [h]))]
theorem leastM_snoc (t : Nat) (E : List Rc) (x : Rc) : leastM t (E ++ [x]) = minT (leastM t E) x.ttl := by simp [leastM, List.foldl_append]
theorem takeWhile_app {p : Rc → Bool} : ∀ (E R : List Rc), (∀ e ∈ E, p e = true) → (∀ z ∈ R.head?, p z = false) → (E ++ R).takeWhile p = E ∧ (E ++ R).dropWhile p = R
  | [], [], _, _ => ⟨rfl, rfl⟩
  | [], z :: R, _, h => by
    have : p z = false := h z (by simp)
    simp [this]
  | e :: E, R, h1, h2 => by
    have he := h1 e (by simp)
    have ih := takeWhile_app E R (fun e h => h1 e (by simp [h])) h2
    simp only [List.cons_append, List.takeWhile_cons, List.dropWhile_cons, he, if_true]
    exact ⟨by rw [ih.1], ih.2⟩
theorem insS_mem {x : Rc} : ∀ (l : List Rc) (z : Rc), z ∈ insS l x → z = x ∨ z ∈ l
  | [], z, h => by simp [insS] at h; exact .inl h
  | y :: r, z, h => by
    simp only [insS] at h
    split at h
    · rcases List.mem_cons.1 h with rfl | h
      · simp
      · rcases insS_mem r z h with h | h <;> simp [h]
    · simp at h; rcases h with h | h | h <;> simp [h]
theorem insS_head {x : Rc} (l : List Rc) (z : Rc) (h : z ∈ (insS l x).head?) : z = x ∨ z ∈ l.head? := by
  cases l with
  | nil => simp [insS] at h; exact .inl h.symm
  | cons y r =>
    simp only [insS] at h
    split at h
    · right; simpa using h
    · left; simp at h; exact h.symm

theorem dropWhile_head (p : Rc → Bool) : ∀ (l : List Rc) (z : Rc), z ∈ (l.dropWhile p).head? → p z = false
  | [], z, h => by simp at h
  | y :: r, z, h => by
    rw [List.dropWhile_cons] at h
    split at h
    · exact dropWhile_head p r z h
    · rename_i hy
      simp at h; subst h; simpa using hy

/-- One record more, in its place. -/
theorem grp_insS (x : Rc) : ∀ (n : Nat) (l : List Rc), l.length ≤ n → RisesR l → grp (insS l x) = insR (grp l) x
  | _, [], _, _ => by simp [insS, grp_cons, grp_nil, insR, leastM]
  | 0, y :: r, h, _ => by simp at h
  | n + 1, y :: r, h, hR => by
    have hl : (r.dropWhile (sameR y)).length ≤ r.length := (List.dropWhile_sublist _).length_le
    have hp := List.takeWhile_append_dropWhile (p := sameR y) (l := r)
    have hE : ∀ e ∈ r.takeWhile (sameR y), compareR y e = 0 := fun e he => by
      have hh : ∀ (l : List Rc), e ∈ l.takeWhile (sameR y) → sameR y e = true := by
        intro l
        induction l with
        | nil => intro h; simp at h
        | cons a l ih =>
          intro h
          rw [List.takeWhile_cons] at h
          split at h
          · rename_i ha
            rcases List.mem_cons.1 h with rfl | h
            · exact ha
            · exact ih h
          · simp at h
      have := hh r he
      simpa [sameR] using this
    have hH : ∀ z ∈ (r.dropWhile (sameR y)).head?, 0 < compareR z y := fun z hz => by
      have h1 := dropWhile_head (sameR y) r z hz
      have h2 : z ∈ r := (List.dropWhile_sublist _).mem (List.mem_of_mem_head? hz)
      have h3 : compareR y z ≤ 0 := (List.pairwise_cons.1 hR).1 z h2
      have := cord_compareR.anti y z
      simp [sameR] at h1
      omega
    have hRR : RisesR (r.dropWhile (sameR y)) := List.Pairwise.sublist (List.dropWhile_sublist _) (List.pairwise_cons.1 hR).2
    simp only [List.length_cons] at h
    generalize hEE : r.takeWhile (sameR y) = E at *
    generalize hDD : r.dropWhile (sameR y) = R at *
    have hEs : ∀ e ∈ E, sameR y e = true := fun e he => by simp [sameR, hE e he]
    rw [grp_cons, hEE, hDD]
    have hcy : ∀ t, compareR ⟨y.owner, t, y.data⟩ x = compareR y x := fun t => rfl
    simp only [insR, hcy]
    by_cases c : compareR y x < 0
    · rw [if_pos c]
      have e1 : insS (y :: r) x = y :: (E ++ insS R x) := by
        simp only [insS, if_pos (show compareR y x ≤ 0 by omega)]
        rw [← hp, insS_lt c E R hE]
      rw [e1, grp_cons]
      have hh : ∀ z ∈ (insS R x).head?, sameR y z = false := fun z hz => by
        rcases insS_head R z hz with rfl | hz
        · simp [sameR]; omega
        · have := hH z hz
          have := cord_compareR.anti y z
          simp [sameR]; omega
      obtain ⟨t1, t2⟩ := takeWhile_app E (insS R x) hEs hh
      rw [t1, t2, grp_insS x n R (by omega) hRR]
    · rw [if_neg c]
      by_cases c0 : compareR y x = 0
      · rw [if_pos c0]
        have e1 : insS (y :: r) x = y :: (E ++ [x] ++ R) := by
          simp only [insS, if_pos (show compareR y x ≤ 0 by omega)]
          rw [← hp, insS_eq c0 E R hE hH]; simp
        rw [e1, grp_cons]
        have hh : ∀ z ∈ R.head?, sameR y z = false := fun z hz => by
          have := hH z hz
          have := cord_compareR.anti y z
          simp [sameR]; omega
        obtain ⟨t1, t2⟩ := takeWhile_app (E ++ [x]) R (fun e he => by
          rcases List.mem_append.1 he with he | he
          · exact hEs e he
          · simp at he; subst he; simp [sameR, c0]) hh
        rw [t1, t2, leastM_snoc]
      · rw [if_neg c0]
        have e1 : insS (y :: r) x = x :: y :: r := by simp only [insS, if_neg (show ¬ compareR y x ≤ 0 by omega)]
        rw [e1, grp_cons]
        have hne : sameR x y = false := by
          have := cord_compareR.anti x y
          simp [sameR]; omega
        simp only [List.takeWhile_cons, List.dropWhile_cons, hne, Bool.false_eq_true, if_false]
        rw [grp_cons, hEE, hDD]
        rfl

theorem insS_rises {x : Rc} : ∀ (l : List Rc), RisesR l → RisesR (insS l x)
  | [], _ => by simp [insS, RisesR]
  | y :: r, h => by
    have h1 := List.pairwise_cons.1 h
    simp only [insS]
    split
    · rename_i c
      refine List.pairwise_cons.2 ⟨fun z hz => ?_, insS_rises r h1.2⟩
      rcases insS_mem r z hz with rfl | hz
      · exact c
      · exact h1.1 z hz
    · rename_i c
      have hxy : compareR x y ≤ 0 := by have := cord_compareR.anti x y; omega
      refine List.pairwise_cons.2 ⟨fun z hz => ?_, h⟩
      rcases List.mem_cons.1 hz with rfl | hz
      · exact hxy
      · exact cord_compareR.trans _ _ _ hxy (h1.1 z hz)
theorem sortM_rises (l : List Rc) : RisesR (sortM l) := by
  unfold sortM
  suffices ∀ (l a : List Rc), RisesR a → RisesR (l.foldl insS a) from this l [] List.Pairwise.nil
  intro l
  induction l with
  | nil => intro a h; exact h
  | cons x l ih => intro a h; exact ih _ (insS_rises a h)
/-- Sorted, run by run: the document's row. -/
theorem grp_sortM (l : List Rc) : grp (sortM l) = canonM l := by
  unfold sortM canonM
  suffices ∀ (l a b : List Rc), RisesR a → grp a = b → grp (l.foldl insS a) = l.foldl insR b from this l [] [] List.Pairwise.nil rfl
  intro l
  induction l with
  | nil => intro a b _ h; exact h
  | cons x l ih =>
    intro a b h hb
    exact ih _ _ (insS_rises a h) (by rw [grp_insS x a.length a (Nat.le_refl _) h, hb])
end Go.Proofs.YtfcdajldpnomfaaGreatDoor

/-
  Package rtype: Text, Known, Parse.
-/
namespace Go.Proofs.YtfcdajldpnomfaaGreatDoor
set_option maxRecDepth 20000
open Go.RowKit Go.Shelf

/-- The library's table of powers of ten lies as its text lays it. -/
def Tab (W : World) : Prop := Lib.TabIs Tryz.prog W "internal/strconv.uint64pow10" .u64 Lib.pow10Tab
theorem Tab.below {W W' : World} (h : Tab W) (hb : Below W.heap.size W W') : Tab W' := (Lib.tabBelow_of_tabIs h) W' hb
theorem itoa_len (n : Int) (h0 : -9223372036854775808 ≤ n) (h1 : n ≤ 9223372036854775807) : (Lib.itoa n).length ≤ 20 := by
  unfold Lib.itoa
  split
  · have := dec_len n.natAbs (by omega); simp only [List.length_cons]; omega
  · have := dec_len n.toNat (by omega); omega
theorem strconv_Itoa (n : Int) (h0 : -9223372036854775808 ≤ n) (h1 : n ≤ 9223372036854775807) (w : World) (hT : Tab w) :
    Calls Tryz.prog 82 #[.int .i64 n] w fun e w' => e = .returned (.string ⟨(Lib.itoa n).toArray⟩) ∧ Below w.heap.size w w' := by
  refine (Tryz.strconv_Itoa n h0 h1 w hT).mono ?_
  rintro e w' ⟨he, k, os, rfl⟩
  exact ⟨he, Lib.below_grow _ w (Nat.le_refl _) k os⟩
theorem typeName_len (t : Int) : (typeNameM t).length ≤ 5 := by
  unfold typeNameM
  cases h : rowOfT t with
  | none => simp
  | some j => exact (typeS_ne j (find_range h).1).2.2

set_option maxHeartbeats 2000000 in
theorem rtype_Text (t : Int) (h0 : -9223372036854775808 ≤ t) (h1 : t ≤ 9223372036854775807) (w : World) (hT : Tab w) :
    Calls Tryz.prog 39 #[.int .i64 t] w fun e w' => e = .returned (.string ⟨(typeTextM t).toArray⟩) ∧ Below w.heap.size w w' := by
  have hV := fun g W h => table_value g t W h
  obtain ⟨s, hs⟩ : ∃ s, (⟨(typeNameM t).toArray⟩ : ByteArray) = s := ⟨_, rfl⟩
  rw [hs] at hV
  have HS := Lib.hid hs
  clear hs
  cases hk : knownM t with
  | true =>
    rw [hk] at hV
    have H0 : Hid (typeTextM t = typeNameM t) := Lib.hid (by
      unfold knownM at hk; unfold typeTextM typeNameM
      cases h : rowOfT t with
      | none => rw [h] at hk; cases hk
      | some j => rfl)
    clear hk
    go_enter Tryz.func39, Tryz.ntmps39
    go_wp2_with (first | (go_at_call 80; refine (rtype_names _).mono ?_; rintro e w1 ⟨g, rfl, hN, hb1⟩) | (go_at_call 81; refine (hV _ _ hN).mono ?_; rintro e w2 ⟨rfl, hb2⟩))
    go_ret
    exact ⟨by rw [H0.out, HS.out]; rfl, hb1.trans (hb2.mono hb1.size)⟩
  | false =>
    rw [hk] at hV
    have H0 : Hid (typeTextM t = [84, 89, 80, 69] ++ Lib.itoa t) := Lib.hid (by
      unfold knownM at hk; unfold typeTextM
      cases h : rowOfT t with
      | none => rfl
      | some j => rw [h] at hk; cases hk)
    have hl := itoa_len t h0 h1
    have hI := fun W h => strconv_Itoa t h0 h1 W h
    have a1 := fun W => run_string_add_sum (P := Tryz.prog) W ⟨#[84, 89, 80, 69]⟩ ⟨(Lib.itoa t).toArray⟩ (by rw [mk_size (Lib.itoa t)]; show 4 + (Lib.itoa t).length ≤ _; omega)
    have e1 : (⟨#[84, 89, 80, 69]⟩ : ByteArray) ++ ⟨(Lib.itoa t).toArray⟩ = ⟨([84, 89, 80, 69] ++ Lib.itoa t).toArray⟩ := mk_append [84, 89, 80, 69] _
    rw [e1] at a1
    clear e1 hk hl
    generalize (⟨(Lib.itoa t).toArray⟩ : ByteArray) = dt at *
    go_enter Tryz.func39, Tryz.ntmps39
    go_wp2_with (first | (go_at_call 80; refine (rtype_names _).mono ?_; rintro e w1 ⟨g, rfl, hN, hb1⟩) | (go_at_call 81; refine (hV _ _ hN).mono ?_; rintro e w2 ⟨rfl, hb2⟩; have hb12 := hb1.trans (hb2.mono hb1.size)) | (go_at_call 82; refine (hI _ (hT.below hb12)).mono ?_; rintro e w3 ⟨rfl, hb3⟩))
    go_ret
    exact ⟨by rw [H0.out]; rfl, hb12.trans (hb3.mono hb12.size)⟩

end Go.Proofs.YtfcdajldpnomfaaGreatDoor

/-
  The document's names (package toponymref6): Swap.
-/
namespace Go.Proofs.YtfcdajldpnomfaaGreatDoor
set_option maxRecDepth 20000
open Go.RowKit Go.Shelf

theorem elemS : ElemT 9 22 16 := ⟨Tryz.underlying22, _, _, rfl, rfl, rfl, rfl, rfl⟩

end Go.Proofs.YtfcdajldpnomfaaGreatDoor

/-
  The document's names (package toponymref6): ParseName.
-/
namespace Go.Proofs.YtfcdajldpnomfaaGreatDoor
set_option maxRecDepth 20000
open Go.RowKit Go.Shelf

def partsK (ps : Nm) (k : Nat) : Nm := if k = ps.length then partsN ps else ps.take k
def wholeK (ps : Nm) (k : Nat) : Bool := decide (k = ps.length) && wholeN ps
theorem partsK_lt {ps : Nm} {k : Nat} (h : k < ps.length) : partsK ps k = ps.take k := by unfold partsK; rw [if_neg (by omega)]
theorem partsK_end (ps : Nm) : partsK ps ps.length = partsN ps := by unfold partsK; rw [if_pos rfl]
/-- The last piece, empty. -/
theorem partsK_dot {ps : Nm} {k : Nat} (h : ps.length = k + 1) (h2 : ps[k]'(by omega) = []) : partsK ps (k + 1) = ps.take k ∧ wholeK ps (k + 1) = true := by
  have hw : wholeN ps = true := by rw [wholeN_eq h]; exact decide_eq_true h2
  unfold partsK wholeK partsN
  rw [if_pos h.symm, hw, if_pos rfl, List.dropLast_eq_take, h]
  simp
/-- A piece that is not the last one, or not empty. -/
theorem partsK_next {ps : Nm} {k : Nat} (h : k < ps.length) (h2 : ¬ (ps.length = k + 1 ∧ ps[k] = [])) : partsK ps (k + 1) = ps.take k ++ [ps[k]] ∧ wholeK ps (k + 1) = false ∧ ps.take k ++ [ps[k]] <+: partsN ps := by
  have ht : ps.take k ++ [ps[k]] = ps.take (k + 1) := (List.take_succ_eq_append_getElem h).symm
  rw [ht]
  by_cases e : ps.length = k + 1
  · have hw : wholeN ps = false := by rw [wholeN_eq e]; exact decide_eq_false (fun q => h2 ⟨e, q⟩)
    have hp : partsN ps = ps := by unfold partsN; rw [hw]; rfl
    have hk : ps.take (k + 1) = ps := List.take_of_length_le (by omega)
    unfold partsK wholeK
    rw [if_pos e.symm, hw, hp, hk, Bool.and_false]
    exact ⟨rfl, rfl, List.prefix_rfl⟩
  · refine ⟨partsK_lt (by omega), by unfold wholeK; rw [decide_eq_false (by omega)]; rfl, ?_⟩
    unfold partsN
    split
    · rw [List.dropLast_eq_take]
      exact List.take_prefix_take_left (by omega)
    · exact List.take_prefix _ _

end Go.Proofs.YtfcdajldpnomfaaGreatDoor

/-
  The document's names in the same spelling as package name's (XNamX); the statements' helpers.
-/
namespace Go.Proofs.YtfcdajldpnomfaaGreatDoor
set_option maxRecDepth 20000
open Go.RowKit Go.Shelf

theorem kn_RCompare (v u : Value) (n z : Nm) (r : Int) (h : compareN n z = r) (w : World) (hA : NmAt w v n) (hU : NmAt w u z) (h1 : NmOK n) (h2 : NmOK z) :
    Calls Tryz.prog 29 #[v, u] w fun e w' => e = .returned (.int .i64 r) ∧ Below w.heap.size w w' := by
  subst h; exact ref_Compare v u n z w hA.1 hU.1 h1 h2
theorem kn_RText (v : Value) (n : Nm) (t : List UInt8) (h : textN n = t) (w : World) (hA : NmAt w v n) (h1 : NmOK n) :
    Calls Tryz.prog 41 #[v] w fun e w' => e = .returned (.string ⟨t.toArray⟩) ∧ Below w.heap.size w w' := by
  subst h; exact ref_NameText v n w hA.1 h1
theorem kn_RLen (v : Value) (n : Nm) (r : Int) (h : (lenN n : Int) = r) (w : World) (hA : NmAt w v n) (h1 : NmOK n) :
    Calls Tryz.prog 56 #[v] w fun e w' => e = .returned (.int .i64 r) ∧ Below w.heap.size w w' := by
  subst h; refine (ref_Len v n w hA.1 h1).mono ?_
  rintro e w' ⟨rfl, rfl⟩; exact ⟨rfl, Below.refl _ _⟩
theorem kn_RCheck (v : Value) (n : Nm) (r : Int) (h : checkN n = r) (w : World) (hA : NmAt w v n) (h1 : NmOK n) :
    Calls Tryz.prog 26 #[v] w fun e w' => e = .returned (.int .i64 r) ∧ Below w.heap.size w w' := by
  subst h; refine (ref_CheckName v n w hA.1 h1).mono ?_
  rintro e w' ⟨rfl, rfl⟩; exact ⟨rfl, Below.refl _ _⟩
/-- An argument of a law, a name or labels. -/
def NmArg (W : World) (v : Value) (xs : Nm) : Prop := NmAt W v xs ∧ xs.length ≤ maxLen ∧ ∀ x ∈ xs, x.length ≤ maxLen
theorem nmArg_nil (W : World) : NmArg W (.slice none 0 0) [] := ⟨nm_nil W, Nat.zero_le _, by simp⟩
theorem nmArg_row {W : World} {x : Addr} {l c : Nat} {zs : List ByteArray} (hl : l ≤ c) (hm : c ≤ maxLen) (hz : zs.length = c)
    (hcell : ∀ i, i < zs.length → W.cell? (x.add i) = some (.string (zs.getD i ByteArray.empty))) (hws : ∀ s ∈ zs, s.size ≤ maxLen) :
    NmArg W (.slice (some x) l c) ((zs.take l).map (·.data.toList)) := by
  have h := strsArg_row hl hm hz hcell hws
  exact ⟨⟨h.1, _, _, _, rfl, hl, fun e => by cases e⟩, h.2⟩
theorem kn_Few (v : Value) (n : Nm) (r : Bool) (h : fewN n = r) (w0 w : World) (hA : NmArg w0 v n) (hA2 : NmAt w v n) :
    Calls Tryz.prog 24 #[v] w fun e w' => e = .returned (.bool r) ∧ Below w.heap.size w w' := by
  subst h; refine (law2_Few v n w hA2.1 hA.2.1 hA.2.2).mono ?_
  rintro e w' ⟨rfl, rfl⟩; exact ⟨rfl, Below.refl _ _⟩
theorem kn_Is (v u : Value) (n z : Nm) (r : Bool) (h : decide (n = z) = r) (w : World) (hA : NmAt w v n) (hU : NmAt w u z) (h1 : NmOK n) :
    Calls Tryz.prog 50 #[v, u] w fun e w' => e = .returned (.bool r) ∧ Below w.heap.size w w' := by
  subst h; exact law2_Is v u n z w hA.1 hU.1 (by have := h1.1; omega)

end Go.Proofs.YtfcdajldpnomfaaGreatDoor

/-
  The law's Few for data.
-/
namespace Go.Proofs.YtfcdajldpnomfaaGreatDoor
set_option maxRecDepth 20000
open Go.RowKit Go.Shelf

def fewD (d : Dat) : Bool := decide (d.names.length ≤ 8 ∧ d.nums.length ≤ 12 ∧ d.texts.length ≤ 40 ∧ d.raw.length ≤ 1100) && (decide (∀ n ∈ d.names, fewN n = true) && decide (∀ x ∈ d.texts, x.length ≤ 300))
/-- An argument of a law. -/
def DatArg (W : World) (v : Value) (d : Dat) : Prop := DatAt W v d ∧ (-(2 ^ 63) ≤ d.ty ∧ d.ty < 2 ^ 63) ∧ (∀ n ∈ d.names, n.length ≤ maxLen ∧ ∀ x ∈ n, x.length ≤ maxLen) ∧ (∀ n ∈ d.nums, n < 2 ^ 32) ∧ (∀ x ∈ d.texts, x.length ≤ maxLen)

theorem fewD_ok {W : World} {v : Value} {d : Dat} (h : DatArg W v d) (hf : fewD d = true) : DatOK d := by
  simp only [fewD, Bool.and_eq_true, decide_eq_true_eq] at hf
  obtain ⟨⟨f1, f2, f3, f4⟩, f5, f6⟩ := hf
  exact ⟨h.2.1, by omega, fun n hn => fewN_ok (f5 n hn), by omega, h.2.2.2.1, ⟨by omega, fun x hx => by have := f6 x hx; omega⟩, by omega⟩
end Go.Proofs.YtfcdajldpnomfaaGreatDoor

