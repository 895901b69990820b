/-
  A region that draws its order, walked order by order: each order is a list of operations, and a walk of each list serves. Inside a fence and in the open.
-/
import Derived.Test.YtgalihmmlcnahaaDoorBytes
namespace Go.Proofs.YtgalihmmlcnahaaDoor
set_option maxRecDepth 20000
open Go.RowKit Go.Shelf

/-- All orders that may be drawn from here on. -/
def ords (ops : Array Oper) : Nat → Array Bool → List (List Nat)
  | 0, _ => [[]]
  | f + 1, listed =>
    match Region.ready .any ops listed with
    | [] => [[]]
    | r :: rs => (r :: rs).flatMap fun i => (ords ops f (listed.setIfInBounds i true)).map (i :: ·)

theorem linearise_mem (ops : Array Oper) : ∀ (fuel t : Nat) (listed : Array Bool) (acc : List Nat), ∃ L ∈ ords ops fuel listed, Region.linearise.go .any ops fuel t listed acc = acc.reverse ++ L := by
  intro fuel
  induction fuel with
  | zero => intro t listed acc; exact ⟨[], by simp [ords], by simp [Region.linearise.go]⟩
  | succ fuel ih =>
    intro t listed acc
    simp only [Region.linearise.go]
    change ∃ L ∈ ords ops (fuel + 1) listed, (match (Region.ready .any ops listed)[t % (Region.ready .any ops listed).length]? with
      | some i => Region.linearise.go .any ops fuel (t / (Region.ready .any ops listed).length) (listed.setIfInBounds i true) (i :: acc)
      | none => acc.reverse) = acc.reverse ++ L
    cases hi : (Region.ready .any ops listed)[t % (Region.ready .any ops listed).length]? with
    | none =>
      have hnil : Region.ready .any ops listed = [] := by
        cases hr : Region.ready .any ops listed with
        | nil => rfl
        | cons x xs =>
          rw [hr] at hi
          have hlt : t % (x :: xs).length < (x :: xs).length := Nat.mod_lt _ (by simp)
          rw [List.getElem?_eq_getElem hlt] at hi
          cases hi
      exact ⟨[], by simp [ords, hnil], by simp⟩
    | some i =>
      have hmem : i ∈ Region.ready .any ops listed := List.mem_of_getElem? hi
      obtain ⟨L, hL, he⟩ := ih (t / (Region.ready .any ops listed).length) (listed.setIfInBounds i true) (i :: acc)
      refine ⟨i :: L, ?_, by simp only [he]; simp⟩
      cases hr : Region.ready .any ops listed with
      | nil => rw [hr] at hmem; cases hmem
      | cons x xs =>
        rw [hr] at hmem
        simp only [ords, hr]
        exact List.mem_flatMap.2 ⟨i, hmem, List.mem_map.2 ⟨L, hL, rfl⟩⟩

theorem wpOpsIn_of_list {F : Fence} {n : Nat} {P : Program} {ops : Array Oper} {Q : Exit → Act → World → Prop} : ∀ (L : List Nat) (a : Act) (w : World),
    wpListIn F n P ops Q (L.filterMap fun i => ops[i]?) a w → wpOpsIn F n P ops Q L a w := by
  intro L
  induction L with
  | nil => intro a w h; exact h
  | cons i L ih =>
    intro a w h
    cases ho : ops[i]? with
    | none =>
      rw [List.filterMap_cons, ho] at h
      simp only [wpOpsIn, ho]
      exact ih a w h
    | some o =>
      rw [List.filterMap_cons, ho] at h
      simp only [wpOpsIn, ho]
      simp only [wpListIn] at h
      split
      · rename_i hw
        rw [if_pos hw] at h
        exact Oper.wpIn_mono (fun a w h => ih a w h) h
      · rename_i hw
        rw [if_neg hw] at h
        exact ⟨h.1, ih _ _ h.2⟩

theorem wpOps_of_list {P : Program} {ops : Array Oper} {Q : Exit → Act → World → Prop} : ∀ (L : List Nat) (a : Act) (w : World),
    wpList P ops Q (L.filterMap fun i => ops[i]?) a w → wpOps P ops Q L a w := by
  intro L
  induction L with
  | nil => intro a w h; exact h
  | cons i L ih =>
    intro a w h
    cases ho : ops[i]? with
    | none =>
      rw [List.filterMap_cons, ho] at h
      simp only [wpOps, ho]
      exact ih a w h
    | some o =>
      rw [List.filterMap_cons, ho] at h
      simp only [wpOps, ho]
      simp only [wpList] at h
      split
      · rename_i hw
        rw [if_pos hw] at h
        exact h.imp (Oper.wp_mono (fun a w h => ih a w h)) id
      · rename_i hw
        rw [if_neg hw] at h
        exact ih _ _ h

def AllOrd (f : List Nat → Prop) : List (List Nat) → Prop
  | [] => True
  | L :: r => f L ∧ AllOrd f r
theorem AllOrd.mem {f : List Nat → Prop} : ∀ {l : List (List Nat)}, AllOrd f l → ∀ L ∈ l, f L
  | [], _, _, h => by cases h
  | _ :: _, h, L, hL => by
    rcases List.mem_cons.1 hL with rfl | hL
    · exact h.1
    · exact AllOrd.mem h.2 L hL

theorem wpIn_region_orders {F : Fence} {n : Nat} {P : Program} {id : Nat} {ops : Array Oper} {Q : Exit → Act → World → Prop} {a : Act} {w : World} (os : List (List Nat))
    (hm : P.follows .mixedOrders = true) (hos : ords ops ops.size (Array.replicate ops.size false) = os)
    (h : AllOrd (fun L => wpListIn F n P ops Q (L.filterMap fun i => ops[i]?) a w.drew) os) : (Code.region id ops true).wpIn F n P Q a w :=
  wpIn_region_draw fun t => by
    simp only [Region.schedule, hm, Bool.true_or, if_true, Region.linearise]
    obtain ⟨L, hL, he⟩ := linearise_mem ops ops.size t (Array.replicate ops.size false) []
    rw [he, List.reverse_nil, List.nil_append]
    rw [hos] at hL
    exact wpOpsIn_of_list L a _ (h.mem L hL)

theorem wp_region_orders {P : Program} {id : Nat} {ops : Array Oper} {Q : Exit → Act → World → Prop} {a : Act} {w : World} (os : List (List Nat))
    (hm : P.follows .mixedOrders = true) (hos : ords ops ops.size (Array.replicate ops.size false) = os)
    (h : AllOrd (fun L => wpList P ops Q (L.filterMap fun i => ops[i]?) a w.drew) os) : (Code.region id ops true).wp P Q a w :=
  wp_region_draw fun t => by
    simp only [Region.schedule, hm, Bool.true_or, if_true, Region.linearise]
    obtain ⟨L, hL, he⟩ := linearise_mem ops ops.size t (Array.replicate ops.size false) []
    rw [he, List.reverse_nil, List.nil_append]
    rw [hos] at hL
    exact wpOps_of_list L a _ (h.mem L hL)

theorem follows_mixed : Tryd.prog.follows .mixedOrders = true := by kernel_rfl

end Go.Proofs.YtgalihmmlcnahaaDoor
