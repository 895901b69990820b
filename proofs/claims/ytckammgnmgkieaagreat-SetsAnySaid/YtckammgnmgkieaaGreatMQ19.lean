/-
  Where two names part, from the root's side on (plain facts).
-/
import Derived.Test.YtckammgnmgkieaaGreatMQ33
import Derived.Test.YtckammgnmgkieaaGreatMQ12
import Derived.Lib.ItoaNum
import Derived.Lib.ItoaMem
import Derived.Test.YtckammgnmgkieaaGreatMQ37
import Derived.Maps.AppendAt
import Derived.Maps.OwnIn
import Derived.StillTail
import Derived.StillTailTactics
import Derived.Deep.RegionHeld3
import Derived.Deep.RegionHeldLaw
import Derived.Deep.AppendLies
import Derived.Deep.DrawnRows
import Derived.Deep.QuietTactic
import Derived.BigQuiet
namespace Go.Proofs.YtckammgnmgkieaaGreat
set_option maxRecDepth 20000
open Go.RowKit Go.Shelf

theorem cmpR_get : ∀ (k : Nat) (p q : Nm), k ≤ p.length → k ≤ q.length → (∀ i (h1 : i < p.length) (h2 : i < q.length), i < k → compareM p[i] q[i] = 0) → cmpR p q = cmpR (p.drop k) (q.drop k)
  | 0, _, _ => by intro _ _ _; rfl
  | k + 1, [], _ => by intro h _ _; simp at h
  | k + 1, _ :: _, [] => by intro _ h _; simp at h
  | k + 1, x :: r, y :: t => by
    intro h1 h2 h
    have h0 : compareM x y = 0 := h 0 (by simp) (by simp) (by omega)
    rw [cmpR, if_pos h0]
    exact cmpR_get k r t (by simpa using h1) (by simpa using h2) (fun i a b c => h (i + 1) (by simpa using a) (by simpa using b) (by omega))
variable {xs ys : Nm}
theorem rev_alike {m : Nat} (hm : m ≤ xs.length) (_hy : xs.length ≤ m + ys.length) (h : ∀ j (h1 : j < xs.length) (h2 : xs.length ≤ j + ys.length), m ≤ j → compareM xs[j] (ys[j + ys.length - xs.length]'(by omega)) = 0) :
    ∀ i (h1 : i < xs.reverse.length) (h2 : i < ys.reverse.length), i < xs.length - m → compareM xs.reverse[i] ys.reverse[i] = 0 := by
  intro i h1 h2 hi
  simp only [List.length_reverse] at h1 h2
  have := h (xs.length - 1 - i) (by omega) (by omega) (by omega)
  simp only [List.getElem_reverse]
  have e : ys.length - 1 - i = xs.length - 1 - i + ys.length - xs.length := by omega
  simp only [e]
  exact this
theorem compareN_even (h : ∀ j (h1 : j < xs.length) (h2 : xs.length ≤ j + ys.length), compareM xs[j] (ys[j + ys.length - xs.length]'(by omega)) = 0) :
    compareN xs ys = cmpI xs.length ys.length := by
  have e := cmpR_get (xs.length - (xs.length - ys.length)) xs.reverse ys.reverse (by simp) (by simp; omega) (rev_alike (by omega) (by omega) (fun j h1 h2 _ => h j h1 h2))
  unfold compareN; rw [e]
  rcases Nat.lt_trichotomy xs.length ys.length with hl | hl | hl
  · have e1 : xs.reverse.drop (xs.length - (xs.length - ys.length)) = [] := List.drop_eq_nil_of_le (by simp; omega)
    rw [e1]
    have e2 : ys.reverse.drop (xs.length - (xs.length - ys.length)) ≠ [] := by intro q; have := congrArg List.length q; simp at this; omega
    cases hq : ys.reverse.drop (xs.length - (xs.length - ys.length)) with
    | nil => exact absurd hq e2
    | cons y t => unfold cmpI; rw [if_pos (by omega)]; rfl
  · have e1 : xs.reverse.drop (xs.length - (xs.length - ys.length)) = [] := List.drop_eq_nil_of_le (by simp; omega)
    have e2 : ys.reverse.drop (xs.length - (xs.length - ys.length)) = [] := List.drop_eq_nil_of_le (by simp; omega)
    rw [e1, e2]; unfold cmpI; rw [if_neg (by omega), if_neg (by omega)]; rfl
  · have e1 : ys.reverse.drop (xs.length - (xs.length - ys.length)) = [] := List.drop_eq_nil_of_le (by simp; omega)
    rw [e1]
    have e2 : xs.reverse.drop (xs.length - (xs.length - ys.length)) ≠ [] := by intro q; have := congrArg List.length q; simp at this; omega
    cases hq : xs.reverse.drop (xs.length - (xs.length - ys.length)) with
    | nil => exact absurd hq e2
    | cons y t => unfold cmpI; rw [if_neg (by omega), if_pos (by omega)]; rfl
theorem rev_drop {l : Nm} {x : Nat} (h : x < l.length) : ∃ t, l.reverse.drop (l.length - 1 - x) = l[x] :: t := by
  refine ⟨l.reverse.drop (l.length - 1 - x + 1), ?_⟩
  rw [List.drop_eq_getElem_cons (by simp; omega)]
  congr 1
  simp only [List.getElem_reverse]
  congr 1; omega
theorem compareN_at (x : Nat) (h1 : x < xs.length) (h2 : xs.length ≤ x + ys.length) (hne : compareM xs[x] (ys[x + ys.length - xs.length]'(by omega)) ≠ 0)
    (h : ∀ j (h1 : j < xs.length) (h2 : xs.length ≤ j + ys.length), x < j → compareM xs[j] (ys[j + ys.length - xs.length]'(by omega)) = 0) :
    compareN xs ys = compareM xs[x] (ys[x + ys.length - xs.length]'(by omega)) := by
  have e := cmpR_get (xs.length - (x + 1)) xs.reverse ys.reverse (by simp) (by simp; omega) (rev_alike (by omega) (by omega) (fun j a b c => h j a b (by omega)))
  unfold compareN; rw [e]
  obtain ⟨t, ht⟩ := rev_drop h1
  obtain ⟨r, hr⟩ := rev_drop (l := ys) (x := x + ys.length - xs.length) (by omega)
  rw [show xs.length - (x + 1) = xs.length - 1 - x by omega, ht, show xs.length - 1 - x = ys.length - 1 - (x + ys.length - xs.length) by omega, hr, cmpR, if_neg hne]
theorem rev_prefix {n : Nat} {p : List (Fin n)} {x : Fin n} (h : (p ++ [x]) <+: (List.finRange n).reverse) : p.length + x.val + 1 = n ∧ ∀ j : Fin n, x.val < j.val → j ∈ p := by
  have hl : p.length + 1 ≤ n := by have := h.length_le; simpa using this
  have hg : ∀ i (h1 : i < p.length + 1), (p ++ [x])[i]'(by simpa using h1) = ⟨n - 1 - i, by omega⟩ := fun i h1 => by
    have := h.getElem (i := i) (by simpa using h1)
    rw [this]; simp only [List.getElem_reverse, List.length_finRange, List.getElem_finRange]
    rfl
  have hx := hg p.length (by omega)
  simp only [List.getElem_concat_length] at hx
  have hxv : x.val = n - 1 - p.length := by rw [hx]
  refine ⟨by omega, fun j hj => ?_⟩
  have hlt : n - 1 - j.val < p.length := by have := j.isLt; omega
  have := hg (n - 1 - j.val) (by omega)
  rw [List.getElem_append_left hlt] at this
  have e : p[n - 1 - j.val] = j := by rw [this]; apply Fin.ext; simp; have := j.isLt; omega
  exact e ▸ List.getElem_mem hlt
def AlikeAt (xs ys : Nm) (j : Fin xs.length) : Prop := ∃ d, ∃ h : d < ys.length, j.val + ys.length = d + xs.length ∧ compareM xs[j] ys[d] = 0
theorem AlikeAt.eq {j : Fin xs.length} (h : AlikeAt xs ys j) : xs.length ≤ j.val + ys.length ∧ ∀ h : j.val + ys.length - xs.length < ys.length, compareM xs[j] ys[j.val + ys.length - xs.length] = 0 := by
  obtain ⟨d, hd, e, h0⟩ := h
  obtain rfl : d = j.val + ys.length - xs.length := by omega
  exact ⟨by omega, fun _ => h0⟩
end Go.Proofs.YtckammgnmgkieaaGreat

/-
  Contract of name.Compare.
-/
namespace Go.Proofs.YtckammgnmgkieaaGreat
set_option maxRecDepth 20000
open Go.RowKit Go.Shelf

section
attribute [local go_sem] Oper.semAt_some
set_option maxRecDepth 100000 in
set_option maxHeartbeats 4000000 in
theorem name_Compare (v u : Value) (xs ys : Nm) (w : World) (hA : StrsAt w v xs) (hU : StrsAt w u ys) (hk : NmOK xs) (hk2 : NmOK ys) :
    Calls Tryz.prog 129 #[v, u] w fun e w' => e = .returned (.int .i64 (compareN xs ys)) ∧ Below w.heap.size w w' := by
  obtain ⟨a, c, rfl, _⟩ := id hA
  obtain ⟨a2, c2, rfl, _⟩ := id hU
  have hl1 := hk.1
  have hl2 := hk2.1
  refine (callsIn_wide (n := 5)).1 ?_
  refine callsIn_of_wp_marks Tryz.func129 rfl trivial ?_ rfl
  simp only [Tryz.ntmps129, List.size_toArray, List.length_cons, List.length_nil, Nat.reduceAdd, Nat.reduceSub, Array.replicate_succ, Array.replicate_zero, List.push_toArray, List.append_toArray, List.nil_append, List.cons_append]
  gi_wp2_with (refine ⟨trivial, ?_⟩; gi_at_call 106; refine (callsIn_wide.2 (name_upward _ _ _ _)).mono ?_; rintro e w' ⟨rfl, rfl⟩)
  obtain ⟨W0, hW0⟩ : ∃ W0, ((((w.alloc (.cells #[.slice a xs.length c] 24)).alloc (.cells #[.slice a2 ys.length c2] 24)).alloc (.cells #[.int .i64 0] 3)).alloc (.cells #[.slice a xs.length c] 24)) = W0 := ⟨_, rfl⟩
  have bA : Boxed W0 w.heap.size 24 (.slice a xs.length c) := by rw [← hW0]; exact (((Boxed.new w _ _).alloc _).alloc _).alloc _
  have bB : Boxed W0 (w.heap.size + 1) 24 (.slice a2 ys.length c2) := by
    have := Boxed.new (w.alloc (.cells #[.slice a xs.length c] 24)) 24 (.slice a2 ys.length c2)
    rw [World.size_alloc] at this
    rw [← hW0]; exact (this.alloc _).alloc _
  have bI : Boxed W0 (w.heap.size + 1 + 1) 3 (.int .i64 0) := by
    have := Boxed.new ((w.alloc (.cells #[.slice a xs.length c] 24)).alloc (.cells #[.slice a2 ys.length c2] 24)) 3 (.int .i64 0)
    rw [World.size_alloc, World.size_alloc] at this
    rw [← hW0]; exact this.alloc _
  have bV : Boxed W0 (w.heap.size + 1 + 1 + 1) 24 (.slice a xs.length c) := by
    have := Boxed.new (((w.alloc (.cells #[.slice a xs.length c] 24)).alloc (.cells #[.slice a2 ys.length c2] 24)).alloc (.cells #[.int .i64 0] 3)) 24 (.slice a xs.length c)
    rw [World.size_alloc, World.size_alloc, World.size_alloc] at this
    rw [← hW0]; exact this
  have hsz : W0.heap.size = w.heap.size + 4 := by rw [← hW0]; simp
  have hB0 : Below w.heap.size w W0 := by rw [← hW0]; exact ((((Below.refl _ w).alloc (Nat.le_refl _) _).alloc (by simp) _).alloc (by simp; omega) _).alloc (by simp; omega) _
  have hrow := hA.row_lt
  rw [hW0]
  have HZ := Lib.hid hsz; clear hsz hW0
  refine wpIn_rangeFunc_ownG rfl (by omega) (gf := 146) (lb := #[.pointer (some ⟨w.heap.size + 1 + 1 + 1, 0, none⟩)]) rfl trivial (enters_of Tryz.func146 (by kernel_rfl) rfl)
    (upward_stops _ (by omega) (w.heap.size + 1 + 1 + 1) (.slice a xs.length c) xs (by unfold maxLen; omega) W0 (by rw [HZ.out]; omega) bV.cell (hA.below hB0)) keepN_t (keepN_b (by rw [HZ.out]; omega) (fun g e => by have := hrow g e; rw [HZ.out]; omega)) (Below.refl _ _) (fun _ => rfl)
    (fun pre W => Boxed W w.heap.size 24 (.slice a xs.length c) ∧ Boxed W (w.heap.size + 1) 24 (.slice a2 ys.length c2) ∧ Boxed W (w.heap.size + 1 + 1) 3 (.int .i64 0) ∧ Below w.heap.size w W ∧ ∀ j ∈ pre, AlikeAt xs ys j)
    (fun k pre W => Boxed W w.heap.size 24 (.slice a xs.length c) ∧ Boxed W (w.heap.size + 1) 24 (.slice a2 ys.length c2) ∧ Below w.heap.size w W ∧ ∃ p x, pre = p ++ [x] ∧ (∀ j ∈ p, AlikeAt xs ys j) ∧
      ((k = .exit 0 ∧ ¬ xs.length ≤ x.val + ys.length ∧ Boxed W (w.heap.size + 1 + 1) 3 (.int .i64 0)) ∨ (k = .ret ∧ ∃ d, ∃ h : d < ys.length, x.val + ys.length = d + xs.length ∧ compareM xs[x] ys[d] ≠ 0 ∧ Boxed W (w.heap.size + 1 + 1) 3 (.int .i64 (compareM xs[x] ys[d])))))
    (OwnFrom.and (Own.from (boxed_own _ _ _) _) (OwnFrom.and (Own.from (boxed_own _ _ _) _) (OwnFrom.and (Own.from (boxed_own _ _ _) _) (OwnFrom.and (ownFrom_below (Nat.le_refl _) (by rw [HZ.out]; omega)) (ownFrom_pure _ _)))))
    ?hix
    ⟨bA, bB, bI, hB0, by simp⟩
    (fun j => { tmps := #[.slice a xs.length c, .slice a2 ys.length c2, .pointer (some ⟨w.heap.size, 0, none⟩), .pointer (some ⟨w.heap.size + 1, 0, none⟩), .pointer (some ⟨w.heap.size + 1 + 1, 0, none⟩), .int .i64 (j.val : Int), .string ⟨xs[j].toArray⟩, undef, undef, .slice a xs.length c, .func (.func 146) #[] #[.pointer (some ⟨w.heap.size + 1 + 1 + 1, 0, none⟩)], .int .i64 (j.val : Int), .string ⟨xs[j].toArray⟩, undef, undef, undef, undef, undef, undef, undef, undef, undef, undef, undef, undef, undef, undef, undef, undef, undef, undef, undef, undef, undef, undef, undef], defers := [] }) ?assign ?body ?done ?stop
  case hix =>
    intro k pre W W' row hs hg hr
    obtain ⟨h1, h2, h3, p, x, e, h4, h5⟩ := hs
    have hO : ∀ {B : Nat} {t : TypeId} {v : Value}, Boxed W B t v → Boxed W' B t v := fun hb => Own.from (boxed_own _ _ (fun _ : Unit => _)) _ () W W' row hb hg hr
    refine ⟨hO h1, hO h2, ownFrom_below (β := Unit) (Nat.le_refl _) (by rw [HZ.out]; omega) () W W' row h3 hg hr, p, x, e, h4, ?_⟩
    rcases h5 with ⟨a1, a2, a3⟩ | ⟨a1, d, h, a2, a3, a4⟩
    · exact .inl ⟨a1, a2, hO a3⟩
    · exact .inr ⟨a1, d, h, a2, a3, hO a4⟩
  case assign =>
    intro l x W K hK
    unfold idxV strV
    gi_wp2
    exact hK
  case body =>
    rintro l pre x W ⟨hN, hM, hI, hB, hC⟩ hlt
    have cn := hN.cell
    have cm := hM.cell
    have c0 := hI.cell; have f0 := hI.frozen
    have hxi : x.val < xs.length := x.isLt
    by_cases hge : xs.length ≤ x.val + ys.length
    · obtain ⟨d, hd⟩ : ∃ d, x.val + ys.length = d + xs.length := ⟨x.val + ys.length - xs.length, by omega⟩
      have hdy : d < ys.length := by omega
      have hde : x.val + ys.length - xs.length = d := by omega
      obtain ⟨g, off, rfl, hg, hcell⟩ := hU.cell hB d hdy
      have hz1 : ys[d].length ≤ 1048576 := hk2.get d hdy
      have hx1 : xs[x].length ≤ 1048576 := hk.get x.val hxi
      obtain ⟨sx, hsx0, hsxz, hsxv⟩ := str_of xs[x]
      obtain ⟨sy, hsy0, hsyz, hsyv⟩ := str_of ys[d]
      have hS := fun W => label_Compare sx sy W (by unfold maxLen; omega) (by unfold maxLen; omega)
      rw [hsx0, hsy0] at hS
      rw [str_at hsxv]
      rw [hsyv] at hcell
      have hsub : (x.val : Int) + (ys.length : Int) - (xs.length : Int) = (d : Int) := by omega
      generalize hq : compareM xs[x] ys[d] = q at *
      have HQ := Lib.hid hq
      clear hsx0 hsxz hsxv hsy0 hsyz hsyv hx1 hz1 hq hde
      by_cases hq0 : (q != 0) = true
      · have hn : q ≠ 0 := by simpa using hq0
        have HN := Lib.hid hn; clear hn
        gi_wp2_with (refine ⟨trivial, ?_⟩; gi_at_call 147; refine (CallsIn.inRound l (callsIn_wide.2 (hS _))).mono ?_; rintro e w' ⟨rfl, n, rfl⟩)
        refine ⟨((keepsOthers_drewN _ _).trans (KeepsOthers.setCell _ _ _)).from _, hN.other (by omega) _, hM.other (by omega) _, (below_drewQ hB _).setCell (p := ⟨w.heap.size + 1 + 1, 0, none⟩) (by simp; omega) _, pre, x, rfl, hC, .inr ⟨rfl, d, hdy, hd, by rw [HQ.out]; exact HN.out, ?_⟩⟩
        rw [HQ.out]; exact Boxed.set _ (show Boxed (W.drewN n) (w.heap.size + 1 + 1) 3 (.int .i64 0) from hI)
      · have hn : (q != 0) = false := by simpa using hq0
        have hn0 : q = 0 := by simpa using hn
        have HN := Lib.hid hn0; clear hn0 hq0
        gi_wp2_with (refine ⟨trivial, ?_⟩; gi_at_call 147; refine (CallsIn.inRound l (callsIn_wide.2 (hS _))).mono ?_; rintro e w' ⟨rfl, n, rfl⟩)
        refine ⟨(keepsOthers_drewN _ _).from _, KeepN.drewN _ _, hN, hM, hI, below_drewQ hB _, ?_⟩
        intro j hj
        rcases List.mem_append.1 hj with hj | hj
        · exact hC j hj
        · obtain rfl := List.mem_singleton.1 hj; exact ⟨d, hdy, hd, by rw [HQ.out]; exact HN.out⟩
    · have hneg : (x.val : Int) + (ys.length : Int) - (xs.length : Int) < 0 := by omega
      gi_wp2
      exact ⟨(KeepsOthers.refl _).from _, hN, hM, hB, pre, x, rfl, hC, .inl ⟨rfl, hge, hI⟩⟩
  case done =>
    rintro D zs W hD rfl ⟨hN, hM, hI, hB, hC⟩ hK
    have cn := hN.cell
    have cm := hM.cell
    have c0 := hI.cell; have f0 := hI.frozen
    have hDn : w.heap.size + 1 + 1 ≠ D := by have := HZ.out; omega
    have hE : compareN xs ys = cmpI xs.length ys.length := compareN_even (fun j h1 h2 => (hC ⟨j, h1⟩ (by simp)).eq.2 (by omega))
    have HE := Lib.hid hE; clear hE hC
    gi_wp2_with (refine ⟨trivial, ?_⟩; gi_at_call 130; refine (callsIn_wide.2 (cmp_int _ _ _)).mono ?_; rintro e w' ⟨rfl, rfl⟩)
    refine ⟨by simp, .inl ⟨_, _, rfl, run_takeDeferred (heap_setOther hK hDn.symm _), ?_⟩⟩
    refine ⟨_, results_cell rfl Tryz.underlying3 _ _ rfl (out_cell (hI.set _) hDn _), by rw [HE.out], ?_⟩
    exact below_putO (hB.setCell (p := ⟨w.heap.size + 1 + 1, 0, none⟩) (by simp; omega) _) (by have := HZ.out; omega) (Nat.le_refl _)
  case stop =>
    rintro D k pre W hD hp ⟨hN, hM, hB, p, x, rfl, hp0, hor⟩ hK
    have cn := hN.cell
    have cm := hM.cell
    have hDn : w.heap.size + 1 + 1 ≠ D := by have := HZ.out; omega
    obtain ⟨_, hall⟩ := rev_prefix hp
    rcases hor with ⟨rfl, hx, hI⟩ | ⟨rfl, d, hd, he, hne, hI⟩
    · have c0 := hI.cell; have f0 := hI.frozen
      have hE : compareN xs ys = cmpI xs.length ys.length := compareN_even (fun j h1 h2 => (hp0 ⟨j, h1⟩ (hall _ (by show x.val < j; omega))).eq.2 (by omega))
      have HE := Lib.hid hE; clear hE hall hp0 hx
      gi_wp2_with (refine ⟨trivial, ?_⟩; gi_at_call 130; refine (callsIn_wide.2 (cmp_int _ _ _)).mono ?_; rintro e w' ⟨rfl, rfl⟩)
      refine ⟨by simp, .inl ⟨_, _, rfl, run_takeDeferred (heap_setOther hK hDn.symm _), ?_⟩⟩
      refine ⟨_, results_cell rfl Tryz.underlying3 _ _ rfl (out_cell (hI.set _) hDn _), by rw [HE.out], ?_⟩
      exact below_putO (hB.setCell (p := ⟨w.heap.size + 1 + 1, 0, none⟩) (by simp; omega) _) (by have := HZ.out; omega) (Nat.le_refl _)
    · have c0 := hI.cell; have f0 := hI.frozen
      have hE : compareN xs ys = compareM xs[x] ys[d] := by
        obtain rfl : d = x.val + ys.length - xs.length := by omega
        exact compareN_at x.val x.isLt (by omega) hne (fun j h1 h2 h3 => (hp0 ⟨j, h1⟩ (hall _ h3)).eq.2 (by omega))
      have HE := Lib.hid hE; clear hE hall hp0
      gi_wp2
      refine ⟨by simp, .inl ⟨_, _, rfl, run_takeDeferred hK, ?_⟩⟩
      refine ⟨_, results_cell rfl Tryz.underlying3 _ _ rfl (out_cell hI hDn _), by rw [HE.out], ?_⟩
      exact below_putO hB (by have := HZ.out; omega) (Nat.le_refl _)
end
end Go.Proofs.YtckammgnmgkieaaGreat

/-
  Plain facts for types and numbers: digits, decimals read and written, letters great and small, the names of types.
-/
namespace Go.Proofs.YtckammgnmgkieaaGreat
set_option maxRecDepth 20000
open Go.RowKit Go.Shelf


def typeT (j : Nat) : Int := [1, 2, 5, 6, 12, 15, 16, 28, 39].getD j 0
def typeS (j : Nat) : List UInt8 := ([[65], [78, 83], [67, 78, 65, 77, 69], [83, 79, 65], [80, 84, 82], [77, 88], [84, 88, 84], [65, 65, 65, 65], [68, 78, 65, 77, 69]] : List (List UInt8)).getD j []
end Go.Proofs.YtckammgnmgkieaaGreat

/-
  Package rtype's table of names: names, the iterator over its rows.
-/
namespace Go.Proofs.YtckammgnmgkieaaGreat
set_option maxRecDepth 20000
open Go.RowKit Go.Shelf

def NRow (g : Nat) (W : World) : Prop := g < W.heap.size ∧ ∀ j, j < 9 → W.cell? ⟨g, j * 2, none⟩ = some (.int .i64 (typeT j)) ∧ W.cell? ⟨g, j * 2 + 1, none⟩ = some (strV (typeS j))
theorem NRow.below {g : Nat} {W W' : World} (h : NRow g W) (hb : Below W.heap.size W W') : NRow g W' := ⟨Nat.lt_of_lt_of_le h.1 hb.size, fun j hj =>
  ⟨(hb.cell (p := ⟨g, j * 2, none⟩) h.1).trans (h.2 j hj).1, (hb.cell (p := ⟨g, j * 2 + 1, none⟩) h.1).trans (h.2 j hj).2⟩⟩
def KeepT (b g : Nat) (W W' : World) : Prop := KeepB b W W' ∧ KeepB g W W'
theorem KeepT.refl (b g : Nat) (W : World) : KeepT b g W W := ⟨rfl, rfl⟩
theorem KeepB.lt {b : Nat} {A B : World} (h : KeepB b A B) (hb : b < A.heap.size) : b < B.heap.size := by
  rcases Nat.lt_or_ge b B.heap.size with h' | h'
  · exact h'
  · unfold KeepB at h; rw [Array.getElem?_eq_none h', Array.getElem?_eq_getElem hb] at h; cases h
section
attribute [local go_sem] Oper.semAt_some

end
end Go.Proofs.YtckammgnmgkieaaGreat

/-
  Rows of the call's own whose elements have k cells each; blocks of cells. (XTokR's first half.)
-/
namespace Go.Proofs.YtckammgnmgkieaaGreat
set_option maxRecDepth 20000
open Go.RowKit Go.Shelf
set_option maxRecDepth 20000

def OwnK {α : Type} (k : Nat) (T : TypeId) (enc : α → List Value) (W : World) (base : Nat) (v : Value) (xs : List α) : Prop := W.ownsRow base T k v xs.length (xs.flatMap enc)
structure ElemK (k : Nat) (T S : TypeId) (bytes : Nat) : Prop where
  ht : Tryz.prog.underlying S = some (.slice T)
  info : ∃ i z, Tryz.prog.info? T = some i ∧ i.zero = some z ∧ i.size = k ∧ i.bytes = bytes ∧ z.cells.size = k

theorem kcell {W : World} {B : Nat} {cs : Array Value} {t : TypeId} (h : W.heap[B]? = some (.cells cs t)) (j : Nat) (v : Value) (hv : cs[j]? = some v) : W.cell? ⟨B, j, none⟩ = some v := by
  simp only [World.cell?, h]
  simpa using hv
theorem kset {W : World} {B : Nat} {cs : Array Value} {t : TypeId} (h : W.heap[B]? = some (.cells cs t)) (j : Nat) (v : Value) : (W.setCell ⟨B, j, none⟩ v).heap[B]? = some (.cells (cs.setIfInBounds j v) t) := by
  obtain ⟨hlt, hk⟩ := Array.getElem?_eq_some_iff.1 h
  show (W.heap.modify B _)[B]? = _
  rw [Array.getElem?_eq_getElem (by rw [Array.size_modify]; exact hlt), Array.getElem_modify_self, hk]
  rfl
theorem kgrown_set (W : World) (b j : Nat) (v : Value) : W.grownBy (W.setCell ⟨b, j, none⟩ v) (some b) :=
  ⟨rfl, rfl, rfl, (KeepsWalks.setCell W _ v).size, fun k _ hk => Below.heap_setCell _ _ _ k (fun e => hk (by rw [e]))⟩
theorem kfrozen {W : World} {B : Nat} {cs : Array Value} {t : TypeId} (h : W.heap[B]? = some (.cells cs t)) (j : Nat) : W.frozen? ⟨B, j, none⟩ = false := by simp [World.frozen?, h]
theorem kblock_lt {W : World} {B : Nat} {o : Obj} (h : W.heap[B]? = some o) : B < W.heap.size := (Array.getElem?_eq_some_iff.1 h).1
theorem knew (W : World) (o : Obj) : (W.alloc o).heap[W.heap.size]? = some o := by
  show (W.heap.push o)[W.heap.size]? = some o
  simp

theorem kg_refl (w : World) (r : Option Nat) : w.grownBy w r := ⟨rfl, rfl, rfl, Nat.le_refl _, fun _ _ _ => rfl⟩
theorem kg_trans {a b c : World} {r : Option Nat} (h : a.grownBy b r) (g : b.grownBy c r) : a.grownBy c r :=
  ⟨g.os.trans h.os, g.tape.trans h.tape, g.output.trans h.output, Nat.le_trans h.size g.size, fun k hk hne => (g.block k (Nat.lt_of_lt_of_le hk h.size) hne).trans (h.block k hk hne)⟩
theorem kg_drew (w : World) (r : Option Nat) : w.grownBy w.drew r := ⟨rfl, rfl, rfl, Nat.le_refl _, fun _ _ _ => rfl⟩
section
variable {α : Type} {k : Nat} {T S : TypeId} {enc : α → List Value}
theorem OwnK.alloc {W : World} {base : Nat} {v : Value} {xs : List α} (h : OwnK k T enc W base v xs) (o : Obj) : OwnK k T enc (W.alloc o) base v xs := World.ownsRow.alloc h o
theorem OwnK.nil (W : World) (base : Nat) : OwnK k T enc W base (.slice none 0 0) [] := World.ownsRow_nil _ _ _ _
theorem OwnK.base_le {W : World} {base : Nat} {v : Value} {xs : List α} (h : OwnK k T enc W base v xs) : ∀ b, v.ownBlock = some b → base ≤ b := by
  intro b hk
  rcases h.2 with ⟨rfl, _⟩ | ⟨g, cap, cur, rfl, hb, _⟩
  · simp [Value.ownBlock] at hk
  · obtain rfl : g = b := by simpa [Value.ownBlock] using hk
    exact hb
theorem OwnK.shape {W : World} {base : Nat} {v : Value} {xs : List α} (h : OwnK k T enc W base v xs) : ∃ a c, v = .slice a xs.length c := by
  rcases h.2 with ⟨rfl, h0⟩ | ⟨g, cap, cur, rfl, _⟩
  · exact ⟨none, 0, by rw [h0]⟩
  · exact ⟨_, _, rfl⟩
theorem OwnK.kept {W W' : World} {row : Option Nat} {base : Nat} {v : Value} {xs : List α} (h : OwnK k T enc W base v xs) (hg : W.grownBy W' row) (hne : v.ownBlock = none ∨ v.ownBlock ≠ row) : OwnK k T enc W' base v xs := World.ownsRow.kept h hg hne
theorem OwnK.below {W W' : World} {base : Nat} {v : Value} {xs : List α} (h : OwnK k T enc W base v xs) (hb : Below W.heap.size W W') : OwnK k T enc W' base v xs :=
  h.kept (row := none) ⟨hb.os, hb.tape, hb.output, hb.size, fun k hk _ => hb.block k hk⟩ (by cases v.ownBlock <;> simp)
theorem OwnK.lt {W : World} {base : Nat} {v : Value} {xs : List α} (h : OwnK k T enc W base v xs) : ∀ b, v.ownBlock = some b → b < W.heap.size := by
  intro b hk
  rcases h.2 with ⟨rfl, _⟩ | ⟨g, cap, cur, rfl, hb, hg, _⟩
  · simp [Value.ownBlock] at hk
  · obtain rfl : g = b := by simpa [Value.ownBlock] using hk
    exact (Array.getElem?_eq_some_iff.1 hg).1
theorem OwnK.weaken {W : World} {base b2 : Nat} {v : Value} {xs : List α} (h : OwnK k T enc W base v xs) (hb : b2 ≤ base) : OwnK k T enc W b2 v xs := by
  refine ⟨h.1, ?_⟩
  rcases h.2 with hn | ⟨g, cap, cur, e, hg, rest⟩
  · exact .inl hn
  · exact .inr ⟨g, cap, cur, e, by omega, rest⟩
theorem OwnK.ne_block {W : World} {base : Nat} {v : Value} {xs : List α} (h : OwnK k T enc W base v xs) {B : Nat} {cs : Array Value} {t : TypeId} (hB : W.heap[B]? = some (.cells cs t)) (ht : t ≠ T) : some B ≠ v.ownBlock := by
  rcases h.2 with ⟨rfl, _⟩ | ⟨g, cap, cur, rfl, _, hg, _⟩
  · simp [Value.ownBlock]
  · intro e
    obtain rfl : B = g := by simpa [Value.ownBlock] using e
    rw [hg] at hB
    cases hB
    exact ht rfl
theorem OwnK.apart {β : Type} {k' : Nat} {T' : TypeId} {enc' : β → List Value} {W : World} {base base' : Nat} {v v' : Value} {xs : List α} {ys : List β} (h : OwnK k T enc W base v xs) (h' : OwnK k' T' enc' W base' v' ys) (hT : T ≠ T') : v.ownBlock = none ∨ v.ownBlock ≠ v'.ownBlock := by
  rcases h.2 with ⟨rfl, _⟩ | ⟨g, cap, cur, rfl, _, hg, _⟩
  · left; rfl
  · right
    intro e
    exact h'.ne_block hg hT e
theorem OwnK.kept2 {β : Type} {k' : Nat} {T' : TypeId} {enc' : β → List Value} {W W' : World} {base base' : Nat} {v v' : Value} {xs : List α} {ys : List β} (h : OwnK k T enc W base v xs) (h' : OwnK k' T' enc' W base' v' ys) (hT : T ≠ T') (hg : W.grownBy W' v'.ownBlock) : OwnK k T enc W' base v xs :=
  h.kept hg (h.apart h' hT)
theorem OwnK.keptB {W : World} {base : Nat} {v : Value} {xs : List α} (h : OwnK k T enc W base v xs) {B : Nat} {cs : Array Value} {t : TypeId} (hB : W.heap[B]? = some (.cells cs t)) (ht : t ≠ T) (j : Nat) (u : Value) : OwnK k T enc (W.setCell ⟨B, j, none⟩ u) base v xs :=
  h.kept (kgrown_set W B j u) (.inr (fun e => h.ne_block hB ht e.symm))
theorem OwnK.cut {W : World} {base : Nat} {a : Option Addr} {n c : Nat} {xs : List α} (h : OwnK k T enc W base (.slice a n c) xs) (m : Nat) (hm : m ≤ xs.length) (henc : ∀ x, (enc x).length = k) : OwnK k T enc W base (.slice a m c) (xs.take m) := by
  have hlen : ∀ l : List α, (l.flatMap enc).length = l.length * k := by
    intro l; induction l with
    | nil => simp
    | cons x l ih => simp [ih, henc, Nat.add_mul, Nat.add_comm]
  have htake : ∀ (l : List α) (m : Nat), (l.take m).flatMap enc = (l.flatMap enc).take (m * k) := by
    intro l; induction l with
    | nil => intro m; simp
    | cons x l ih =>
      intro m
      cases m with
      | zero => simp
      | succ m =>
        rw [List.take_succ_cons, List.flatMap_cons, List.flatMap_cons, ih, Nat.succ_mul, Nat.add_comm (m * k) k, List.take_append, List.take_of_length_le (l := enc x) (by rw [henc]; omega), henc, Nat.add_sub_cancel_left]
  unfold OwnK World.ownsRow at h ⊢
  have hl : (xs.take m).length = m := by rw [List.length_take]; omega
  rw [hl]
  refine ⟨by rw [hlen, hl], ?_⟩
  rcases h.2 with ⟨e, h0⟩ | ⟨g, cap, cur, e, hb, hg, hc, hmx, hsz, htk⟩
  · cases e
    left
    exact ⟨by congr 1; omega, by omega⟩
  · cases e
    right
    refine ⟨g, c, cur, rfl, hb, hg, by omega, hmx, hsz, ?_⟩
    rw [htake, ← htk, List.take_take]
    congr 1
    exact (Nat.min_eq_left (Nat.mul_le_mul_right k hm)).symm

end

end Go.Proofs.YtckammgnmgkieaaGreat

/-
  A drawn region of reads and calls, over any class of worlds.
-/
namespace Go.Proofs.YtckammgnmgkieaaGreat
set_option maxRecDepth 20000
open Go.RowKit Go.Shelf

structure WIn (C : World → Prop) where
  w : World
  ok : C w
theorem wp_region_cls {P : Program} {id : Nat} {Q : Exit → Act → World → Prop} {a : Act} {w : World} {l : List Oper} (C : World → Prop) (hm : P.follows .mixedOrders = true) (hB : Region.lexB .any l.toArray = true) (hC : C w.drew)
    (h : wpQuiet P l.toArray (fun w' => ∃ p : WIn C, w' = p.w) (fun a' => ∀ w', (∃ p : WIn C, w' = p.w) → Q .normal a' w') l a) : (Code.region id l.toArray true).wp P Q a w :=
  wp_region_quiet (C := fun w' => ∃ p : WIn C, w' = p.w) hm hB ⟨⟨w.drew, hC⟩, rfl⟩ (by simpa using h)
theorem Calls.cls {C : World → Prop} {P : Program} {f : FuncId} {args : Array Value} {w : World} {v : Value}
    (h : Calls P f args w fun e w' => e = .returned v ∧ C w') : Calls P f args w fun e w'' => e = .returned v ∧ ∃ q : WIn C, w'' = q.w :=
  h.mono fun _ w' ⟨he, hc⟩ => ⟨he, ⟨w', hc⟩, rfl⟩
end Go.Proofs.YtckammgnmgkieaaGreat

