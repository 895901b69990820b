/-
  Package rtype's table of names: names, the iterator over its rows.
-/
import Derived.Test.YtoohhoillblaoaaDoorTyA
import Derived.Test.YtoohhoillblaoaaDoorOwn
namespace Go.Proofs.YtoohhoillblaoaaDoor
open Go.RowKit Go.Shelf

/-- The table's rows in block g. -/
def NRow (g : Nat) (W : World) : Prop := g < W.heap.size ∧ ∀ j, j < 9 → W.cell? ⟨g, j * 2, none⟩ = some (.int .i64 (typeT j)) ∧ W.cell? ⟨g, j * 2 + 1, none⟩ = some (strV (typeS j))
theorem NRow.below {g : Nat} {W W' : World} (h : NRow g W) (hb : Below W.heap.size W W') : NRow g W' := ⟨Nat.lt_of_lt_of_le h.1 hb.size, fun j hj =>
  ⟨(hb.cell (p := ⟨g, j * 2, none⟩) h.1).trans (h.2 j hj).1, (hb.cell (p := ⟨g, j * 2 + 1, none⟩) h.1).trans (h.2 j hj).2⟩⟩
def NamesPost (w : World) (e : Ending) (w' : World) : Prop := ∃ g, e = .returned (.agg #[.slice (some ⟨g, 0, none⟩) 9 9]) ∧ NRow g w' ∧ Below w.heap.size w w'

def NamesPost2 (w : World) (e : Ending) (w' : World) : Prop := ∃ g, e = .returned (.agg #[.slice (some ⟨g, 0, none⟩) 9 9]) ∧ NRow g w' ∧ Below w.heap.size w w' ∧ w.heap.size ≤ g

set_option maxHeartbeats 1000000 in
theorem rtype_names2 (w : World) : Calls Tryd.prog 16 #[] w (NamesPost2 w) := by
  go_enter Tryd.func16, Tryd.ntmps16
  go_wp2
  refine bodyPost_ret (v := .agg #[.slice (some ⟨w.heap.size + 1, 0, none⟩) 9 9]) (by simp [results, Tryd.results16, go_sem]) rfl ?_
  refine ⟨_, rfl, ⟨by simp, fun j hj => ?_⟩, ((Below.refl _ _).alloc (Nat.le_refl _) _).alloc (by simp) _, Nat.le_succ _⟩
  have key : ∀ i, i < 18 → ∀ u, ((List.range 18).map fun i => if i % 2 = 0 then Value.int .i64 (typeT (i / 2)) else strV (typeS (i / 2)))[i]? = some u →
      ((w.alloc (.cells #[.slice (some ⟨w.heap.size + 1, 0, none⟩) 9 9] 42)).alloc (.cells ((List.range 18).map fun i => if i % 2 = 0 then Value.int .i64 (typeT (i / 2)) else strV (typeS (i / 2))).toArray 55)).cell? ⟨w.heap.size + 1, i, none⟩ = some u := by
    intro i hi u hu
    have h := cells_new (w.alloc (.cells #[.slice (some ⟨w.heap.size + 1, 0, none⟩) 9 9] 42)) ((List.range 18).map fun i => if i % 2 = 0 then Value.int .i64 (typeT (i / 2)) else strV (typeS (i / 2))) 55 i u hu
    have e : ((⟨(w.alloc (.cells #[.slice (some ⟨w.heap.size + 1, 0, none⟩) 9 9] 42)).heap.size, 0, none⟩ : Addr).add i) = ⟨w.heap.size + 1, i, none⟩ := by unfold Addr.add; by_cases hj : i = 0 <;> simp [hj]
    rw [e] at h
    exact h
  refine ⟨?_, ?_⟩
  · exact key (j * 2) (by omega) _ (by simp [show j * 2 < 18 by omega])
  · exact key (j * 2 + 1) (by omega) _ (by simp [show j * 2 + 1 < 18 by omega, show (j * 2 + 1) / 2 = j by omega, show (j * 2 + 1) % 2 = 1 by omega])

theorem rtype_names (w : World) : Calls Tryd.prog 16 #[] w (NamesPost w) := (rtype_names2 w).mono fun _ _ ⟨g, h1, h2, h3, _⟩ => ⟨g, h1, h2, h3⟩

/-- What a round must keep: the table's box, its rows. -/
def KeepT (b g : Nat) (W W' : World) : Prop := KeepB b W W' ∧ KeepB g W W'
theorem KeepT.refl (b g : Nat) (W : World) : KeepT b g W W := ⟨rfl, rfl⟩
theorem keepT_t {b g : Nat} {A B C : World} (h : KeepT b g A B) (k : KeepT b g B C) : KeepT b g A C := ⟨h.1.trans k.1, h.2.trans k.2⟩
theorem keepT_b {b g : Nat} {w : World} (hb : b < w.heap.size) (hg : g < w.heap.size) (W : World) (l : Nat) (o o' : Obj) (hl : w.heap.size ≤ l) (h : W.heap[l]? = some o) (h1 : o.isCells = false) (h2 : o.isWalk = false) : KeepT b g W (W.putObj l o') :=
  ⟨keepB_b hb W l o o' hl h h1 h2, keepB_b hg W l o o' hl h h1 h2⟩
theorem KeepB.lt {b : Nat} {A B : World} (h : KeepB b A B) (hb : b < A.heap.size) : b < B.heap.size := by
  rcases Nat.lt_or_ge b B.heap.size with h' | h'
  · exact h'
  · unfold KeepB at h; rw [Array.getElem?_eq_none h', Array.getElem?_eq_getElem hb] at h; cases h
def rowV (j : Fin 9) : Array Value := #[.int .i64 (typeT j.val), strV (typeS j.val)]

section
attribute [local go_sem] Oper.semAt_some

set_option maxRecDepth 100000 in
set_option maxHeartbeats 2000000 in
theorem all1_in (n : Nat) (hn : 1 ≤ n) (l b g : Nat) (J Jx : List (Fin 9) → World → Prop)
    (hJ : ∀ pre W o, J pre W → J pre (W.alloc o))
    (hY : ∀ pre x W, J pre W → pre.length < 9 → YieldAt Fence.wide (n - 1) Tryd.prog l (rowV x) W fun e W' =>
      (e = .returned (.bool true) ∧ J (pre ++ [x]) W' ∧ KeepT b g W W') ∨ (e = .returned (.bool false) ∧ Jx (pre ++ [x]) W'))
    (W : World) (hbl : b < W.heap.size) (hgl : g < W.heap.size) (hc : W.cell? ⟨b, 0, none⟩ = some (.slice (some ⟨g, 0, none⟩) 9 9)) (hN : ∀ j, j < 9 → W.cell? ⟨g, j * 2, none⟩ = some (.int .i64 (typeT j)) ∧ W.cell? ⟨g, j * 2 + 1, none⟩ = some (strV (typeS j))) (h0 : J [] W) :
    CallsIn Fence.wide n Tryd.prog 29 #[.func (.yield l) #[] #[], .pointer (some ⟨b, 0, none⟩)] W fun e W' => (∃ v, e = .returned v) ∧
      ((∃ ys, ys = List.finRange 9 ∧ J ys W') ∨ (∃ pre, pre <+: List.finRange 9 ∧ Jx pre W')) := by
  refine callsIn_of_wp Tryd.func29 rfl trivial ?_ rfl
  simp only [Tryd.ntmps29, List.size_toArray, List.length_cons, List.length_nil, Nat.reduceAdd, Nat.reduceSub, Array.replicate_succ, Array.replicate_zero, List.push_toArray, List.append_toArray, List.nil_append, List.cons_append]
  have HN := Lib.hid hN
  clear hN
  gi_wp2
  gi_loopw [8] (fun i wr => ∃ k : Nat, k ≤ 9 ∧ i = .int .i64 k ∧ J ((List.finRange 9).take k) wr ∧ KeepT b g W wr ∧ b < wr.heap.size ∧ g < wr.heap.size)
    (fun i _ => 9 - (intOf i).toNat)
  case atStart => exact ⟨0, by omega, rfl, h0, KeepT.refl _ _ _, hbl, hgl⟩
  case round =>
    obtain ⟨k, hk, rfl, hJs, hnx, hbw, hgw⟩ := hrel
    by_cases hlt : k < 9
    · have c1 := (hnx.2.cell (o := k * 2)).trans (HN.out k hlt).1
      have c2 := (hnx.2.cell (o := k * 2 + 1)).trans (HN.out k hlt).2
      have hY1 := fun W1 (h : J ((List.finRange 9).take k) W1) => hY _ ⟨k, hlt⟩ W1 h (by simp; omega)
      have htk : (List.finRange 9).take (k + 1) = (List.finRange 9).take k ++ [⟨k, hlt⟩] := by
        rw [List.take_succ_eq_append_getElem (by simpa using hlt)]; simp
      unfold rowV at hY1
      simp only at hY1
      generalize typeT k = x at *
      obtain ⟨sk, hsk0, hskz, hskv⟩ := str_of (typeS k)
      rw [hskv] at hY1 c2
      have HTK := Lib.hid htk
      clear hsk0 hskz hskv htk
      obtain ⟨fn, tmps, assign, body, hy, hR⟩ := hY1 (wr.alloc (.cells #[.int .i64 x, .string sk] 55)) (hJ _ _ _ hJs)
      have hka : KeepT b g wr (wr.alloc (.cells #[.int .i64 x, .string sk] 55)) := ⟨KeepB.alloc _ _ (by omega), KeepB.alloc _ _ (by omega)⟩
      clear hY1
      gi_wp2
      refine hR.mono ?_
      rintro e W3 (⟨rfl, hJ3, hk3⟩ | ⟨rfl, hJx3⟩)
      · gi_wp2
        go_roundw
        case rel => exact ⟨k + 1, by omega, by simp, by rw [HTK.out]; exact hJ3, keepT_t hnx (keepT_t hka hk3), (keepT_t hka hk3).1.lt hbw, (keepT_t hka hk3).2.lt hgw⟩
        case measure => simp [intOf]; omega
      · gi_wp2
        refine bodyPost_ret (results_none rfl _ _ _) rfl ?_
        exact ⟨⟨_, rfl⟩, .inr ⟨_, by rw [← HTK.out]; exact List.take_prefix _ _, hJx3⟩⟩
    · obtain rfl : k = 9 := by omega
      gi_wp2
      go_end0
      exact ⟨⟨_, rfl⟩, .inl ⟨_, by rw [List.take_of_length_le (by simp)], hJs⟩⟩

theorem all_stops (n : Nat) (hn : 1 ≤ n) (b g : Nat) (w : World) (hb : b < w.heap.size) (hc : w.cell? ⟨b, 0, none⟩ = some (.slice (some ⟨g, 0, none⟩) 9 9)) (hN : NRow g w) :
    SeqStopsK Fence.wide n Tryd.prog 29 #[.pointer (some ⟨b, 0, none⟩)] rowV (KeepT b g) (fun ys => ys = List.finRange 9) (fun pre => pre <+: List.finRange 9) 9 w := fun l J Jx W hW hJ _ hY h0 =>
  all1_in n hn l b g J Jx (fun pre W' o h => hJ pre W' _ none h (World.grownBy_alloc W' o none) (fun _ e => by cases e)) hY W (Nat.lt_of_lt_of_le hb hW.size) (Nat.lt_of_lt_of_le hN.1 hW.size) ((hW.cell (p := ⟨b, 0, none⟩) hb).trans hc) (hN.below hW).2 h0

set_option maxHeartbeats 400000 in
theorem table_all (v : Value) (w : World) :
    Calls Tryd.prog 23 #[.agg #[v]] w fun e w' => e = .returned (.func (.func 29) #[] #[.pointer (some ⟨w.heap.size, 0, none⟩)]) ∧ w' = w.alloc (.cells #[v] 42) := by
  go_enter Tryd.func23, Tryd.ntmps23
  go_wp2
  go_ret
  exact ⟨rfl, rfl⟩
end
end Go.Proofs.YtoohhoillblaoaaDoor
