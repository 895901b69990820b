/-
  rdata.readWords, rdata.Parse.
-/
import Derived.Test.YtckammgnmgkieaaMQ33
import Derived.Test.YtckammgnmgkieaaMQ24
import Derived.StillTailTactics
import Derived.Test.YtckammgnmgkieaaMQ12
import Derived.Test.YtckammgnmgkieaaMQ29
import Derived.Test.YtckammgnmgkieaaMQ10
import Derived.Deep.CutBlock
import Derived.Deep.DeepCutAuto
import Derived.Deep.RegionLaw
namespace Go.Proofs.Ytckammgnmgkieaa
set_option maxRecDepth 20000
open Go.RowKit Go.Shelf
set_option maxRecDepth 20000

theorem formD_shape (t : Int) (n : Nat) : formD t n = [52] ∨ formD t n = [54] ∨ formD t n = [110] ∨ formD t n = [112, 110] ∨ formD t n = [110, 110, 117, 117, 117, 117, 117] ∨ formD t n = List.replicate n 116 ∨ formD t n = [] := by
  unfold formD
  split
  · exact .inl rfl
  split
  · exact .inr (.inl rfl)
  split
  · exact .inr (.inr (.inl rfl))
  split
  · exact .inr (.inr (.inr (.inl rfl)))
  split
  · exact .inr (.inr (.inr (.inr (.inl rfl))))
  split
  · exact .inr (.inr (.inr (.inr (.inr (.inl rfl)))))
  · exact .inr (.inr (.inr (.inr (.inr (.inr rfl)))))
theorem formD_kinds {t : Int} {n : Nat} {k : UInt8} (h : k ∈ formD t n) : k = 110 ∨ k = 117 ∨ k = 112 ∨ k = 116 ∨ k = 52 ∨ k = 54 := by
  rcases formD_shape t n with e | e | e | e | e | e | e
  all_goals rw [e] at h
  · simp at h; simp [h]
  · simp at h; simp [h]
  · simp at h; simp [h]
  · simp at h; rcases h with h | h <;> simp [h]
  · simp at h; rcases h with h | h <;> simp [h]
  · have := (List.mem_replicate.1 h).2; simp [this]
  · simp at h
theorem formD_text {t : Int} {n : Nat} (h : (116 : UInt8) ∈ formD t n) : ∀ k ∈ formD t n, k = 116 := by
  rcases formD_shape t n with e | e | e | e | e | e | e
  all_goals rw [e] at h ⊢
  all_goals first
    | (simp at h; done)
    | (intro k hk; exact (List.mem_replicate.1 hk).2)

theorem region_tail {P : Program} {id : Nat} {Q : Exit → Act → World → Prop} {a : Act} {w : World} {l : List Oper} (n : Nat) (hm : P.follows .mixedOrders = true) (hB : Region.lexTailB .any l.toArray n = true)
    (h : wpStill P l.toArray w.drew (fun a' => wpList P l.toArray Q (l.drop n) a' w.drew) (l.take n) a) : (Code.region id l.toArray true).wp P Q a w := wp_region_still_tail n hm hB h
/-- What is known of data on the way. -/
structure WdInv (d dk : Dat) (ks : List UInt8) (k : Nat) : Prop where
  ty : dk.ty = d.ty
  names : dk.names.length ≤ d.names.length + k
  nums : dk.nums.length ≤ d.nums.length + k
  texts : dk.texts.length ≤ d.texts.length + k
  none : (116 : UInt8) ∈ ks → dk.names = []
theorem addD_inv {d dk : Dat} {ks : List UInt8} {k : Nat} {c : UInt8} (hall : (116 : UInt8) ∈ ks → c = 116) (h : WdInv d dk ks k) (s : List UInt8) (o : Nm) : WdInv d (addD dk c s o) ks (k + 1) := by
  obtain ⟨h1, h2, h3, h4, h5⟩ := h
  by_cases c1 : c = 110
  · subst c1
    rw [add_110]
    refine ⟨h1, by simp; omega, by simp; omega, by simp; omega, fun hm => ?_⟩
    exact absurd (hall hm) (by decide)
  by_cases c2 : c = 117
  · subst c2; rw [add_117]; exact ⟨h1, by simp; omega, by simp; omega, by simp; omega, h5⟩
  by_cases c3 : c = 112
  · subst c3; rw [add_112]; exact ⟨h1, by simp; omega, by simp; omega, by simp; omega, h5⟩
  by_cases c4 : c = 116
  · subst c4; rw [add_116]; exact ⟨h1, by simp; omega, by simp; omega, by simp; omega, h5⟩
  by_cases c5 : c = 52
  · subst c5; rw [add_52]; exact ⟨h1, by simp; omega, by simp; omega, by simp; omega, h5⟩
  by_cases c6 : c = 54
  · subst c6; rw [add_54]; exact ⟨h1, by simp; omega, by simp; omega, by simp; omega, h5⟩
  have e : addD dk c s o = dk := by unfold addD; rw [if_neg c1, if_neg c2, if_neg c3, if_neg c4, if_neg c5, if_neg c6]
  rw [e]; exact ⟨h1, by omega, by omega, by omega, h5⟩
/-- What readWords answers. -/
def wordsE (d : Dat) (o : Nm) (ks : List UInt8) (l : List Wd) : Dat × Int := if ks = [] ∨ ks.length ≠ l.length then (d, 2) else wordsD d o ks l
def WordsPost (B base : Nat) (q : Dat × Int) (w : World) (e : Ending) (w' : World) : Prop := e = .returned (.int .i64 q.2) ∧ (q.2 = 0 → DBox w' B base q.1) ∧ Below base w w' ∧ KeepW B w w'
theorem words_fin {B base : Nat} {q : Dat × Int} {w w' : World} {e : Ending} (d : Dat) (er : Int) (h : q = (d, er)) (he : e = .returned (.int .i64 er)) (hd : er = 0 → DBox w' B base d) (hb : Below base w w') (hkw : KeepW B w w') : WordsPost B base q w e w' := by
  subst h; exact ⟨he, hd, hb, hkw⟩
theorem words_quoted {d : Dat} {o : Nm} {k : UInt8} {ks : List UInt8} {s : List UInt8} {l : List Wd} (h : k ≠ 116) : wordsD d o (k :: ks) ((s, true) :: l) = (d, 2) := by
  rw [wordsD, if_pos ⟨rfl, h⟩]
theorem words_step {d : Dat} {o : Nm} {k : UInt8} {ks : List UInt8} {x : Wd} {l : List Wd} (h : ¬ (x.2 = true ∧ k ≠ 116)) : wordsD d o (k :: ks) (x :: l) = if errD k x.1 o ≠ 0 then (d, errD k x.1 o) else wordsD (addD d k x.1 o) o ks l := by
  obtain ⟨s, q⟩ := x
  rw [wordsD, if_neg h]
theorem words_end {d : Dat} {o : Nm} {l : List Wd} : wordsD d o [] l = (d, 0) := by rw [wordsD]; simp
end Go.Proofs.Ytckammgnmgkieaa

/-
  rdata.Parse.
-/
namespace Go.Proofs.Ytckammgnmgkieaa
set_option maxRecDepth 20000
open Go.RowKit Go.Shelf
set_option maxRecDepth 20000

/-! ### Parse -/
/-- What Parse answers. -/
def ParseDPost (q : Dat × Int) (w : World) (e : Ending) (w' : World) : Prop := ∃ v', e = .returned (.tuple #[v', .int .i64 q.2]) ∧ DatAt w' v' q.1 ∧ Below w.heap.size w w'
theorem parseD_fin {q : Dat × Int} {w w' : World} {e : Ending} {v : Value} (d : Dat) (er : Int) (h : q = (d, er)) (he : e = .returned (.tuple #[v, .int .i64 er])) (hd : DatAt w' v d) (hb : Below w.heap.size w w') : ParseDPost q w e w' := by
  subst h; exact ⟨v, he, hd, hb⟩
theorem datAt_none (W : World) : DatAt W (.agg #[.int .i64 0, .slice none 0 0, .slice none 0 0, .slice none 0 0, .slice none 0 0]) Dat.none :=
  ⟨_, _, _, _, rfl, NmsAt.nil _, SlAt.nil _, nm_nil _, SlAt.nil _⟩
theorem parseD_type {t : Int} {l : List Wd} {o : Nm} (h : t < 1 ∨ 65535 < t) : parseD t l o = (Dat.none, 6) := by unfold parseD; rw [if_pos h]
theorem parseD_other {t : Int} {l : List Wd} {o : Nm} (h : ¬ (t < 1 ∨ 65535 < t)) (h2 : l.head? = some ([92, 35], false)) : parseD t l o = if (octetsD t (l.drop 1)).2 = 0 then (⟨t, [], [], [], (octetsD t (l.drop 1)).1⟩, 0) else (Dat.none, (octetsD t (l.drop 1)).2) := by
  unfold parseD; rw [if_neg h, if_pos h2]
theorem parseD_words {t : Int} {l : List Wd} {o : Nm} (h : ¬ (t < 1 ∨ 65535 < t)) (h2 : l.head? ≠ some ([92, 35], false)) : parseD t l o = if (wordsE (Dat.of t) o (formD t l.length) l).2 = 0 then ((wordsE (Dat.of t) o (formD t l.length) l).1, 0) else (Dat.none, (wordsE (Dat.of t) o (formD t l.length) l).2) := by
  unfold parseD wordsE; rw [if_neg h, if_neg h2]
  split <;> rfl
/-- Five stores into a box of data. -/
def set5 (W : World) (R : Nat) (x0 x1 x2 x3 x4 : Value) : World := ((((W.setCell ⟨R, 0, none⟩ x0).setCell ⟨R, 1, none⟩ x1).setCell ⟨R, 2, none⟩ x2).setCell ⟨R, 3, none⟩ x3).setCell ⟨R, 4, none⟩ x4
theorem set5_block {W : World} {R : Nat} {y0 y1 y2 y3 y4 : Value} (h : W.heap[R]? = some (.cells #[y0, y1, y2, y3, y4] 31)) (x0 x1 x2 x3 x4 : Value) : (set5 W R x0 x1 x2 x3 x4).heap[R]? = some (.cells #[x0, x1, x2, x3, x4] 31) :=
  block_set (block_set (block_set (block_set (block_set h 0 x0) 1 x1) 2 x2) 3 x3) 4 x4
theorem set5_row {W : World} {R : Nat} {y0 y1 y2 y3 y4 : Value} (h : W.heap[R]? = some (.cells #[y0, y1, y2, y3, y4] 31)) (x0 x1 x2 x3 x4 : Value) {base : Nat} {vn vu vt vr : Value} {d : Dat} (hr : DRow W base vn vu vt vr d) : DRow (set5 W R x0 x1 x2 x3 x4) base vn vu vt vr d :=
  ((((hr.set h 0 x0).set (block_set h 0 x0) 1 x1).set (block_set (block_set h 0 x0) 1 x1) 2 x2).set (block_set (block_set (block_set h 0 x0) 1 x1) 2 x2) 3 x3).set (block_set (block_set (block_set (block_set h 0 x0) 1 x1) 2 x2) 3 x3) 4 x4
theorem set5_below {w W : World} {R : Nat} (hb : Below R w W) (x0 x1 x2 x3 x4 : Value) : Below R w (set5 W R x0 x1 x2 x3 x4) :=
  ((((hb.setCell (p := ⟨R, 0, none⟩) (Nat.le_refl _) x0).setCell (p := ⟨R, 1, none⟩) (Nat.le_refl _) x1).setCell (p := ⟨R, 2, none⟩) (Nat.le_refl _) x2).setCell (p := ⟨R, 3, none⟩) (Nat.le_refl _) x3).setCell (p := ⟨R, 4, none⟩) (Nat.le_refl _) x4
theorem cells5 {W : World} {R : Nat} {x0 x1 x2 x3 x4 : Value} (h : W.heap[R]? = some (.cells #[x0, x1, x2, x3, x4] 31)) :
    W.cell? ⟨R, 0, none⟩ = some x0 ∧ W.cell? ⟨R, 1, none⟩ = some x1 ∧ W.cell? ⟨R, 2, none⟩ = some x2 ∧ W.cell? ⟨R, 3, none⟩ = some x3 ∧ W.cell? ⟨R, 4, none⟩ = some x4 :=
  ⟨cell_of_block h 0 _ rfl, cell_of_block h 1 _ rfl, cell_of_block h 2 _ rfl, cell_of_block h 3 _ rfl, cell_of_block h 4 _ rfl⟩
theorem frozen5 {W : World} {R : Nat} {cs : Array Value} (h : W.heap[R]? = some (.cells cs 31)) :
    W.frozen? ⟨R, 0, none⟩ = false ∧ W.frozen? ⟨R, 1, none⟩ = false ∧ W.frozen? ⟨R, 2, none⟩ = false ∧ W.frozen? ⟨R, 3, none⟩ = false ∧ W.frozen? ⟨R, 4, none⟩ = false :=
  ⟨frozen_block h 0, frozen_block h 1, frozen_block h 2, frozen_block h 3, frozen_block h 4⟩
end Go.Proofs.Ytckammgnmgkieaa

/-
  The document's CompareData. (Written by wip/tools/gen11.py.)
-/
namespace Go.Proofs.Ytckammgnmgkieaa
set_option maxRecDepth 20000
open Go.RowKit Go.Shelf
set_option maxRecDepth 20000
theorem keepS4 {N : Nat} {W0 W W' : World} {p q r s : Addr} {u v x y : Value} (h : W.cell? p = some u ∧ W.cell? q = some v ∧ W.cell? r = some x ∧ W.cell? s = some y ∧ Below N W0 W) (hb : Below W.heap.size W W') (hp : p.block < N) (hq : q.block < N) (hr : r.block < N) (hs : s.block < N) (hn : N ≤ W0.heap.size) :
    W'.cell? p = some u ∧ W'.cell? q = some v ∧ W'.cell? r = some x ∧ W'.cell? s = some y ∧ Below N W0 W' := by
  have hz := h.2.2.2.2.size
  exact ⟨(hb.cell (by omega)).trans h.1, (hb.cell (by omega)).trans h.2.1, (hb.cell (by omega)).trans h.2.2.1, (hb.cell (by omega)).trans h.2.2.2.1, h.2.2.2.2.trans (hb.mono (by omega))⟩
theorem cmpI_diff (a b : Int) : cmpI (a - b) 0 = cmpI a b := by
  unfold cmpI
  by_cases h : a < b
  · rw [if_pos h, if_pos (by omega)]
  · rw [if_neg h, if_neg (by omega)]
    by_cases h2 : b < a
    · rw [if_pos h2, if_pos (by omega)]
    · rw [if_neg h2, if_neg (by omega)]
theorem cmpI_ne {a b : Int} (h : a ≠ b) : cmpI a b ≠ 0 := by
  unfold cmpI; split
  · decide
  · split
    · decide
    · omega
theorem cmpI_self (a : Int) : cmpI a a = 0 := by simp [cmpI]
theorem bytes_string {W : World} {v : Value} {xs : List UInt8} (h : SlAt W v (xs.map bv)) : (convert 29 9 v).run Try.prog W = .ok (.string ⟨xs.toArray⟩) W := by
  obtain ⟨a, c, rfl, hc, hz, hx⟩ := h
  rw [List.length_map] at *
  cases xs with
  | nil =>
    cases a with
    | none => exact Lib.run_convert_nil_bytes W _ _ _ _ Try.underlying29 Try.underlying5 Try.underlying9
    | some p => exact run_convert_bytes_back W 29 9 5 p c [] Try.underlying29 Try.underlying5 Try.underlying9 (fun j hj => absurd hj (Nat.not_lt_zero _))
  | cons y r =>
    rcases hx with e | ⟨b, off, rfl, _, hcell⟩
    · simp at e
    · exact run_convert_bytes_back W 29 9 5 ⟨b, off, none⟩ c (y :: r) Try.underlying29 Try.underlying5 Try.underlying9 (fun j hj => by
        have := hcell j (by simpa using hj)
        rw [List.getElem_map] at this
        have e : ((⟨b, off, none⟩ : Addr).add j) = ⟨b, off + j, none⟩ := by unfold Addr.add; by_cases hj : j = 0 <;> simp [hj]
        rw [e]; exact this)

end Go.Proofs.Ytckammgnmgkieaa

/-
  slices.Index, slices.Contains at ints (a row of natural numbers).
-/
namespace Go.Proofs.Ytckammgnmgkieaa
set_option maxRecDepth 20000
open Go.RowKit Go.Shelf
set_option maxRecDepth 20000
set_option linter.unusedVariables false
set_option linter.unusedSimpArgs false
def natV (k : Nat) : Value := .int .i64 (k : Int)
theorem any_take {l : List Nat} {x : Nat} {k : Nat} (h : k < l.length) (hx : ¬ (x : Int) = (l[k] : Int)) (h0 : ¬ x ∈ l.take k) : ¬ x ∈ l.take (k + 1) := by
  rw [List.take_succ_eq_append_getElem h, List.mem_append, List.mem_singleton]
  rintro (h1 | h1)
  · exact h0 h1
  · exact hx (by rw [h1])
set_option maxHeartbeats 4000000 in
theorem index_nat (v : Value) (l : List Nat) (x : Nat) (w : World) (hA : SlAt w v (l.map natV)) (hl : l.length ≤ 1048576) :
    Calls Try.prog 88 #[v, .int .i64 (x : Int)] w fun e w' => (∃ j : Int, e = .returned (.int .i64 j) ∧ (decide (0 ≤ j) = l.contains x)) ∧ w' = w := by
  obtain ⟨a, c, rfl, hx⟩ := id hA
  obtain ⟨n, hn⟩ : ∃ n, (l.map natV).length = n := ⟨_, rfl⟩
  have hn2 : l.length = n := by rw [← hn, List.length_map]
  rw [hn] at hA ⊢
  have hnl : n ≤ 1048576 := by omega
  have HA := Lib.hid hA; have HN := Lib.hid hn2
  clear hx hn hA hl hn2
  go_enter Try.func88, Try.ntmps88
  go_wp2
  go_loop [8] (fun vi => ∃ k : Nat, vi = .int .i64 k ∧ k ≤ n ∧ Hid (¬ x ∈ l.take k)) (fun vi => n - (intOf vi).toNat)
  case atStart => exact ⟨0, rfl, Nat.zero_le _, Lib.hid (by simp)⟩
  case round =>
    obtain ⟨k, rfl, hk, HX⟩ := hrel
    by_cases hlt : k < n
    · have hltz : (k : Int) < (n : Int) := by omega
      have hk2 : k < l.length := by have := HN.out; omega
      obtain ⟨b, off, rfl, hb, hcell⟩ := HA.out.cell (Below.refl _ w) k (by rw [List.length_map]; exact hk2)
      rw [List.getElem_map] at hcell
      unfold natV at hcell
      obtain ⟨y, hy⟩ : ∃ y, l[k]'hk2 = y := ⟨_, rfl⟩
      have HY := Lib.hid hy
      rw [hy] at hcell
      clear hy
      by_cases he : (x : Int) = (y : Int)
      · have hbb : ((x : Int) == (y : Int)) = true := by simpa using he
        have HE := Lib.hid he
        clear he
        go_wp2
        go_ret
        refine ⟨⟨k, rfl, ?_⟩, rfl⟩
        have e1 : x = y := by have := HE.out; omega
        have e2 : x ∈ l := by rw [e1, ← HY.out]; exact List.getElem_mem _
        simpa using e2
      · have hbb : ((x : Int) == (y : Int)) = false := by simpa using he
        have HT := Lib.hid (any_take hk2 (by rw [HY.out]; exact he) HX.out)
        clear he
        go_wp2
        go_round
        case measure => simp [intOf]; omega
        case rel => exact ⟨k + 1, by go_num, by omega, HT⟩
    · obtain rfl : k = n := by omega
      have h := HX.out
      rw [List.take_of_length_le (by have := HN.out; omega)] at h
      have HF := Lib.hid h
      clear h
      go_wp2
      go_ret
      refine ⟨⟨-1, rfl, ?_⟩, rfl⟩
      simpa using HF.out
set_option maxHeartbeats 2000000 in
theorem contains_nat (v : Value) (l : List Nat) (x : Nat) (w : World) (hA : SlAt w v (l.map natV)) (hl : l.length ≤ 1048576) :
    Calls Try.prog 77 #[v, .int .i64 (x : Int)] w fun e w' => e = .returned (.bool (l.contains x)) ∧ w' = w := by
  have hc := index_nat v l x w hA hl
  obtain ⟨q, hq⟩ : ∃ q, l.contains x = q := ⟨_, rfl⟩
  rw [hq] at hc ⊢
  clear hA hl hq
  go_enter Try.func77, Try.ntmps77
  go_wp2_with fail
  refine hc.mono ?_
  rintro e w' ⟨⟨j, rfl, hj⟩, rfl⟩
  have HJ := Lib.hid hj
  clear hj hc
  go_wp2
  go_ret
  exact ⟨by rw [HJ.out]; rfl, rfl⟩
end Go.Proofs.Ytckammgnmgkieaa

/-
  law4.Of: the data as the document's. (Written by wip/tools/gen12.py.)
-/
namespace Go.Proofs.Ytckammgnmgkieaa
set_option maxRecDepth 20000
open Go.RowKit Go.Shelf
set_option maxRecDepth 20000
theorem sl_list : ∀ vs : List Value, (∀ x ∈ vs, ∃ s : SlV, x = slEnc s) → ∃ ss : List SlV, ss.map slEnc = vs
  | [], _ => ⟨[], rfl⟩
  | x :: r, h => by
    obtain ⟨s, hs⟩ := h x (by simp)
    obtain ⟨ss, hss⟩ := sl_list r (fun y hy => h y (by simp [hy]))
    exact ⟨s :: ss, by simp [hs, hss]⟩
theorem NmAt.sl {W : World} {v : Value} {xs : Nm} (h : NmAt W v xs) : ∃ s : SlV, v = slEnc s := by
  obtain ⟨⟨a, c, rfl, _⟩, _⟩ := h
  exact ⟨(a, xs.length, c), rfl⟩
theorem set5_block' {W : World} {R : Nat} {y0 y1 y2 y3 y4 : Value} (h : W.heap[R]? = some (.cells #[y0, y1, y2, y3, y4] 51)) (x0 x1 x2 x3 x4 : Value) : (set5 W R x0 x1 x2 x3 x4).heap[R]? = some (.cells #[x0, x1, x2, x3, x4] 51) :=
  block_set (block_set (block_set (block_set (block_set h 0 x0) 1 x1) 2 x2) 3 x3) 4 x4
theorem ownG_set5 {α : Type} {T : TypeId} {enc : α → Value} {W : World} {base : Nat} {v : Value} {xs : List α} {R : Nat} {y0 y1 y2 y3 y4 : Value} (h : W.heap[R]? = some (.cells #[y0, y1, y2, y3, y4] 51)) (x0 x1 x2 x3 x4 : Value) (hT : 51 ≠ T) (ho : OwnG T enc W base v xs) : OwnG T enc (set5 W R x0 x1 x2 x3 x4) base v xs :=
  ((((ho.keptB h hT 0 x0).keptB (block_set h 0 x0) hT 1 x1).keptB (block_set (block_set h 0 x0) 1 x1) hT 2 x2).keptB (block_set (block_set (block_set h 0 x0) 1 x1) 2 x2) hT 3 x3).keptB (block_set (block_set (block_set (block_set h 0 x0) 1 x1) 2 x2) 3 x3) hT 4 x4
theorem cells5' {W : World} {R : Nat} {T : TypeId} {x0 x1 x2 x3 x4 : Value} (h : W.heap[R]? = some (.cells #[x0, x1, x2, x3, x4] T)) :
    W.cell? ⟨R, 0, none⟩ = some x0 ∧ W.cell? ⟨R, 1, none⟩ = some x1 ∧ W.cell? ⟨R, 2, none⟩ = some x2 ∧ W.cell? ⟨R, 3, none⟩ = some x3 ∧ W.cell? ⟨R, 4, none⟩ = some x4 :=
  ⟨cell_of_block h 0 _ rfl, cell_of_block h 1 _ rfl, cell_of_block h 2 _ rfl, cell_of_block h 3 _ rfl, cell_of_block h 4 _ rfl⟩
theorem frozen5' {W : World} {R : Nat} {T : TypeId} {cs : Array Value} (h : W.heap[R]? = some (.cells cs T)) :
    W.frozen? ⟨R, 0, none⟩ = false ∧ W.frozen? ⟨R, 1, none⟩ = false ∧ W.frozen? ⟨R, 2, none⟩ = false ∧ W.frozen? ⟨R, 3, none⟩ = false ∧ W.frozen? ⟨R, 4, none⟩ = false :=
  ⟨frozen_block h 0, frozen_block h 1, frozen_block h 2, frozen_block h 3, frozen_block h 4⟩
theorem elemStrs : ElemT 22 49 24 := ⟨Try.underlying49, _, _, rfl, rfl, rfl, rfl, rfl⟩

set_option maxRecDepth 100000 in
set_option maxHeartbeats 8000000 in
theorem law4_Of (v : Value) (d : Dat) (w : World) (hA : DatAt w v d) (hk : d.names.length ≤ 1048576) :
    Calls Try.prog 33 #[v] w fun e w' => ∃ v', e = .returned v' ∧ DatAt w' v' d ∧ Below w.heap.size w w' := by
  obtain ⟨vn, vu, vt, vr, rfl, ⟨vs, s1, sl, s2⟩, a2, a3, a4⟩ := hA
  obtain ⟨an, ca, rfl, _⟩ := id s1
  obtain ⟨bn, cb, rfl, _⟩ := id a2
  obtain ⟨tn, ct, rfl, _⟩ := id a3.1
  obtain ⟨rn, cr, rfl, _⟩ := id a4
  obtain ⟨ss, hss⟩ := sl_list vs (fun x hx => by obtain ⟨j, hj, rfl⟩ := List.mem_iff_getElem.1 hx; exact (s2 j hj).sl)
  subst hss
  have HA2 := Lib.hid a2; have HA3 := Lib.hid a3; have HA4 := Lib.hid a4
  have hNA : ∀ j (_ : j < (ss.map slEnc).length) (h2 : j < d.names.length), NmAt w (ss.map slEnc)[j] d.names[j] := fun j h1 _ => s2 j h1
  have HNA := Lib.hid hNA
  have HCA := Lib.hid (fun W (hb : Below w.heap.size w W) j (hj : j < (ss.map slEnc).length) => s1.cell hb j hj)
  clear s1 s2 a2 a3 a4 hNA
  rw [List.length_map] at sl
  rw [List.length_map, List.length_map, List.length_map]
  obtain ⟨n1, e1⟩ : ∃ n, ss.length = n := ⟨_, rfl⟩
  obtain ⟨n2, e2⟩ : ∃ n, d.nums.length = n := ⟨_, rfl⟩
  obtain ⟨n3, e3⟩ : ∃ n, d.texts.length = n := ⟨_, rfl⟩
  obtain ⟨n4, e4⟩ : ∃ n, d.raw.length = n := ⟨_, rfl⟩
  rw [List.length_map, e2] at HA2
  rw [e3] at HA3
  rw [List.length_map, e4] at HA4
  rw [e1, e2, e3, e4]
  have hn1 : n1 ≤ 1048576 := by omega
  have E1 := Lib.hid e1; have SL := Lib.hid sl
  clear e1 e2 e3 e4 sl hk
  go_enter Try.func33, Try.ntmps33
  go_upto_block 0 with fail
  have hW : ∀ W0, (((w.alloc (.cells #[.int .i64 d.ty, .slice an n1 ca, .slice bn n2 cb, .slice tn n3 ct, .slice rn n4 cr] 31)).alloc (.cells #[.int .i64 0, .slice none 0 0, .slice none 0 0, .slice none 0 0, .slice none 0 0] 51)).alloc (.cells #[.int .i64 d.ty, .slice none 0 0, .slice bn n2 cb, .slice tn n3 ct, .slice rn n4 cr] 51)) = W0 → Below w.heap.size w W0 ∧ (∀ (j : Nat) (z : Value), [Value.int .i64 d.ty, .slice an n1 ca, .slice bn n2 cb, .slice tn n3 ct, .slice rn n4 cr][j]? = some z → W0.cell? ⟨w.heap.size, j, none⟩ = some z) ∧ W0.heap[w.heap.size + 1]? = some (.cells #[.int .i64 0, .slice none 0 0, .slice none 0 0, .slice none 0 0, .slice none 0 0] 51) ∧ W0.heap[w.heap.size + 1 + 1]? = some (.cells #[.int .i64 d.ty, .slice none 0 0, .slice bn n2 cb, .slice tn n3 ct, .slice rn n4 cr] 51) := by
    rintro W0 rfl
    have hz1 : (w.alloc (.cells #[.int .i64 d.ty, .slice an n1 ca, .slice bn n2 cb, .slice tn n3 ct, .slice rn n4 cr] 31)).heap.size = w.heap.size + 1 := by simp
    have hz2 : ((w.alloc (.cells #[.int .i64 d.ty, .slice an n1 ca, .slice bn n2 cb, .slice tn n3 ct, .slice rn n4 cr] 31)).alloc (.cells #[.int .i64 0, .slice none 0 0, .slice none 0 0, .slice none 0 0, .slice none 0 0] 51)).heap.size = w.heap.size + 1 + 1 := by simp
    have e0 := new_at w [.int .i64 d.ty, .slice an n1 ca, .slice bn n2 cb, .slice tn n3 ct, .slice rn n4 cr] 31
    have e1 := block_new (w.alloc (.cells #[.int .i64 d.ty, .slice an n1 ca, .slice bn n2 cb, .slice tn n3 ct, .slice rn n4 cr] 31)) (.cells #[.int .i64 0, .slice none 0 0, .slice none 0 0, .slice none 0 0, .slice none 0 0] 51)
    have e2 := block_new ((w.alloc (.cells #[.int .i64 d.ty, .slice an n1 ca, .slice bn n2 cb, .slice tn n3 ct, .slice rn n4 cr] 31)).alloc (.cells #[.int .i64 0, .slice none 0 0, .slice none 0 0, .slice none 0 0, .slice none 0 0] 51)) (.cells #[.int .i64 d.ty, .slice none 0 0, .slice bn n2 cb, .slice tn n3 ct, .slice rn n4 cr] 51)
    rw [hz1] at e1
    rw [hz2] at e2
    have b1 : Below (w.heap.size + 1) (w.alloc (.cells #[.int .i64 d.ty, .slice an n1 ca, .slice bn n2 cb, .slice tn n3 ct, .slice rn n4 cr] 31)) (((w.alloc (.cells #[.int .i64 d.ty, .slice an n1 ca, .slice bn n2 cb, .slice tn n3 ct, .slice rn n4 cr] 31)).alloc (.cells #[.int .i64 0, .slice none 0 0, .slice none 0 0, .slice none 0 0, .slice none 0 0] 51)).alloc (.cells #[.int .i64 d.ty, .slice none 0 0, .slice bn n2 cb, .slice tn n3 ct, .slice rn n4 cr] 51)) := ((Below.refl _ _).alloc (by simp) _).alloc (by simp) _
    have b2 : Below (w.heap.size + 1 + 1) ((w.alloc (.cells #[.int .i64 d.ty, .slice an n1 ca, .slice bn n2 cb, .slice tn n3 ct, .slice rn n4 cr] 31)).alloc (.cells #[.int .i64 0, .slice none 0 0, .slice none 0 0, .slice none 0 0, .slice none 0 0] 51)) (((w.alloc (.cells #[.int .i64 d.ty, .slice an n1 ca, .slice bn n2 cb, .slice tn n3 ct, .slice rn n4 cr] 31)).alloc (.cells #[.int .i64 0, .slice none 0 0, .slice none 0 0, .slice none 0 0, .slice none 0 0] 51)).alloc (.cells #[.int .i64 d.ty, .slice none 0 0, .slice bn n2 cb, .slice tn n3 ct, .slice rn n4 cr] 51)) := (Below.refl _ _).alloc (by simp) _
    refine ⟨(((Below.refl _ w).alloc (Nat.le_refl _) _).alloc (by simp) _).alloc (by simp; omega) _, fun j z h => (b1.cell (p := ⟨w.heap.size, j, none⟩) (Nat.lt_succ_self _)).trans (e0 j z h), (b2.block _ (Nat.lt_succ_self _)).trans e1, e2⟩
  generalize hW0 : (((w.alloc (.cells #[.int .i64 d.ty, .slice an n1 ca, .slice bn n2 cb, .slice tn n3 ct, .slice rn n4 cr] 31)).alloc (.cells #[.int .i64 0, .slice none 0 0, .slice none 0 0, .slice none 0 0, .slice none 0 0] 51)).alloc (.cells #[.int .i64 d.ty, .slice none 0 0, .slice bn n2 cb, .slice tn n3 ct, .slice rn n4 cr] 51)) = W0
  obtain ⟨k1, k2, k3, k4⟩ := hW W0 hW0
  clear hW hW0
  have K1 := Lib.hid k1; have K2 := Lib.hid k2; have K3 := Lib.hid k3; have K4 := Lib.hid k4
  clear k1 k2 k3 k4
  go_wp2_with fail
  go_loopw [4] (fun i wr => ∃ (k : Nat) (a : Option Addr) (c : Nat), i = .int .i64 k ∧ k ≤ n1 ∧ Hid (OwnG 22 slEnc wr (w.heap.size + 3) (.slice a k c) (ss.take k)) ∧ Hid (wr.heap[w.heap.size + 1 + 1]? = some (.cells #[.int .i64 d.ty, .slice a k c, .slice bn n2 cb, .slice tn n3 ct, .slice rn n4 cr] 51)) ∧ Hid (Below (w.heap.size + 2) W0 wr)) (fun i _ => n1 - (intOf i).toNat)
  case atStart => exact ⟨0, none, 0, rfl, Nat.zero_le _, Lib.hid (OwnG.nil _ _), K4, Lib.hid (Below.refl _ _)⟩
  case round =>
    obtain ⟨k, a, c, rfl, hkn, HOW, HBX, HB⟩ := hrel
    have hx1 := (HB.out.cell (p := ⟨w.heap.size, 1, none⟩) (by show w.heap.size < _; omega)).trans (K2.out 1 _ rfl)
    have hx3 := cell_of_block HBX.out 1 _ rfl
    have hB0 := K1.out.trans (HB.out.mono (by omega))
    have hsz := block_lt HBX.out
    by_cases hlt : k < n1
    · have hks : k < ss.length := by rw [E1.out]; exact hlt
      obtain ⟨g, off, rfl, hg, hc⟩ := HCA.out wr hB0 k (by rw [List.length_map]; exact hks)
      rw [List.getElem_map] at hc
      have HTK := Lib.hid (show ss.take (k + 1) = ss.take k ++ [ss[k]] from List.take_succ_eq_append_getElem hks)
      obtain ⟨⟨pa, pn, pc⟩, hp⟩ : ∃ s, ss[k] = s := ⟨_, rfl⟩
      rw [hp] at hc HTK
      unfold slEnc at hc
      simp only at hc
      have hkn1 : (0 : Int) ≤ (k : Int) := by omega
      have hkn2 : (k : Int) < (n1 : Int) := by omega
      have HH := Lib.hid (And.intro hg (And.intro hsz hlt))
      obtain ⟨ht0, i0, zz, hi, hz0, hz1, hz2, hzc⟩ := elemStrs
      have hown2 : wr.ownsRow (w.heap.size + 3) 22 1 (.slice a k c) k ((ss.take k).map slEnc) := by
        have h := HOW.out
        unfold OwnG at h
        rw [List.length_take, Nat.min_eq_left (by omega)] at h
        exact h
      have HOB := Lib.hid HOW.out.base_le
      have hAw : ∀ W, Below wr.heap.size wr W → W.cell? ⟨w.heap.size, 1, none⟩ = some (.slice (some ⟨g, off, none⟩) n1 ca) ∧ W.cell? ⟨g, off + k, none⟩ = some (.slice pa pn pc) ∧ W.cell? ⟨w.heap.size + 1 + 1, 1, none⟩ = some (.slice a k c) := fun W hb =>
        ⟨(hb.cell (p := ⟨w.heap.size, 1, none⟩) (by show w.heap.size < _; omega)).trans hx1, (hb.cell (p := ⟨g, off + k, none⟩) (by show g < _; omega)).trans hc, (hb.cell (p := ⟨w.heap.size + 1 + 1, 1, none⟩) hsz).trans hx3⟩
      obtain ⟨da1, da2, da3⟩ := hAw wr.drew (below_drew1 (Below.refl _ _))
      obtain ⟨db1, db2, db3⟩ := hAw (wr.drew.alloc (.cells #[.slice pa pn pc] 22)) ((below_drew1 (Below.refl _ _)).alloc (Nat.le_refl _) _)
      have HBY : Hid ((wr.drew.alloc (.cells #[.slice pa pn pc] 22)).heap[w.heap.size + 1 + 1]? = some (.cells #[.int .i64 d.ty, .slice a k c, .slice bn n2 cb, .slice tn n3 ct, .slice rn n4 cr] 51)) := Lib.hid ((((below_drew1 (Below.refl wr.heap.size wr)).alloc (Nat.le_refl _) _).block _ hsz).trans HBX.out)
      have HOY : Hid (OwnG 22 slEnc (wr.drew.alloc (.cells #[.slice pa pn pc] 22)) (w.heap.size + 3) (.slice a k c) (ss.take k)) := Lib.hid (HOW.out.drew.alloc _)
      have HH := Lib.hid (And.intro hg (And.intro hsz hlt))
      clear hp hks hB0 hg hlt hAw
      go_wp2_with fail
      go_region_law (first
        | (refine step_append_lies _ (by rfl) _ _ _ (by rfl) (w.heap.size + 3) 22 i0 zz 1 24 ht0 hi hz0 hz1 hz2 hzc (by omega) (.slice a k c) k ((ss.take k).map slEnc) (by rfl) ((hown2.drew).alloc _)
            ⟨wr.heap.size, 0, none⟩ 1 1 [.slice pa pn pc] (by rfl) (by rfl) (World.news_of_block (cs := #[.slice pa pn pc]) (t := 22) (fr := (0, 0)) (heap_alloc_new wr _)) (by simp [Value.oneCell'])
            (by omega) (by unfold maxLen; omega) (by omega) (by simp; omega) (wr.heap.size + 1) (by simp) ?_; intro gg cap w6 hown6 hgrow hat hlt6; have hbx6 := Lib.hid ((hgrow.block (w.heap.size + 1 + 1) (block_lt HBY.out) (HOY.out.ne_block HBY.out (by decide))).trans HBY.out); have hc6 := cell_of_block hbx6.out 1 _ rfl; have hf6 := frozen_block hbx6.out 1))
      all_goals
        have HO6 := Lib.hid (show OwnG 22 slEnc (w6.setCell ⟨w.heap.size + 1 + 1, 1, none⟩ (.slice (some ⟨gg, 0, none⟩) (k + 1) cap)) (w.heap.size + 3) (.slice (some ⟨gg, 0, none⟩) (k + 1) cap) (ss.take (k + 1)) from by
          refine OwnG.keptB (cs := #[.int .i64 d.ty, .slice a k c, .slice bn n2 cb, .slice tn n3 ct, .slice rn n4 cr]) (t := 51) ?_ hbx6.out (by decide) 1 _
          unfold OwnG
          rw [HTK.out, List.length_append, List.map_append, List.length_take, Nat.min_eq_left (by have := HH.out.2.2; have := E1.out; omega)]
          exact hown6)
        have HX6 := Lib.hid (show (w6.setCell ⟨w.heap.size + 1 + 1, 1, none⟩ (.slice (some ⟨gg, 0, none⟩) (k + 1) cap)).heap[w.heap.size + 1 + 1]? = some (.cells #[.int .i64 d.ty, .slice (some ⟨gg, 0, none⟩) (k + 1) cap, .slice bn n2 cb, .slice tn n3 ct, .slice rn n4 cr] 51) from block_set hbx6.out 1 _)
        have HB6 := Lib.hid (show Below (w.heap.size + 2) W0 (w6.setCell ⟨w.heap.size + 1 + 1, 1, none⟩ (.slice (some ⟨gg, 0, none⟩) (k + 1) cap)) from
          HB.out.trans ((((below_drew1 (Below.refl (w.heap.size + 2) wr)).alloc (by show w.heap.size + 2 ≤ wr.heap.size; omega) _).grown hgrow (by simp; omega) (fun x e => by have := HOB.out x e; omega)).setCell (p := ⟨w.heap.size + 1 + 1, 1, none⟩) (by show w.heap.size + 2 ≤ w.heap.size + 1 + 1; omega) _))
        have hltk := HH.out.2.2
        clear hown6 hgrow hat hlt6 hc6 hf6 hown2 da1 da2 da3 db1 db2 db3 hx1 hx3 hc
        go_wp2_with fail
        go_roundw
        case rel => exact ⟨k + 1, some ⟨gg, 0, none⟩, cap, by go_num, by omega, HO6, HX6, HB6⟩
        case measure => simp [intOf]; omega
    · obtain rfl : k = n1 := by omega
      have hkn3 : ¬ (k : Int) < (k : Int) := by omega
      have hR := (HB.out.block (w.heap.size + 1) (by omega)).trans K3.out
      obtain ⟨r0, r1, r2, r3, r4⟩ := cells5' HBX.out
      obtain ⟨f0, f1, f2, f3, f4⟩ := frozen5' hR
      obtain ⟨s0, s1, s2, s3, s4⟩ := cells5' hR
      have HR := Lib.hid hR
      have HB0 := Lib.hid hB0
      obtain ⟨q0, q1, q2, q3, q4⟩ := cells5' (set5_block' hR (.int .i64 d.ty) (.slice a k c) (.slice bn n2 cb) (.slice tn n3 ct) (.slice rn n4 cr))
      unfold set5 at q0 q1 q2 q3 q4
      clear hR hB0 hx3 hsz
      go_wp2_with fail
      refine bodyPost_ret (v := .agg #[.int .i64 d.ty, .slice a k c, .slice bn n2 cb, .slice tn n3 ct, .slice rn n4 cr]) (by simp [results, Try.results33, go_sem, q0, q1, q2, q3, q4]) rfl ⟨_, rfl, ?_, ?_⟩
      · have hb9 : Below w.heap.size w (set5 wr (w.heap.size + 1) (.int .i64 d.ty) (.slice a k c) (.slice bn n2 cb) (.slice tn n3 ct) (.slice rn n4 cr)) := HB0.out.trans ((set5_below (Below.refl (w.heap.size + 1) wr) _ _ _ _ _).mono (by omega))
        have ho := ownG_set5 HR.out (.int .i64 d.ty) (.slice a k c) (.slice bn n2 cb) (.slice tn n3 ct) (.slice rn n4 cr) (by decide) HOW.out
        refine ⟨_, _, _, _, rfl, ⟨ss.map slEnc, ?_, by rw [List.length_map]; exact SL.out, fun j hj => (HNA.out j hj _).below hb9⟩, HA2.out.below hb9, HA3.out.below hb9, HA4.out.below hb9⟩
        have ht : ss.take k = ss := List.take_of_length_le (by rw [E1.out]; exact Nat.le_refl _)
        rw [ht] at ho
        exact SlAt.of_own ho
      · exact HB0.out.trans ((set5_below (Below.refl (w.heap.size + 1) wr) _ _ _ _ _).mono (by omega))
end Go.Proofs.Ytckammgnmgkieaa

