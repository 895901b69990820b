import Derived.Deep.QuietTactic
import Derived.BigQuiet
import Derived.Lib.ItoaNum
import Derived.Lib.ItoaMem
import Derived.Lib.ConvBytes
import Derived.Lib.IndexBytes
import Derived.Laws.Concat
import Derived.Lib.PathFns
import Derived.Test.YtckammgnmgkieaaGreatMQ28
import Derived.Test.YtckammgnmgkieaaGreatMQ33
namespace Go.Proofs.YtckammgnmgkieaaGreat
set_option maxRecDepth 20000
set_option maxHeartbeats 2000000
open Go.RowKit Go.Shelf
structure WIn (C : World → Prop) where
 w : World
 ok : C w
theorem qaf {P : Program} {id : Nat} {Q : Exit → Act → World → Prop} {a : Act} {w : World} {l : List Oper} (C : World → Prop) (hm : P.follows .mixedOrders = true) (hB : Region.lexB .any l.toArray = true) (hC : C w.drew)
 (h : wpQuiet P l.toArray (fun w' => ∃ p : WIn C, w' = p.w) (fun a' => ∀ w', (∃ p : WIn C, w' = p.w) → Q .normal a' w') l a) : (Code.region id l.toArray true).wp P Q a w :=
 wp_region_quiet (C := fun w' => ∃ p : WIn C, w' = p.w) hm hB ⟨⟨w.drew, hC⟩, rfl⟩ (by simpa using h)
theorem Calls.cls {C : World → Prop} {P : Program} {f : FuncId} {args : Array Value} {w : World} {v : Value}
 (h : Calls P f args w fun e w' => e = .returned v ∧ C w') : Calls P f args w fun e w'' => e = .returned v ∧ ∃ q : WIn C, w'' = q.w :=
 h.mono fun _ w' ⟨he, hc⟩ => ⟨he, ⟨w', hc⟩, rfl⟩
theorem qk7 (a b : Int) (w : World) : Calls Tryz.prog 187 #[.int .i64 a, .int .i64 b] w fun e w' => e = .returned (.int .i64 (cmpI a b)) ∧ w' = w := by
 unfold cmpI
 by_cases h1 : a < b
 ·rw [if_pos h1]
  go_enter Tryz.func187, Tryz.ntmps187
  go_wp2
  go_ret
  exact ⟨rfl, rfl⟩
 ·rw [if_neg h1]
  by_cases h2 : b < a
  ·rw [if_pos h2]
   go_enter Tryz.func187, Tryz.ntmps187
   go_wp2
   go_ret
   exact ⟨rfl, rfl⟩
  ·rw [if_neg h2]
   go_enter Tryz.func187, Tryz.ntmps187
   go_wp2
   go_ret
   exact ⟨rfl, rfl⟩
def qa6 (t : Int) : Int × Int × Int :=
 if t = 1 then (0, 0, 4) else if t = 28 then (0, 0, 16) else if t = 2 ∨ t = 5 ∨ t = 12 ∨ t = 39 then (1, 0, 0) else if t = 15 then (1, 1, 0) else if t = 6 then (2, 5, 0) else if t = 16 then (0, 0, 0) else (0, 0, -1)
def qdE (t : Int) (w : World) (e : Ending) (w' : World) : Prop := e = .returned (.tuple #[.int .i64 (qa6 t).1, .int .i64 (qa6 t).2.1, .int .i64 (qa6 t).2.2]) ∧ w' = w
theorem qjz (t : Int) (w : World) : Calls Tryz.prog 194 #[.int .i64 t] w (qdE t w) := by
 have lit : ∀ k : Int, t = k → ∀ c, qa6 k = c → Calls Tryz.prog 194 #[.int .i64 k] w (fun e w' => e = .returned (.tuple #[.int .i64 c.1, .int .i64 c.2.1, .int .i64 c.2.2]) ∧ w' = w) → Calls Tryz.prog 194 #[.int .i64 t] w (qdE t w) := by
  rintro k rfl c rfl h; exact h
 by_cases h1 : t = 1
 ·refine lit _ h1 _ rfl ?_
  go_enter Tryz.func194, Tryz.ntmps194
  go_wp2
  go_ret3
  exact ⟨rfl, rfl⟩
 by_cases h2 : t = 28
 ·refine lit _ h2 _ rfl ?_
  go_enter Tryz.func194, Tryz.ntmps194
  go_wp2
  go_ret3
  exact ⟨rfl, rfl⟩
 by_cases h3 : t = 2
 ·refine lit _ h3 _ rfl ?_
  go_enter Tryz.func194, Tryz.ntmps194
  go_wp2
  go_ret3
  exact ⟨rfl, rfl⟩
 by_cases h4 : t = 5
 ·refine lit _ h4 _ rfl ?_
  go_enter Tryz.func194, Tryz.ntmps194
  go_wp2
  go_ret3
  exact ⟨rfl, rfl⟩
 by_cases h5 : t = 12
 ·refine lit _ h5 _ rfl ?_
  go_enter Tryz.func194, Tryz.ntmps194
  go_wp2
  go_ret3
  exact ⟨rfl, rfl⟩
 by_cases h6 : t = 39
 ·refine lit _ h6 _ rfl ?_
  go_enter Tryz.func194, Tryz.ntmps194
  go_wp2
  go_ret3
  exact ⟨rfl, rfl⟩
 by_cases h7 : t = 15
 ·refine lit _ h7 _ rfl ?_
  go_enter Tryz.func194, Tryz.ntmps194
  go_wp2
  go_ret3
  exact ⟨rfl, rfl⟩
 by_cases h8 : t = 6
 ·refine lit _ h8 _ rfl ?_
  go_enter Tryz.func194, Tryz.ntmps194
  go_wp2
  go_ret3
  exact ⟨rfl, rfl⟩
 by_cases h9 : t = 16
 ·refine lit _ h9 _ rfl ?_
  go_enter Tryz.func194, Tryz.ntmps194
  go_wp2
  go_ret3
  exact ⟨rfl, rfl⟩
 have hc : qa6 t = (0, 0, -1) := by
  unfold qa6
  rw [if_neg h1, if_neg h2, if_neg (by omega), if_neg h7, if_neg h8, if_neg h9]
 have HC := qH0 hc; clear hc lit
 have e1 : (t == 1) = false := by simpa using h1
 have e2 : (t == 28) = false := by simpa using h2
 have e3 : (t == 2) = false := by simpa using h3
 have e4 : (t == 5) = false := by simpa using h4
 have e5 : (t == 12) = false := by simpa using h5
 have e6 : (t == 39) = false := by simpa using h6
 have e7 : (t == 15) = false := by simpa using h7
 have e8 : (t == 6) = false := by simpa using h8
 have e9 : (t == 16) = false := by simpa using h9
 clear h1 h2 h3 h4 h5 h6 h7 h8 h9
 go_enter Tryz.func194, Tryz.ntmps194
 go_wp2
 go_ret3
 exact ⟨by rw [HC.out]; rfl, rfl⟩
def typeT (j : Nat) : Int := [1, 2, 5, 6, 12, 15, 16, 28, 39].getD j 0
def typeS (j : Nat) : List UInt8 := ([[65], [78, 83], [67, 78, 65, 77, 69], [83, 79, 65], [80, 84, 82], [77, 88], [84, 88, 84], [65, 65, 65, 65], [68, 78, 65, 77, 69]] : List (List UInt8)).getD j []
end Go.Proofs.YtckammgnmgkieaaGreat
namespace Go.Proofs.YtckammgnmgkieaaGreat
set_option maxRecDepth 20000
open Go.RowKit Go.Shelf
def NRow (g : Nat) (W : World) : Prop := g < W.heap.size ∧ ∀ j, j < 9 → W.cell? ⟨g, j * 2, none⟩ = some (.int .i64 (typeT j)) ∧ W.cell? ⟨g, j * 2 + 1, none⟩ = some (strV (typeS j))
theorem NRow.below {g : Nat} {W W' : World} (h : NRow g W) (hb : Below W.heap.size W W') : NRow g W' := ⟨Nat.lt_of_lt_of_le h.1 hb.size, fun j hj =>
 ⟨(hb.cell (p := ⟨g, j * 2, none⟩) h.1).trans (h.2 j hj).1, (hb.cell (p := ⟨g, j * 2 + 1, none⟩) h.1).trans (h.2 j hj).2⟩⟩
def KeepT (b g : Nat) (W W' : World) : Prop := KeepB b W W' ∧ KeepB g W W'
theorem KeepT.refl (b g : Nat) (W : World) : KeepT b g W W := ⟨rfl, rfl⟩
theorem KeepB.lt {b : Nat} {A B : World} (h : KeepB b A B) (hb : b < A.heap.size) : b < B.heap.size := by
 rcases Nat.lt_or_ge b B.heap.size with h' | h'
 ·exact h'
 ·unfold KeepB at h; rw [Array.getElem?_eq_none h', Array.getElem?_eq_getElem hb] at h; cases h
section
attribute [local go_sem] Oper.semAt_some
end
end Go.Proofs.YtckammgnmgkieaaGreat
namespace Go.Proofs.YtckammgnmgkieaaGreat
set_option maxRecDepth 20000
open Go.RowKit Go.Shelf
section
variable (f : List UInt8 → List UInt8 × Nat × Int)
variable {f}
end
def hexC (n : Nat) : UInt8 := if n < 10 then UInt8.ofNat (48 + n) else UInt8.ofNat (97 + (n - 10))
abbrev Wd := List UInt8 × Bool
def qa7 (d : Dat) : Bool := decide (d.names.length = (qa6 d.ty).1 ∧ d.nums.length = (qa6 d.ty).2.1 ∧ (if d.ty = 16 then 1 ≤ d.texts.length ∧ d.texts.length ≤ 32 else d.texts.length = 0) ∧ (0 ≤ (qa6 d.ty).2.2 → (d.raw.length : Int) = (qa6 d.ty).2.2))
def qav : List Nm → Int
 | [] => 0
 | n :: r => if checkN n = 0 then qav r else checkN n
def longT (l : Nm) : Bool := l.any fun s => decide (255 < s.length)
def checkD (d : Dat) : Int :=
 if d.ty < 1 ∨ 65535 < d.ty then 6 else if qa7 d = false then 2 else if qav d.names ≠ 0 then qav d.names
 else if d.ty = 15 ∧ 65535 < d.nums.headD 0 then 7 else if longT d.texts then 3 else if 1024 < d.raw.length then 3 else 0
theorem qhH (l : List Nm) (n : Nm) : qav (l ++ [n]) = if qav l = 0 then checkN n else qav l := by
 induction l with
 | nil => simp only [List.nil_append, qav, if_true]; split <;> simp_all
 | cons x r ih =>
  have e : ∀ l, qav (x :: l) = if checkN x = 0 then qav l else checkN x := fun _ => rfl
  rw [List.cons_append]
  by_cases h : checkN x = 0
  ·have e1 : ∀ l, qav (x :: l) = qav l := fun l => by rw [e, if_pos h]
   rw [e1, e1, ih]
  ·have e1 : ∀ l, qav (x :: l) = checkN x := fun l => by rw [e, if_neg h]
   rw [e1, e1, if_neg h]
theorem qhR {a p : List Nm} (h : p <+: a) (hp : qav p ≠ 0) : qav a = qav p := by
 obtain ⟨t, rfl⟩ := h
 induction p with
 | nil => exact absurd rfl hp
 | cons x r ih =>
  simp only [List.cons_append, qav] at hp ⊢
  by_cases h : checkN x = 0
  ·rw [if_pos h] at hp ⊢; rw [if_pos h]; exact ih hp
  ·rw [if_neg h, if_neg h]
def Dat.of (t : Int) : Dat := ⟨t, [], [], [], []⟩
def hex2 (c : UInt8) : List UInt8 := [hexC (c.toNat / 16), hexC (c.toNat % 16)]
end Go.Proofs.YtckammgnmgkieaaGreat
namespace Go.Proofs.YtckammgnmgkieaaGreat
set_option maxRecDepth 20000
open Go.RowKit Go.Shelf
def BRow (g : Nat) (l : List UInt8) (W : World) : Prop := ∀ j (hj : j < l.length), W.cell? ⟨g, j, none⟩ = some (bv l[j]) ∧ W.frozen? ⟨g, j, none⟩ = false
theorem BRow.set {g : Nat} {l : List UInt8} {W : World} (h : BRow g l W) (k : Nat) (hk : k < l.length) (c : UInt8) : BRow g (l.set k c) (W.setCell ⟨g, k, none⟩ (bv c)) := by
 intro j hj
 rw [List.length_set] at hj
 rw [World.frozen?_setCell]
 refine ⟨?_, (h j hj).2⟩
 by_cases e : j = k
 ·subst e
  rw [World.cell?_setCell_same' _ _ _ (by rw [(h j hk).1]; rfl)]
  simp
 ·have hne : (⟨g, k, none⟩ : Addr) ≠ ⟨g, j, none⟩ := by intro q; injection q with _ e2 _; omega
  rw [World.cell?_setCell_other (h := hne), (h j hj).1]
  congr 2; rw [List.getElem_set_ne (by omega)]
theorem BRow.below {g n : Nat} {l : List UInt8} {W W' : World} (h : BRow g l W) (hb : Below n W W') (hg : g < n) : BRow g l W' := fun j hj =>
 ⟨(hb.cell (p := ⟨g, j, none⟩) hg).trans (h j hj).1, (hb.frozen (p := ⟨g, j, none⟩) hg).trans (h j hj).2⟩
theorem BRow.same {g : Nat} {l : List UInt8} {W : World} (h : BRow g l W) (k : Nat) (hk : k < l.length) (c : UInt8) (e : l[k] = c) : BRow g (l.set k c) W := by
 subst e; rw [List.set_getElem_self]; exact h
def TRow (g : Nat) (W : World) : Prop := g < W.heap.size ∧ ∀ j, j < 9 → W.cell? ⟨g, j, none⟩ = some (.int .i64 (typeT j))
theorem TRow.below {g : Nat} {W W' : World} (h : TRow g W) (hb : Below W.heap.size W W') : TRow g W' := ⟨Nat.lt_of_lt_of_le h.1 hb.size, fun j hj => (hb.cell (p := ⟨g, j, none⟩) h.1).trans (h.2 j hj)⟩
theorem qhY (d : Dat) (a b r : Nat) (h : qa6 d.ty = ((a : Int), (b : Int), (r : Int))) (h16 : d.ty ≠ 16) : qa7 d = decide (d.names.length = a ∧ d.nums.length = b ∧ d.texts.length = 0 ∧ d.raw.length = r) := by
 unfold qa7
 rw [h]
 apply decide_eq_decide.2
 rw [if_neg h16]
 show (d.names.length : Int) = (a : Int) ∧ (d.nums.length : Int) = (b : Int) ∧ _ ∧ ((0 : Int) ≤ (r : Int) → (d.raw.length : Int) = (r : Int)) ↔ _
 constructor
 ·rintro ⟨h1, h2, h3, h4⟩
  have := h4 (by omega)
  exact ⟨by omega, by omega, h3, by omega⟩
 ·rintro ⟨h1, h2, h3, h4⟩
  exact ⟨by omega, by omega, h3, fun _ => by omega⟩
end Go.Proofs.YtckammgnmgkieaaGreat
