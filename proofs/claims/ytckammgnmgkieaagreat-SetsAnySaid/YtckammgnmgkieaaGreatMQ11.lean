/-
  Small facts on bytes, strings and slices of bytes that the call itself owns: used by all walks of this seat.
-/
import Derived.Test.YtckammgnmgkieaaGreatRows
import Derived.RangeFuncNested
import Derived.RangeFuncBound
import Derived.RangeFuncCalls
import Derived.RangeFuncLeaves
import Derived.RangeFuncBox
import Derived.Shelf.Abstract
import Derived.Shelf.RegionOpen
import Derived.WalkKit
import Derived.WalkSpells
import Derived.WalkLawsBesides
import Derived.OwnWalkIn
import Derived.TacticsInMore
import Derived.LoopNIn
import Derived.LoopIn
import Derived.Maps.AppendAt
import Derived.BigQuiet
import Derived.Lib.Hide
import Derived.Lib.BufferRead
import Derived.Deep.QuietTactic
namespace Go.Proofs.YtckammgnmgkieaaGreat
set_option maxRecDepth 20000
open Go.RowKit Go.Shelf

theorem ret_int {k : IntKind} {a b : Int} (h : a = b) : Ending.returned (.int k a) = .returned (.int k b) := by rw [h]
theorem ret_bool {a b : Bool} (h : a = b) : Ending.returned (.bool a) = .returned (.bool b) := by rw [h]
theorem toList_data (s : ByteArray) : s.toList = s.data.toList := ByteArray.toList_eq s
theorem drop_cons_get (s : ByteArray) (k : Nat) (h : k < s.size) : s.data.toList.drop k = s[k] :: s.data.toList.drop (k + 1) := by
  rw [List.drop_eq_getElem_cons (by simpa using h)]; rfl
theorem size_data (s : ByteArray) : s.data.toList.length = s.size := rfl

def bv (c : UInt8) : Value := .int .u8 (c.toNat : Int)
theorem cells_new (w : World) (l : List Value) (T : TypeId) : ∀ j u, l[j]? = some u → (w.alloc (.cells l.toArray T)).cell? ((⟨w.heap.size, 0, none⟩ : Addr).add j) = some u := by
  intro j u h
  have hn := World.alloc_heap_new w (.cells l.toArray T)
  have e : ((⟨w.heap.size, 0, none⟩ : Addr).add j) = ⟨w.heap.size, j, none⟩ := by unfold Addr.add; by_cases hj : j = 0 <;> simp [hj]
  rw [e]
  unfold World.cell?
  rw [hn]
  simpa using h

theorem grownBy_of_alloc {W w' : World} {o : Obj} {row : Option Nat} (h : (W.alloc o).grownBy w' row) : W.grownBy w' row :=
  ⟨h.os, h.tape, h.output, by have := h.size; simp at this; omega, fun k hk hne => by
    rw [h.block k (by simp; omega) hne]
    exact (World.grownBy_alloc W o none).block k hk (by simp)⟩

def OwnU8 (W : World) (base : Nat) (v : Value) (xs : List UInt8) : Prop := W.ownsRow base 5 1 v xs.length (xs.map bv)
theorem OwnU8.alloc {W : World} {base : Nat} {v : Value} {xs : List UInt8} (h : OwnU8 W base v xs) (o : Obj) : OwnU8 (W.alloc o) base v xs := World.ownsRow.alloc h o
theorem OwnU8.nil (W : World) (base : Nat) : OwnU8 W base (.slice none 0 0) [] := World.ownsRow_nil _ _ _ _
theorem OwnU8.base_le {W : World} {base : Nat} {v : Value} {xs : List UInt8} (h : OwnU8 W base v xs) : ∀ k, v.ownBlock = some k → base ≤ k := by
  intro k hk
  rcases h.2 with ⟨rfl, _⟩ | ⟨g, cap, cur, rfl, hb, _⟩
  · simp [Value.ownBlock] at hk
  · obtain rfl : g = k := by simpa [Value.ownBlock] using hk
    exact hb
theorem OwnU8.shape {W : World} {base : Nat} {v : Value} {xs : List UInt8} (h : OwnU8 W base v xs) : ∃ a n c, v = .slice a n c := by
  rcases h.2 with ⟨rfl, _⟩ | ⟨g, cap, cur, rfl, _⟩ <;> exact ⟨_, _, _, rfl⟩
def KeepB (b : Nat) (W W' : World) : Prop := W'.heap[b]? = W.heap[b]?
theorem KeepB.refl (b : Nat) (W : World) : KeepB b W W := rfl
theorem KeepB.trans {b : Nat} {A B C : World} (h : KeepB b A B) (h' : KeepB b B C) : KeepB b A C := Eq.trans h' h
theorem KeepB.cell {b : Nat} {A B : World} (h : KeepB b A B) {o : Nat} : B.cell? ⟨b, o, none⟩ = A.cell? ⟨b, o, none⟩ := World.cell?_of_block (a := ⟨b, o, none⟩) h
theorem KeepB.setCell {b c : Nat} (W : World) (v : Value) (hne : b ≠ c) : KeepB b W (W.setCell ⟨c, 0, none⟩ v) := by
  by_cases hb : b < W.heap.size
  · exact (grownBy_setCell' W c v).block b hb (by simpa using hne)
  · unfold KeepB
    have h1 : W.heap[b]? = none := Array.getElem?_eq_none (by omega)
    have h2 : (W.setCell ⟨c, 0, none⟩ v).heap.size = W.heap.size := by simp
    rw [h1, Array.getElem?_eq_none (by omega)]
theorem KeepB.alloc {b : Nat} (W : World) (o : Obj) (hb : b < W.heap.size) : KeepB b W (W.alloc o) := (World.grownBy_alloc W o none).block b hb (by simp)
theorem keepB_b {b : Nat} {w : World} (hb : b < w.heap.size) : ∀ (W : World) (l : Nat) (o o' : Obj), w.heap.size ≤ l → W.heap[l]? = some o → o.isCells = false → o.isWalk = false → KeepB b W (W.putObj l o') := fun _ _ _ _ h1 _ _ _ =>
  World.putObj_heap_other (by omega)

def OutBox (B base : Nat) (xs : List UInt8) (W : World) : Prop := ∃ v, Boxed W B 99 v ∧ OwnU8 W base v xs
theorem OutBox.alloc {B base : Nat} {xs : List UInt8} {W : World} (h : OutBox B base xs W) (o : Obj) : OutBox B base xs (W.alloc o) := by
  obtain ⟨v, h1, h2⟩ := h; exact ⟨v, h1.alloc o, h2.alloc o⟩

theorem OwnU8.string {W : World} {base : Nat} {v : Value} {xs : List UInt8} (h : OwnU8 W base v xs) : (convert 99 9 v).run Tryz.prog W = .ok (.string ⟨xs.toArray⟩) W := by
  obtain ⟨h1, h2⟩ := h
  rcases h2 with ⟨rfl, hz⟩ | ⟨g, cap, cur, rfl, hb, hg, hc, hm, hsz, htk⟩
  · have : xs = [] := by simpa using hz
    subst this
    exact Lib.run_convert_nil_bytes W _ _ _ 0 Tryz.underlying99 Tryz.underlying5 Tryz.underlying9
  · refine run_convert_bytes_back W _ _ _ _ cap xs Tryz.underlying99 Tryz.underlying5 Tryz.underlying9 (Lib.bytes_of_row hg ?_)
    rw [Nat.mul_one] at htk
    rw [htk]; simp [Lib.byteCells, bv]

end Go.Proofs.YtckammgnmgkieaaGreat

/-
  A region that draws its order, walked order by order: each order is a list of operations, and a walk of each list serves. Inside a fence and in the open.
-/
namespace Go.Proofs.YtckammgnmgkieaaGreat
set_option maxRecDepth 20000
open Go.RowKit Go.Shelf

def AllOrd (f : List Nat → Prop) : List (List Nat) → Prop
  | [] => True
  | L :: r => f L ∧ AllOrd f r
theorem AllOrd.mem {f : List Nat → Prop} : ∀ {l : List (List Nat)}, AllOrd f l → ∀ L ∈ l, f L
  | [], _, _, h => by cases h
  | _ :: _, h, L, hL => by
    rcases List.mem_cons.1 hL with rfl | hL
    · exact h.1
    · exact AllOrd.mem h.2 L hL

theorem follows_mixed : Tryz.prog.follows .mixedOrders = true := by kernel_rfl

end Go.Proofs.YtckammgnmgkieaaGreat

/-
  Contracts of package label's small functions: Check, digit, small, appendOctet, octets. They only compute, or append to a slice of the caller's own.
-/
namespace Go.Proofs.YtckammgnmgkieaaGreat
set_option maxRecDepth 20000
open Go.RowKit Go.Shelf

def smallU (c : UInt8) : UInt8 := if 65 ≤ c.toNat ∧ c.toNat ≤ 90 then c + 32 else c

theorem smallU_hi (c : UInt8) (h1 : 65 ≤ (c.toNat : Int)) (h2 : (c.toNat : Int) ≤ 90) : (c.toNat : Int) + 97 - 65 = ((smallU c).toNat : Int) := by
  unfold smallU; rw [if_pos ⟨by omega, by omega⟩, UInt8.toNat_add]; simp; omega
theorem smallU_lo (c : UInt8) (h : ¬ (65 ≤ (c.toNat : Int) ∧ (c.toNat : Int) ≤ 90)) : (c.toNat : Int) = ((smallU c).toNat : Int) := by
  unfold smallU; rw [if_neg (by omega)]

set_option maxHeartbeats 400000 in
theorem label_small (c : UInt8) (w : World) :
    Calls Tryz.prog 145 #[.int .u8 (c.toNat : Int)] w fun e w' => e = .returned (.int .u8 ((smallU c).toNat : Int)) ∧ w = w' := by
  have h1 : (c.toNat : Int) ≤ 255 := by have := c.toNat_lt; omega
  by_cases h : (65 : Int) ≤ (c.toNat : Int) ∧ (c.toNat : Int) ≤ 90
  · have ha := smallU_hi c h.1 h.2
    have H := Lib.hid ha; clear ha
    obtain ⟨h2, h3⟩ := h
    go_enter Tryz.func145, Tryz.ntmps145
    go_wp2
    go_ret
    exact ⟨ret_int H.out, rfl⟩
  · have ha := smallU_lo c h
    have H := Lib.hid ha; clear ha
    by_cases h2 : (65 : Int) ≤ (c.toNat : Int)
    all_goals
      go_enter Tryz.func145, Tryz.ntmps145
      go_wp2
      try (exfalso; omega)
      try (go_ret; exact ⟨ret_int H.out, rfl⟩)


section
attribute [local go_sem] Oper.semAt_some

end

end Go.Proofs.YtckammgnmgkieaaGreat

/-
  Contracts of label.Fold, label.Compare, label.Same and of cmp.Compare at bytes and at ints.
-/
namespace Go.Proofs.YtckammgnmgkieaaGreat
set_option maxRecDepth 20000
open Go.RowKit Go.Shelf

def foldL (l : List UInt8) : List UInt8 := l.map smallU
section
attribute [local go_sem] Oper.semAt_some

end

end Go.Proofs.YtckammgnmgkieaaGreat

/-
  Contracts of label.Compare, label.Same and of cmp.Compare at bytes and at ints.
-/
namespace Go.Proofs.YtckammgnmgkieaaGreat
set_option maxRecDepth 20000
open Go.RowKit Go.Shelf

def cmpI (a b : Int) : Int := if a < b then -1 else if b < a then 1 else 0

set_option maxHeartbeats 400000 in
theorem nan_u8 (a : Int) (w : World) : Calls Tryz.prog 201 #[.int .u8 a] w fun e w' => e = .returned (.bool false) ∧ w = w' := by
  go_enter Tryz.func201, Tryz.ntmps201
  go_wp2
  go_ret
  exact ⟨ret_bool (by simp), rfl⟩

set_option maxHeartbeats 400000 in
theorem nan_int (a : Int) (w : World) : Calls Tryz.prog 169 #[.int .i64 a] w fun e w' => e = .returned (.bool false) ∧ w = w' := by
  go_enter Tryz.func169, Tryz.ntmps169
  go_wp2
  go_ret
  exact ⟨ret_bool (by simp), rfl⟩

set_option maxHeartbeats 400000 in
theorem cmp_u8 (a b : Int) (w : World) : Calls Tryz.prog 177 #[.int .u8 a, .int .u8 b] w fun e w' => e = .returned (.int .i64 (cmpI a b)) ∧ w = w' := by
  go_enter Tryz.func177, Tryz.ntmps177
  go_wp2_with (go_at_call 201; refine (nan_u8 _ _).mono ?_; rintro e w' ⟨rfl, rfl⟩)
  all_goals go_ret
  all_goals refine ⟨ret_int ?_, rfl⟩
  · have h : a < b := by assumption
    show -1 = _; rw [cmpI, if_pos h]
  · have h : b ≤ a := by assumption
    have h2 : b < a := by assumption
    show 1 = _; rw [cmpI, if_neg (by omega), if_pos h2]
  · have h : b ≤ a := by assumption
    have h2 : a ≤ b := by assumption
    show 0 = _; rw [cmpI, if_neg (by omega), if_neg (by omega)]

set_option maxHeartbeats 400000 in
theorem cmp_int (a b : Int) (w : World) : Calls Tryz.prog 130 #[.int .i64 a, .int .i64 b] w fun e w' => e = .returned (.int .i64 (cmpI a b)) ∧ w = w' := by
  go_enter Tryz.func130, Tryz.ntmps130
  go_wp2_with (go_at_call 169; refine (nan_int _ _).mono ?_; rintro e w' ⟨rfl, rfl⟩)
  all_goals go_ret
  all_goals refine ⟨ret_int ?_, rfl⟩
  · have h : a < b := by assumption
    show -1 = _; rw [cmpI, if_pos h]
  · have h : b ≤ a := by assumption
    have h2 : b < a := by assumption
    show 1 = _; rw [cmpI, if_neg (by omega), if_pos h2]
  · have h : b ≤ a := by assumption
    have h2 : a ≤ b := by assumption
    show 0 = _; rw [cmpI, if_neg (by omega), if_neg (by omega)]

def compareM : List UInt8 → List UInt8 → Int
  | [], [] => 0
  | [], _ :: _ => -1
  | _ :: _, [] => 1
  | x :: a, y :: b => if smallU x = smallU y then compareM a b else cmpI (smallU x).toNat (smallU y).toNat

theorem compareM_step (a b : ByteArray) (k : Nat) (ha : k < a.size) (hb : k < b.size) :
    compareM (a.data.toList.drop k) (b.data.toList.drop k) = if smallU a[k] = smallU b[k] then compareM (a.data.toList.drop (k + 1)) (b.data.toList.drop (k + 1)) else cmpI (smallU a[k]).toNat (smallU b[k]).toNat := by
  rw [drop_cons_get a k ha, drop_cons_get b k hb]; rfl
theorem compareM_end (a b : ByteArray) (k : Nat) (h : k = a.size ∨ k = b.size) (ha : k ≤ a.size) (hb : k ≤ b.size) :
    compareM (a.data.toList.drop k) (b.data.toList.drop k) = cmpI a.size b.size := by
  unfold cmpI
  rcases Nat.lt_trichotomy a.size b.size with h1 | h1 | h1
  · obtain rfl : k = a.size := by omega
    rw [if_pos (by omega), drop_cons_get b _ h1, List.drop_eq_nil_of_le (by simp)]; rfl
  · obtain rfl : k = a.size := by omega
    rw [if_neg (by omega), if_neg (by omega), List.drop_eq_nil_of_le (by simp), List.drop_eq_nil_of_le (by rw [size_data]; omega)]; rfl
  · obtain rfl : k = b.size := by omega
    rw [if_neg (by omega), if_pos (by omega), drop_cons_get a _ h1, show b.data.toList.drop b.size = [] from List.drop_eq_nil_of_le (by simp)]; rfl
theorem u8_ne {x y : UInt8} (h : (((x.toNat : Int)) != (y.toNat : Int)) = true) : x ≠ y := by
  intro e; subst e; simp at h
theorem u8_eq {x y : UInt8} (h : (((x.toNat : Int)) != (y.toNat : Int)) = false) : x = y := by
  have : (x.toNat : Int) = y.toNat := by simpa using h
  exact UInt8.toNat_inj.1 (by omega)

theorem label_small_q (c : UInt8) (w : World) :
    Calls Tryz.prog 145 #[.int .u8 (c.toNat : Int)] w fun e w' => e = .returned (.int .u8 ((smallU c).toNat : Int)) ∧ w' = w :=
  (label_small c w).mono fun _ _ h => ⟨h.1, h.2.symm⟩

set_option maxHeartbeats 2000000 in
theorem label_Compare (a b : ByteArray) (w : World) (ha : a.size ≤ maxLen) (hb : b.size ≤ maxLen) :
    Calls Tryz.prog 147 #[.string a, .string b] w fun e w' => e = .returned (.int .i64 (compareM a.data.toList b.data.toList)) ∧ ∃ n, w' = w.drewN n := by
  unfold maxLen at ha hb
  by_cases hba : (b.size : Int) < (a.size : Int)
  · go_enter Tryz.func147, Tryz.ntmps147
    go_wp2
    go_loopw [13] (fun i wr => ∃ k : Nat, i = .int .i64 k ∧ k ≤ b.size ∧ Hid (compareM (a.data.toList.drop k) (b.data.toList.drop k) = compareM a.data.toList b.data.toList) ∧ ∃ n, wr = w.drewN n) (fun i _ => b.size - (intOf i).toNat)
    case atStart => exact ⟨0, rfl, Nat.zero_le _, by exact Lib.hid (by simp), 0, rfl⟩
    case round =>
      obtain ⟨k, rfl, hk, HC, n, hw⟩ := hrel
      have HW := Lib.hid hw; clear hw
      by_cases hlt : k < b.size
      · have hstep := compareM_step a b k (by omega) (by omega)
        have HS := Lib.hid hstep; clear hstep
        have hka : k < a.size := by omega
        have hkb : k < b.size := by omega
        by_cases heq : (((smallU a[k]).toNat : Int) != ((smallU b[k]).toNat : Int)) = true
        · have hne := u8_ne heq
          go_wp2
          go_quiet ((go_at_call 145; exact Calls.quiet_of_same (label_small_q _ _)))
          go_wp2_with (go_at_call 177; refine (cmp_u8 _ _ _).mono ?_; rintro e w' ⟨rfl, rfl⟩)
          go_ret
          refine ⟨ret_int ?_, ?_⟩
          · rw [← HC.out, HS.out, if_neg hne]
          · rw [HW.out]; exact ⟨_, World.drewN_drewN _ _ _⟩
        · have heq2 : (((smallU a[k]).toNat : Int) != ((smallU b[k]).toNat : Int)) = false := by simpa using heq
          have he := u8_eq heq2
          clear heq
          go_wp2
          go_quiet ((go_at_call 145; exact Calls.quiet_of_same (label_small_q _ _)))
          go_wp2
          go_roundw
          case rel => exact ⟨k + 1, by go_num, by omega, by exact Lib.hid (by rw [← HC.out, HS.out, if_pos he]), by rw [HW.out]; exact ⟨_, World.drewN_drewN _ _ _⟩⟩
          case measure => simp [intOf]; omega
      · obtain rfl : k = b.size := by omega
        have hend := compareM_end a b b.size (by omega) (by omega) (by omega)
        have HE := Lib.hid hend; clear hend
        go_wp2_with (go_at_call 130; refine (cmp_int _ _ _).mono ?_; rintro e w' ⟨rfl, rfl⟩)
        go_ret
        exact ⟨ret_int (by rw [← HC.out, HE.out]), n, HW.out⟩
  · have hba2 : (a.size : Int) ≤ (b.size : Int) := by omega
    go_enter Tryz.func147, Tryz.ntmps147
    go_wp2
    go_loopw [13] (fun i wr => ∃ k : Nat, i = .int .i64 k ∧ k ≤ a.size ∧ Hid (compareM (a.data.toList.drop k) (b.data.toList.drop k) = compareM a.data.toList b.data.toList) ∧ ∃ n, wr = w.drewN n) (fun i _ => a.size - (intOf i).toNat)
    case atStart => exact ⟨0, rfl, Nat.zero_le _, by exact Lib.hid (by simp), 0, rfl⟩
    case round =>
      obtain ⟨k, rfl, hk, HC, n, hw⟩ := hrel
      have HW := Lib.hid hw; clear hw
      by_cases hlt : k < a.size
      · have hstep := compareM_step a b k (by omega) (by omega)
        have HS := Lib.hid hstep; clear hstep
        have hka : k < a.size := by omega
        have hkb : k < b.size := by omega
        by_cases heq : (((smallU a[k]).toNat : Int) != ((smallU b[k]).toNat : Int)) = true
        · have hne := u8_ne heq
          go_wp2
          go_quiet ((go_at_call 145; exact Calls.quiet_of_same (label_small_q _ _)))
          go_wp2_with (go_at_call 177; refine (cmp_u8 _ _ _).mono ?_; rintro e w' ⟨rfl, rfl⟩)
          go_ret
          refine ⟨ret_int ?_, ?_⟩
          · rw [← HC.out, HS.out, if_neg hne]
          · rw [HW.out]; exact ⟨_, World.drewN_drewN _ _ _⟩
        · have heq2 : (((smallU a[k]).toNat : Int) != ((smallU b[k]).toNat : Int)) = false := by simpa using heq
          have he := u8_eq heq2
          clear heq
          go_wp2
          go_quiet ((go_at_call 145; exact Calls.quiet_of_same (label_small_q _ _)))
          go_wp2
          go_roundw
          case rel => exact ⟨k + 1, by go_num, by omega, by exact Lib.hid (by rw [← HC.out, HS.out, if_pos he]), by rw [HW.out]; exact ⟨_, World.drewN_drewN _ _ _⟩⟩
          case measure => simp [intOf]; omega
      · obtain rfl : k = a.size := by omega
        have hend := compareM_end a b a.size (by omega) (by omega) (by omega)
        have HE := Lib.hid hend; clear hend
        go_wp2_with (go_at_call 130; refine (cmp_int _ _ _).mono ?_; rintro e w' ⟨rfl, rfl⟩)
        go_ret
        exact ⟨ret_int (by rw [← HC.out, HE.out]), n, HW.out⟩

end Go.Proofs.YtckammgnmgkieaaGreat

