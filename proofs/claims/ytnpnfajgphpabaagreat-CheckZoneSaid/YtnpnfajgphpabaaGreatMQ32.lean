import Derived.SliceStrings
import Derived.OpenShut
import Derived.Lib.ConvBytes
import Derived.Lib.IndexBytes
import Derived.Laws.Concat
import Derived.Test.YtnpnfajgphpabaaGreatMQ17
namespace Go.Proofs.YtnpnfajgphpabaaGreat
set_option maxRecDepth 20000
set_option maxHeartbeats 2000000
open Go.RowKit Go.Shelf
def StrsAt (W : World) (v : Value) (xs : List (List UInt8)) : Prop :=
 ∃ a c, v = .slice a xs.length c ∧ (xs = [] ∨ ∃ b off, a = some ⟨b, off, none⟩ ∧ b < W.heap.size ∧ ∀ j (hj : j < xs.length), W.cell? ⟨b, off + j, none⟩ = some (strV xs[j]))
theorem StrsAt.below {W W' : World} {v : Value} {xs : List (List UInt8)} (h : StrsAt W v xs) (hb : Below W.heap.size W W') : StrsAt W' v xs := by
 obtain ⟨a, c, e, h⟩ := h
 refine ⟨a, c, e, ?_⟩
 rcases h with h | ⟨b, off, ea, hlt, hc⟩
 ·exact .inl h
 ·exact .inr ⟨b, off, ea, Nat.lt_of_lt_of_le hlt hb.size, fun j hj => (hb.cell (p := ⟨b, off + j, none⟩) hlt).trans (hc j hj)⟩
theorem StrsAt.of_own {W : World} {base : Nat} {v : Value} {xs : List (List UInt8)} (h : OwnG 9 strV W base v xs) : StrsAt W v xs := by
 obtain ⟨a, c, rfl⟩ := h.shape
 refine ⟨a, c, rfl, ?_⟩
 by_cases hne : xs = []
 ·exact .inl hne
 ·obtain ⟨g, rfl, _, hlt, hc⟩ := h.cells hne
  exact .inr ⟨g, 0, rfl, hlt, fun j hj => by rw [Nat.zero_add]; exact hc j hj⟩
def qlq (W : World) (v : Value) (xs : List (List UInt8)) : Prop := StrsAt W v xs ∧ xs.length ≤ maxLen ∧ ∀ x ∈ xs, x.length ≤ maxLen
theorem qhI {W : World} {x : Addr} {l c : Nat} {zs : List ByteArray} (hl : l ≤ c) (hm : c ≤ maxLen) (hz : zs.length = c)
 (hcell : ∀ i, i < zs.length → W.cell? (x.add i) = some (.string (zs.getD i ByteArray.empty))) (hws : ∀ s ∈ zs, s.size ≤ maxLen) :
 qlq W (.slice (some x) l c) ((zs.take l).map (·.data.toList)) := by
 have hlen : ((zs.take l).map (·.data.toList)).length = l := by simp; omega
 refine ⟨⟨some x, c, by rw [hlen], ?_⟩, by omega, ?_⟩
 ·by_cases h0 : l = 0
  ·subst h0; left; simp
  ·right
   obtain ⟨b, off, spot⟩ := x
   have hspot : spot = none := by simpa [Addr.add] using World.cell?_spot (hcell 0 (by omega))
   subst hspot
   have hb : b < W.heap.size := by
    have h := hcell 0 (by omega)
    simp only [Addr.add, if_true] at h
    unfold World.cell? at h
    rcases Nat.lt_or_ge b W.heap.size with h' | h'
    ·exact h'
    ·rw [Array.getElem?_eq_none h'] at h; simp at h
   refine ⟨b, off, rfl, hb, fun j hj => ?_⟩
   rw [← Go.WideShapes.add_plain, hcell j (by omega)]
   have hj2 : j < zs.length := by omega
   simp [List.getD, hj2, strV]
 ·intro y hy
  obtain ⟨s, hs, rfl⟩ := List.mem_map.1 hy
  exact hws s (List.mem_of_mem_take hs)
theorem qe7 (s : ByteArray) (w : World) (hs : s.size ≤ maxLen) :
 Calls Tryz.prog 72 #[.string s] w fun e w' => e = .returned (.int .i64 (qaS s.data.toList)) ∧ w = w' := by
 unfold maxLen at hs
 go_enter Tryz.func72, Tryz.ntmps72
 go_wp2
 all_goals go_ret
 all_goals refine ⟨qaE ?_, rfl⟩
 ·have := qgr (by assumption); show 8 = _; simp [qaS, this]
 ·have h1 := qdf (by assumption); have h2 : 63 < (s.size : Int) := by assumption
  have h3 : 63 < s.data.toList.length := by rw [show s.data.toList.length = s.size from rfl]; omega
  show 3 = _; rw [qaS, if_neg h1, if_pos h3]
 ·have h1 := qdf (by assumption); have h2 : (s.size : Int) ≤ 63 := by assumption
  have h3 : ¬ 63 < s.data.toList.length := by rw [show s.data.toList.length = s.size from rfl]; omega
  show 0 = _; rw [qaS, if_neg h1, if_neg h3]
def orderM (a b : List UInt8) : Int := if Op.bytesLess a b then -1 else if a = b then 0 else 1
theorem qdH (a b : ByteArray) (w : World) :
 Calls Tryz.prog 112 #[.string a, .string b] w fun e w' => e = .returned (.int .i64 (orderM a.data.toList b.data.toList)) ∧ w = w' := by
 have hA := qaL a
 have hB := qaL b
 have HA := qH0 hA; have HB := qH0 hB; clear hA hB
 by_cases h1 : Op.bytesLess a.toList b.toList = true
 ·have r : orderM a.data.toList b.data.toList = -1 := by unfold orderM; rw [← HA.out, ← HB.out, if_pos h1]
  have R := qH0 r; clear r
  go_enter Tryz.func112, Tryz.ntmps112
  go_wp2
  go_ret
  exact ⟨qaE R.out.symm, rfl⟩
 ·have h1f : Op.bytesLess a.toList b.toList = false := by simpa using h1
  by_cases h2 : (a.toList == b.toList) = true
  ·have r : orderM a.data.toList b.data.toList = 0 := by unfold orderM; rw [← HA.out, ← HB.out, if_neg h1, if_pos (by simpa using h2)]
   have R := qH0 r; clear r h1
   go_enter Tryz.func112, Tryz.ntmps112
   go_wp2
   go_ret
   exact ⟨qaE R.out.symm, rfl⟩
  ·have h2f : (a.toList == b.toList) = false := by simpa using h2
   have r : orderM a.data.toList b.data.toList = 1 := by unfold orderM; rw [← HA.out, ← HB.out, if_neg h1, if_neg (by simpa using h2)]
   have R := qH0 r; clear r h1 h2
   go_enter Tryz.func112, Tryz.ntmps112
   go_wp2
   go_ret
   exact ⟨qaE R.out.symm, rfl⟩
def qdV (s : ByteArray) (g : Nat) (k : Nat) (W : World) : Prop :=
 ∀ j (hj : j < s.size), W.cell? ⟨g, j, none⟩ = some (bv (if j < k then smallU s[j] else s[j])) ∧ W.frozen? ⟨g, j, none⟩ = false
theorem qbw (s : ByteArray) (w : World) (hs : s.size ≤ 35184372088000) :
 Calls Tryz.prog 44 #[.string s] w fun e w' => e = .returned (.string ⟨(foldL s.data.toList).toArray⟩) ∧ Below w.heap.size w w' := by
 have hconv := Lib.run_convert_string_bytes (P := Tryz.prog) w 9 42 5 s Tryz.underlying9 Tryz.underlying42 Tryz.underlying5
 have hold := Lib.bytesWorld_at_old w 5 s
 have hsz := Lib.bytesWorld_size w 5 s
 have hcell := Lib.bytesWorld_cell w 5 s
 have hnew := Lib.bytesWorld_at_new w 5 s
 have hcs : s.size ≤ (Lib.bytesCells w 5 s).size := by unfold Lib.bytesCells; simp
 have hbel : Below w.heap.size w (Lib.bytesWorld w 5 s) := ⟨rfl, rfl, rfl, by rw [hsz]; omega, fun k hk => hold k hk⟩
 have hrow : qdV s w.heap.size 0 (Lib.bytesWorld w 5 s) := by
  intro j hj
  refine ⟨?_, ?_⟩
  ·rw [hcell j hj, if_neg (by omega)]
   have : s.data.toList.getD j 0 = s[j] := by rw [List.getD_eq_getElem?_getD, Lib.data_getElem? s j hj]; rfl
   rw [this]; rfl
  ·unfold World.frozen?
   rw [hnew]
   simp; omega
 generalize Lib.bytesWorld w 5 s = wc at *
 generalize grownCap w s.size 0 5 = cap at *
 clear hold hsz hcell hnew hcs
 go_enter Tryz.func44, Tryz.ntmps44
 go_wp2
 go_loopw [4] (fun i wr => ∃ k : Nat, i = .int .i64 k ∧ k ≤ s.size ∧ qdV s w.heap.size k wr ∧ Below w.heap.size w wr) (fun i _ => s.size - (intOf i).toNat)
 case atStart => exact ⟨0, rfl, Nat.zero_le _, hrow, hbel⟩
 case round =>
  obtain ⟨k, rfl, hk, hr, hb⟩ := hrel
  by_cases hlt : k < s.size
  ·obtain ⟨hck, hfk⟩ := hr k hlt
   rw [if_neg (by omega)] at hck
   unfold bv at hck
   have hc255 : (s[k].toNat : Int) ≤ 255 := by have := s[k].toNat_lt; omega
   by_cases hup : 65 ≤ (s[k].toNat : Int) ∧ (s[k].toNat : Int) ≤ 90
   ·obtain ⟨hu1, hu2⟩ := hup
    have hv : (s[k].toNat : Int) + 32 = ((smallU s[k]).toNat : Int) := by have := qfL s[k] hu1 hu2; omega
    have hnext : qdV s w.heap.size (k + 1) (wr.setCell ⟨w.heap.size, k, none⟩ (.int .u8 ((s[k].toNat : Int) + 32))) := by
     intro j hj
     by_cases hjk : j = k
     ·subst hjk
      refine ⟨?_, ?_⟩
      ·rw [if_pos (by omega), World.cell?_setCell_same' _ _ _ (by rw [hck]; rfl), hv]; rfl
      ·rw [World.frozen?_setCell]; exact hfk
     ·refine ⟨?_, ?_⟩
      ·have hne : (⟨w.heap.size, k, none⟩ : Addr) ≠ ⟨w.heap.size, j, none⟩ := by intro e; injection e with _ e2 _; omega
       rw [World.cell?_setCell_other (h := hne), (hr j hj).1]
       by_cases h1 : j < k
       ·rw [if_pos h1, if_pos (by omega)]
       ·rw [if_neg h1, if_neg (by omega)]
      ·rw [World.frozen?_setCell]; exact (hr j hj).2
    have hb2 : Below w.heap.size w (wr.setCell ⟨w.heap.size, k, none⟩ (.int .u8 ((s[k].toNat : Int) + 32))) := hb.setCell (p := ⟨w.heap.size, k, none⟩) (qN0) _
    clear hv hr hb hrow hbel
    go_wp2
    go_roundw
    case rel => exact ⟨k + 1, by go_num, by omega, hnext, hb2⟩
    case measure => simp [intOf]; omega
   ·have hnext : qdV s w.heap.size (k + 1) wr := by
     intro j hj
     refine ⟨?_, (hr j hj).2⟩
     rw [(hr j hj).1]
     by_cases h1 : j < k
     ·rw [if_pos h1, if_pos (by omega)]
     ·rw [if_neg h1]
      by_cases h2 : j = k
      ·subst h2
       rw [if_pos (by omega)]
       have : smallU s[j] = s[j] := by unfold smallU; rw [if_neg (by omega)]
       rw [this]
      ·rw [if_neg (by omega)]
    clear hr hrow hbel
    by_cases hu1 : 65 ≤ (s[k].toNat : Int)
    all_goals
     go_wp2
     try (exfalso; omega)
     try (go_roundw
          case rel => exact ⟨k + 1, by go_num, by omega, hnext, hb⟩
          case measure => simp [intOf]; omega)
  ·obtain rfl : k = s.size := by omega
   have hback : (convert 42 9 (.slice (some ⟨w.heap.size, 0, none⟩) s.size cap)).run Tryz.prog wr = .ok (.string ⟨(foldL s.data.toList).toArray⟩) wr := by
    have h := run_convert_bytes_back wr 42 9 5 ⟨w.heap.size, 0, none⟩ cap (foldL s.data.toList) Tryz.underlying42 Tryz.underlying5 Tryz.underlying9 (fun j hj => by
     have hj2 : j < s.size := by simpa [foldL] using hj
     have e : ((⟨w.heap.size, 0, none⟩ : Addr).add j) = ⟨w.heap.size, j, none⟩ := by unfold Addr.add; by_cases hj : j = 0 <;> simp [hj]
     rw [e, (hr j hj2).1, if_pos hj2]
     have : (foldL s.data.toList)[j] = smallU s[j] := by simp [foldL]; rfl
     rw [this]; rfl)
    have hl : (foldL s.data.toList).length = s.size := by simp [foldL]
    rw [hl] at h; exact h
   clear hr hrow hbel
   go_wp2
   go_ret
   exact ⟨rfl, hb⟩
theorem qfs (x y : UInt8) (a b : List UInt8) : Op.bytesLess (x :: a) (y :: b) = (decide (x < y) || (x == y && Op.bytesLess a b)) := rfl
theorem qdm : ∀ (a b : List UInt8), orderM (foldL a) (foldL b) = qac a b
 | [], [] => rfl
 | [], _ :: _ => rfl
 | _ :: _, [] => rfl
 | x :: a, y :: b => by
  have ih := qdm a b
  unfold orderM at ih ⊢
  simp only [foldL, List.map_cons, qfs] at ih ⊢
  by_cases h : smallU x = smallU y
  ·have h1 : ¬ smallU x < smallU y := by rw [h]; exact UInt8.lt_irrefl _
   simp only [qac, h, if_true]
   rw [← ih]
   simp only [UInt8.lt_irrefl, decide_false, Bool.false_or, beq_self_eq_true, Bool.true_and, List.cons.injEq, true_and]
   congr
  ·simp only [qac, h, if_false, List.cons.injEq, false_and]
   unfold cmpI
   have hn : (smallU x).toNat ≠ (smallU y).toNat := fun e => h (UInt8.toNat_inj.1 e)
   by_cases hlt : smallU x < smallU y
   ·have : ((smallU x).toNat : Int) < (smallU y).toNat := by rw [UInt8.lt_iff_toNat_lt] at hlt; omega
    simp [hlt, this]
   ·have h2 : ¬ ((smallU x).toNat : Int) < (smallU y).toNat := by rw [UInt8.lt_iff_toNat_lt] at hlt; omega
    have h3 : ((smallU y).toNat : Int) < (smallU x).toNat := by omega
    have h4 : (smallU x == smallU y) = false := by simpa using h
    simp [hlt, h2, h3, h4]
theorem qeh (a b : ByteArray) (w : World) (ha : a.size ≤ 35184372088000) (hb : b.size ≤ 35184372088000) :
 Calls Tryz.prog 109 #[.string a, .string b] w fun e w' => e = .returned (.int .i64 (qac a.data.toList b.data.toList)) ∧ Below w.heap.size w w' := by
 have r : orderM (foldL a.data.toList) (foldL b.data.toList) = qac a.data.toList b.data.toList := qdm _ _
 have R := qH0 r; clear r
 have hA := fun W => qbw a W ha
 have hB := fun W => qbw b W hb
 go_enter Tryz.func109, Tryz.ntmps109
 go_wp2_with fail
 refine (hA _).mono ?_
 rintro e w1 ⟨rfl, b1⟩
 go_wp2_with fail
 refine (hB _).mono ?_
 rintro e w2 ⟨rfl, b2⟩
 go_wp2_with fail
 refine (qdH _ _ _).mono ?_
 rintro e w3 ⟨rfl, rfl⟩
 go_wp2_with fail
 go_ret
 exact ⟨qaE R.out, qB0 b1 b2⟩
theorem qhp (c : UInt8) : smallU (smallU c) = smallU c := by
 unfold smallU
 by_cases h : 65 ≤ c.toNat ∧ c.toNat ≤ 90
 ·rw [if_pos h, if_neg]
  rw [UInt8.toNat_add]; simp; omega
 ·rw [if_neg h, if_neg h]
theorem qaA (a b : Int) : (cmpI a b = -1 ∧ a < b) ∨ (cmpI a b = 0 ∧ a = b) ∨ (cmpI a b = 1 ∧ b < a) := by
 unfold cmpI
 by_cases h : a < b
 ·left; rw [if_pos h]; exact ⟨rfl, h⟩
 ·by_cases h2 : b < a
  ·right; right; rw [if_neg h, if_pos h2]; exact ⟨rfl, h2⟩
  ·right; left; rw [if_neg h, if_neg h2]; exact ⟨rfl, by omega⟩
theorem qbp : ∀ a b : List UInt8, qac a b = -1 ∨ qac a b = 0 ∨ qac a b = 1
 | [], [] => by simp [qac]
 | [], _ :: _ => by simp [qac]
 | _ :: _, [] => by simp [qac]
 | x :: a, y :: b => by
  by_cases h : smallU x = smallU y
  ·simp only [qac, h, if_true]; exact qbp a b
  ·simp only [qac, h, if_false]; have := qaA (smallU x).toNat (smallU y).toNat; omega
theorem qa0 : ∀ a b : List UInt8, qac b a = - qac a b
 | [], [] => by simp [qac]
 | [], _ :: _ => by simp [qac]
 | _ :: _, [] => by simp [qac]
 | x :: a, y :: b => by
  by_cases h : smallU x = smallU y
  ·simp only [qac, h, if_true]; exact qa0 a b
  ·simp only [qac, h, if_false, Ne.symm h]
   have h1 := qaA (smallU x).toNat (smallU y).toNat
   have h2 := qaA (smallU y).toNat (smallU x).toNat
   omega
theorem qbf : ∀ a b : List UInt8, qac a b = 0 ↔ foldL a = foldL b
 | [], [] => by simp [qac, foldL]
 | [], _ :: _ => by simp [qac, foldL]
 | _ :: _, [] => by simp [qac, foldL]
 | x :: a, y :: b => by
  have ih := qbf a b
  by_cases h : smallU x = smallU y
  ·simp only [qac, h, if_true, ih, foldL, List.map_cons, List.cons.injEq, true_and]
  ·have hn : (smallU x).toNat ≠ (smallU y).toNat := fun e => h (UInt8.toNat_inj.1 e)
   have h1 := qaA (smallU x).toNat (smallU y).toNat
   simp only [qac, h, if_false, foldL, List.map_cons, List.cons.injEq, false_and, iff_false]
   omega
theorem qbQ : ∀ a b : List UInt8, qac (foldL a) b = qac a b
 | [], [] => rfl
 | [], _ :: _ => rfl
 | _ :: _, [] => rfl
 | x :: a, y :: b => by
  have ih := qbQ a b
  simp only [foldL, List.map_cons, qac, qhp] at ih ⊢
  rw [ih]
theorem qcP : ∀ a b c : List UInt8, qac a b ≤ 0 → qac b c ≤ 0 → qac a c ≤ 0
 | [], _, [] => by simp [qac]
 | [], _, _ :: _ => by simp [qac]
 | _ :: _, [], _ => by simp [qac]
 | _ :: _, _ :: _, [] => by intro _ h; simp [qac] at h
 | x :: a, y :: b, z :: c => by
  intro h1 h2
  have c1 := qaA (smallU x).toNat (smallU y).toNat
  have c2 := qaA (smallU y).toNat (smallU z).toNat
  have c3 := qaA (smallU x).toNat (smallU z).toNat
  simp only [qac] at h1 h2 ⊢
  by_cases e1 : smallU x = smallU y
  ·rw [if_pos e1] at h1
   by_cases e2 : smallU y = smallU z
   ·rw [if_pos e2] at h2
    rw [if_pos (e1.trans e2)]
    exact qcP a b c h1 h2
   ·rw [if_neg e2] at h2
    rw [if_neg (by rw [e1]; exact e2), e1]; exact h2
  ·rw [if_neg e1] at h1
   have n1 : (smallU x).toNat ≠ (smallU y).toNat := fun e => e1 (UInt8.toNat_inj.1 e)
   by_cases e2 : smallU y = smallU z
   ·rw [if_neg (by rw [← e2]; exact e1), ← e2]; exact h1
   ·rw [if_neg e2] at h2
    have n2 : (smallU y).toNat ≠ (smallU z).toNat := fun e => e2 (UInt8.toNat_inj.1 e)
    by_cases e3 : smallU x = smallU z
    ·rw [e3] at n1 c1 h1; omega
    ·rw [if_neg e3]; omega
theorem qj9 (a b : List UInt8) : sameM a b = decide (qac a b = 0) := by
 unfold sameM; congr 1; apply propext
 constructor
 ·exact fun h => h.2
 ·intro h
  have := congrArg List.length ((qbf a b).1 h)
  simp only [foldL, List.length_map] at this
  exact ⟨this, h⟩
theorem str_of (l : List UInt8) : ∃ s : ByteArray, s.data.toList = l ∧ s.size = l.length ∧ strV l = .string s := ⟨⟨l.toArray⟩, by simp, by show l.toArray.size = _; simp, rfl⟩
abbrev Nm := List (List UInt8)
def lenN (n : Nm) : Nat := 1 + (n.map fun x => 1 + x.length).sum
def checkL : Nm → Int
 | [] => 0
 | x :: r => if qaS x = 0 then checkL r else qaS x
def checkN (n : Nm) : Int := if checkL n = 0 then (if 255 < lenN n then 3 else 0) else checkL n
def foldN (n : Nm) : Nm := n.map foldL
def sameN (a b : Nm) : Bool := decide (foldN a = foldN b)
def underN (n z : Nm) : Bool := decide (z.length ≤ n.length) && sameN (n.drop (n.length - z.length)) z
def cmpR : Nm → Nm → Int
 | [], [] => 0
 | [], _ :: _ => -1
 | _ :: _, [] => 1
 | x :: r, y :: t => if qac x y = 0 then cmpR r t else qac x y
def qai (a b : Nm) : Int := cmpR a.reverse b.reverse
def wildN (n : Nm) : Bool := decide (n.head? = some [42])
theorem qfE (n : Nm) (x : List UInt8) : lenN (n ++ [x]) = lenN n + 1 + x.length := by simp [lenN]; omega
theorem qdl (a b : Nm) : checkL (a ++ b) = if checkL a = 0 then checkL b else checkL a := by
 induction a with
 | nil => simp [checkL]
 | cons x a ih =>
  simp only [List.cons_append, checkL]
  split
  ·exact ih
  ·rfl
theorem qhj (a : Nm) (x : List UInt8) : checkL (a ++ [x]) = if checkL a = 0 then qaS x else checkL a := by
 rw [qdl]; simp only [checkL]
 split
 ·split
  ·rename_i h; exact h.symm
  ·rfl
 ·rfl
theorem qhn {a p : Nm} (h : p <+: a) (hp : checkL p ≠ 0) : checkL a = checkL p := by
 obtain ⟨t, rfl⟩ := h; rw [qdl, if_neg hp]
theorem qfb {a p : Nm} (h : p <+: a) (hp : checkL p ≠ 0) : checkN a = checkL p := by
 unfold checkN; rw [qhn h hp, if_neg hp]
theorem qfW (n : Nm) : (foldN n).length = n.length := by simp [foldN]
theorem qap (a b : Nm) : sameN a b = true ↔ foldN a = foldN b := by simp [sameN]
theorem qfS (a b : List UInt8) : sameM a b = true ↔ foldL a = foldL b := by
 rw [qj9, decide_eq_true_iff]; exact qbf a b
theorem qfY {a b : Nm} (h : a.length ≠ b.length) : sameN a b = false := by
 unfold sameN; apply decide_eq_false; intro e; have := congrArg List.length e; simp [foldN] at this; exact h this
theorem qdC {a b : Nm} (h : a.length = b.length) (hs : ∀ j (h1 : j < a.length) (h2 : j < b.length), sameM a[j] b[j] = true) : sameN a b = true := by
 rw [qap]
 apply List.ext_getElem (by simp [foldN, h])
 intro j h1 h2
 simp only [foldN, List.getElem_map]
 exact (qfS _ _).1 (hs j (by simpa [foldN] using h1) (by simpa [foldN] using h2))
theorem qdj {a b : Nm} (j : Nat) (h1 : j < a.length) (h2 : j < b.length) (hs : sameM a[j] b[j] = false) : sameN a b = false := by
 cases h : sameN a b with
 | false => rfl
 | true =>
  rw [qap] at h
  have : foldL a[j] = foldL b[j] := by
   have h3 : (foldN a)[j]'(by simp [foldN, h1]) = (foldN b)[j]'(by simp [foldN, h2]) := by simp only [h]
   simpa [foldN] using h3
  rw [(qfS _ _).2 this] at hs; cases hs
theorem qc0 (a : Nm) : sameN a a = true := (qap _ _).2 rfl
theorem qaR (a b : Nm) : sameN a b = sameN b a := by unfold sameN; exact decide_eq_decide.2 ⟨Eq.symm, Eq.symm⟩
theorem qa6 {a b c : Nm} (h1 : sameN a b = true) (h2 : sameN b c = true) : sameN a c = true := (qap _ _).2 (((qap _ _).1 h1).trans ((qap _ _).1 h2))
theorem qe1 : ∀ a b : Nm, cmpR a b = -1 ∨ cmpR a b = 0 ∨ cmpR a b = 1
 | [], [] => .inr (.inl rfl)
 | [], _ :: _ => .inl rfl
 | _ :: _, [] => .inr (.inr rfl)
 | x :: r, y :: t => by
  simp only [cmpR]; split
  ·exact qe1 r t
  ·exact qbp x y
theorem qfG : ∀ a b : Nm, cmpR b a = - cmpR a b
 | [], [] => rfl
 | [], _ :: _ => rfl
 | _ :: _, [] => rfl
 | x :: r, y :: t => by
  simp only [cmpR]
  have h := qa0 x y
  by_cases e : qac x y = 0
  ·rw [if_pos e, if_pos (by omega)]; exact qfG r t
  ·rw [if_neg e, if_neg (by omega)]; exact h
theorem qfZ : ∀ a b : Nm, cmpR a b = 0 ↔ foldN a = foldN b
 | [], [] => by simp [cmpR, foldN]
 | [], _ :: _ => by simp [cmpR, foldN]
 | _ :: _, [] => by simp [cmpR, foldN]
 | x :: r, y :: t => by
  have ih := qfZ r t
  have h := qbf x y
  simp only [cmpR, foldN, List.map_cons, List.cons.injEq] at ih ⊢
  by_cases e : qac x y = 0
  ·rw [if_pos e, ih]; exact ⟨fun q => ⟨h.1 e, q⟩, fun q => q.2⟩
  ·rw [if_neg e]; exact ⟨fun q => absurd q e, fun q => absurd (h.2 q.1) e⟩
theorem qbl {x y z : List UInt8} (h : qac x y = 0) : qac y z = qac x z := by
 have e := (qbf x y).1 h
 rw [← qbQ x z, ← qbQ y z, e]
theorem qex : ∀ a b c : Nm, cmpR a b ≤ 0 → cmpR b c ≤ 0 → cmpR a c ≤ 0
 | [], _, [] => by intro _ _; simp [cmpR]
 | [], _, _ :: _ => by intro _ _; simp [cmpR]
 | _ :: _, [], _ => by intro h _; simp [cmpR] at h
 | _ :: _, _ :: _, [] => by intro _ h; simp [cmpR] at h
 | x :: r, y :: t, z :: u => by
  have ih := qex r t u
  simp only [cmpR]
  intro h1 h2
  by_cases e1 : qac x y = 0
  ·rw [if_pos e1] at h1
   rw [← qbl (z := z) e1]
   by_cases e2 : qac y z = 0
   ·rw [if_pos e2] at h2 ⊢; exact ih h1 h2
   ·rw [if_neg e2] at h2 ⊢; exact h2
  ·rw [if_neg e1] at h1
   by_cases e2 : qac y z = 0
   ·have e3 : qac x z = qac x y := by
     have s1 := qa0 x z; have s2 := qa0 x y
     have := qbl (x := y) (y := z) (z := x) e2
     omega
    rw [e3, if_neg e1]; exact h1
   ·rw [if_neg e2] at h2
    have h3 := qcP x y z h1 h2
    by_cases e3 : qac x z = 0
    ·exfalso
     have s1 := qa0 x y
     have := qbl (x := x) (y := z) (z := y) e3
     have s2 := qa0 y z
     have r1 := qbp x y; have r2 := qbp y z
     omega
    ·rw [if_neg e3]; exact h3
theorem qc9 (a : Nm) : foldN a.reverse = (foldN a).reverse := by simp [foldN]
theorem qbA (a b : Nm) : qai a b = 0 ↔ sameN a b = true := by
 unfold qai; rw [qfZ, qc9, qc9, qap]
 exact ⟨fun h => List.reverse_inj.1 h, fun h => by rw [h]⟩
theorem qgc (a b : Nm) : qai b a = - qai a b := qfG _ _
theorem qcN (a b : Nm) : qai a b = -1 ∨ qai a b = 0 ∨ qai a b = 1 := qe1 _ _
theorem qfn (a b c : Nm) (h1 : qai a b ≤ 0) (h2 : qai b c ≤ 0) : qai a c ≤ 0 := qex _ _ _ h1 h2
theorem qa2 (n z : Nm) : underN n z = true ↔ ∃ p, foldN n = p ++ foldN z := by
 unfold underN
 simp only [Bool.and_eq_true, decide_eq_true_eq, qap]
 constructor
 ·rintro ⟨h, e⟩
  refine ⟨(foldN n).take (n.length - z.length), ?_⟩
  rw [← e]; simp [foldN, List.map_drop]
 ·rintro ⟨p, e⟩
  have hl : n.length = p.length + z.length := by have := congrArg List.length e; simpa [foldN] using this
  refine ⟨by omega, ?_⟩
  have : foldN (n.drop (n.length - z.length)) = (foldN n).drop (n.length - z.length) := by simp [foldN, List.map_drop]
  rw [this, e, show n.length - z.length = p.length by omega, List.drop_left]
theorem qgm {a b c : Nm} (h1 : underN a b = true) (h2 : underN b c = true) : underN a c = true := by
 rw [qa2] at *
 obtain ⟨p, e1⟩ := h1; obtain ⟨q, e2⟩ := h2
 exact ⟨p ++ q, by rw [e1, e2, List.append_assoc]⟩
theorem qeu {a b : Nm} (h : underN a b = true) : b.length ≤ a.length := by
 obtain ⟨p, e⟩ := (qa2 _ _).1 h
 have := congrArg List.length e; simp [foldN] at this; omega
end Go.Proofs.YtnpnfajgphpabaaGreat
