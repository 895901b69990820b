import Derived.Lib.AppendStr
import Derived.BigQuiet
import Derived.Deep.RegionHeld3
import Derived.Test.YtnpnfajgphpabaaGreatMQ40
import Derived.Test.YtnpnfajgphpabaaGreatMQ14
namespace Go.Proofs.YtnpnfajgphpabaaGreat
set_option maxRecDepth 20000
open Go.RowKit Go.Shelf
def SlAt (W : World) (v : Value) (xs : List Value) : Prop :=
 ∃ a c, v = .slice a xs.length c ∧ xs.length ≤ c ∧ (a = none → c = 0) ∧ (xs = [] ∨ ∃ b off, a = some ⟨b, off, none⟩ ∧ b < W.heap.size ∧ ∀ j (hj : j < xs.length), W.cell? ⟨b, off + j, none⟩ = some xs[j])
theorem SlAt.below {W W' : World} {v : Value} {xs : List Value} (h : SlAt W v xs) (hb : Below W.heap.size W W') : SlAt W' v xs := by
 obtain ⟨a, c, e, h1, h2, h⟩ := h
 refine ⟨a, c, e, h1, h2, ?_⟩
 rcases h with h | ⟨b, off, ea, hlt, hc⟩
 ·exact .inl h
 ·exact .inr ⟨b, off, ea, Nat.lt_of_lt_of_le hlt hb.size, fun j hj => (hb.cell (p := ⟨b, off + j, none⟩) hlt).trans (hc j hj)⟩
theorem SlAt.nil (W : World) : SlAt W (.slice none 0 0) [] := ⟨none, 0, rfl, qN0, fun _ => rfl, .inl rfl⟩
theorem SlAt.ok {W : World} {v : Value} {xs : List Value} (h : SlAt W v xs) : SlOK v := by
 obtain ⟨a, c, rfl, h1, h2, _⟩ := h
 exact ⟨_, _, _, rfl, h1, h2⟩
theorem SlAt.of_own {α : Type} {T : TypeId} {enc : α → Value} {W : World} {base : Nat} {v : Value} {xs : List α} (h : OwnG T enc W base v xs) : SlAt W v (xs.map enc) := by
 have h0 := h
 rcases h.2 with ⟨rfl, h1⟩ | ⟨g, cap, cur, rfl, hb, hg, hc, hm, hsz, htk⟩
 ·obtain rfl := List.eq_nil_of_length_eq_zero h1
  exact SlAt.nil W
 ·refine ⟨_, _, by rw [List.length_map], by rw [List.length_map]; exact hc, (fun e => by cases e), ?_⟩
  by_cases hne : xs = []
  ·subst hne; exact .inl rfl
  ·obtain ⟨g', eg, _, hlt, hcl⟩ := h0.cells hne
   cases eg
   refine .inr ⟨g, 0, rfl, hlt, fun j hj => ?_⟩
   rw [Nat.zero_add, hcl j (by simpa using hj), List.getElem_map]
theorem nmAt_sl {W : World} {v : Value} {xs : Nm} : NmAt W v xs ↔ SlAt W v (xs.map strV) := by
 constructor
 ·rintro ⟨⟨a, c, rfl, h⟩, ⟨a', n', c', e, h1, h2⟩⟩
  cases e
  refine ⟨a, c, by rw [List.length_map], by rw [List.length_map]; exact h1, h2, ?_⟩
  rcases h with rfl | ⟨b, off, ea, hlt, hc⟩
  ·exact .inl rfl
  ·exact .inr ⟨b, off, ea, hlt, fun j hj => by rw [List.getElem_map]; exact hc j (by simpa using hj)⟩
 ·rintro ⟨a, c, e, h1, h2, h⟩
  rw [List.length_map] at e h1
  subst e
  refine ⟨⟨a, c, rfl, ?_⟩, ⟨_, _, _, rfl, h1, h2⟩⟩
  rcases h with h | ⟨b, off, ea, hlt, hc⟩
  ·exact .inl (by simpa using h)
  ·refine .inr ⟨b, off, ea, hlt, fun j hj => ?_⟩
   rw [hc j (by simpa using hj), List.getElem_map]
def NmsAt (W : World) (v : Value) (ns : List Nm) : Prop := ∃ vs : List Value, SlAt W v vs ∧ ∃ h : vs.length = ns.length, ∀ j (hj : j < vs.length), NmAt W vs[j] (ns[j]'(by omega))
theorem NmsAt.below {W W' : World} {v : Value} {ns : List Nm} (h : NmsAt W v ns) (hb : Below W.heap.size W W') : NmsAt W' v ns := by
 obtain ⟨vs, h1, h2, h3⟩ := h
 exact ⟨vs, h1.below hb, h2, fun j hj => (h3 j hj).below hb⟩
theorem NmsAt.nil (W : World) : NmsAt W (.slice none 0 0) [] := ⟨[], SlAt.nil W, rfl, fun _ hj => absurd hj (Nat.not_lt_zero _)⟩
def u32V (n : Nat) : Value := .int .u32 (n : Int)
structure Dat where
 ty : Int
 names : List Nm
 nums : List Nat
 texts : Nm
 raw : List UInt8
def DatAt (W : World) (v : Value) (d : Dat) : Prop :=
 ∃ vn vu vt vr, v = .agg #[.int .i64 d.ty, vn, vu, vt, vr] ∧ NmsAt W vn d.names ∧ SlAt W vu (d.nums.map u32V) ∧ NmAt W vt d.texts ∧ SlAt W vr (d.raw.map bv)
theorem DatAt.below {W W' : World} {v : Value} {d : Dat} (h : DatAt W v d) (hb : Below W.heap.size W W') : DatAt W' v d := by
 obtain ⟨vn, vu, vt, vr, e, h1, h2, h3, h4⟩ := h
 exact ⟨vn, vu, vt, vr, e, h1.below hb, h2.below hb, h3.below hb, h4.below hb⟩
def Dat.none : Dat := ⟨0, [], [], [], []⟩
def DatOK (d : Dat) : Prop := (-(2 ^ 63) ≤ d.ty ∧ d.ty < 2 ^ 63) ∧ d.names.length ≤ 1048576 ∧ (∀ n ∈ d.names, NmOK n) ∧ d.nums.length ≤ 1048576 ∧ (∀ n ∈ d.nums, n < 2 ^ 32) ∧ NmOK d.texts ∧ d.raw.length ≤ 1048576
end Go.Proofs.YtnpnfajgphpabaaGreat
namespace Go.Proofs.YtnpnfajgphpabaaGreat
set_option maxRecDepth 20000
open Go.RowKit Go.Shelf
def cmpL {α : Type} (f : α → α → Int) : List α → List α → Int
 | [], [] => 0
 | [], _ :: _ => -1
 | _ :: _, [] => 1
 | x :: r, y :: t => if f x y = 0 then cmpL f r t else f x y
def orI (a b : Int) : Int := if a = 0 then b else a
def cmpU (a b : Nat) : Int := cmpI a b
def cmpB (a b : UInt8) : Int := cmpI a.toNat b.toNat
def qas (a b : Dat) : Int :=
 orI (cmpI a.ty b.ty) (orI (cmpL qai a.names b.names) (orI (cmpL cmpU a.nums b.nums) (orI (cmpL orderM a.texts b.texts) (cmpL cmpB a.raw b.raw))))
section
variable {α : Type} {f : α → α → Int}
theorem qb6 {a b : List α} (k : Nat) (h1 : k < a.length) (h2 : k < b.length) :
 cmpL f (a.drop k) (b.drop k) = if f a[k] b[k] = 0 then cmpL f (a.drop (k + 1)) (b.drop (k + 1)) else f a[k] b[k] := by
 rw [List.drop_eq_getElem_cons h1, List.drop_eq_getElem_cons h2]
 rfl
theorem qkM (b : List α) : cmpL f [] b = cmpI 0 b.length := by
 cases b with
 | nil => rfl
 | cons x r => simp [cmpL, cmpI]
theorem qi9 (a : List α) : cmpL f a [] = cmpI a.length 0 := by
 cases a with
 | nil => rfl
 | cons x r => simp [cmpL, cmpI]; omega
theorem qgt (a b k : Int) : cmpI (a - k) (b - k) = cmpI a b := by
 unfold cmpI
 by_cases h : a < b
 ·rw [if_pos h, if_pos (by omega)]
 ·rw [if_neg h, if_neg (by omega)]
  by_cases h2 : b < a
  ·rw [if_pos h2, if_pos (by omega)]
  ·rw [if_neg h2, if_neg (by omega)]
theorem qbn {a b : List α} (k : Nat) (h1 : k ≤ a.length) (h2 : k ≤ b.length) (h : k = a.length ∨ k = b.length) : cmpL f (a.drop k) (b.drop k) = cmpI a.length b.length := by
 rcases h with h | h
 ·rw [List.drop_of_length_le (by omega), qkM, List.length_drop, ← qgt a.length b.length k]
  congr 1 <;> omega
 ·rw [List.drop_of_length_le (l := b) (by omega), qi9, List.length_drop, ← qgt a.length b.length k]
  congr 1 <;> omega
theorem qfV (hf : ∀ x y, f y x = - f x y) : ∀ a b : List α, cmpL f b a = - cmpL f a b
 | [], [] => rfl
 | [], _ :: _ => rfl
 | _ :: _, [] => rfl
 | x :: r, y :: t => by
  simp only [cmpL, hf x y, qfV hf r t]
  by_cases h : f x y = 0
  ·rw [if_pos h, if_pos (by omega)]
  ·rw [if_neg h, if_neg (by omega)]
theorem qbu (hf : ∀ x y, f x y = -1 ∨ f x y = 0 ∨ f x y = 1) : ∀ a b : List α, cmpL f a b = -1 ∨ cmpL f a b = 0 ∨ cmpL f a b = 1
 | [], [] => .inr (.inl rfl)
 | [], _ :: _ => .inl rfl
 | _ :: _, [] => .inr (.inr rfl)
 | x :: r, y :: t => by
  simp only [cmpL]
  split
  ·exact qbu hf r t
  ·exact hf x y
end
theorem qjr (a b : Int) : cmpI b a = - cmpI a b := by
 rcases qaA a b with ⟨h, h2⟩ | ⟨h, h2⟩ | ⟨h, h2⟩ <;> rcases qaA b a with ⟨g, g2⟩ | ⟨g, g2⟩ | ⟨g, g2⟩ <;> omega
theorem qcY (a b : Int) : cmpI a b = -1 ∨ cmpI a b = 0 ∨ cmpI a b = 1 := by
 rcases qaA a b with ⟨h, h2⟩ | ⟨h, h2⟩ | ⟨h, h2⟩ <;> omega
theorem qj6 {a b a' b' : Int} (h : a' = -a) (h2 : b' = -b) : orI a' b' = - orI a b := by
 unfold orI; subst h h2
 by_cases h : a = 0
 ·rw [if_pos h, if_pos (by omega)]
 ·rw [if_neg h, if_neg (by omega)]
theorem qb7 {a b : Int} (h : a = -1 ∨ a = 0 ∨ a = 1) (h2 : b = -1 ∨ b = 0 ∨ b = 1) : orI a b = -1 ∨ orI a b = 0 ∨ orI a b = 1 := by
 unfold orI; split <;> assumption
theorem qbZ : ∀ a b : List UInt8, orderM a b = cmpL cmpB a b
 | [], [] => by simp [orderM, cmpL, Op.bytesLess]
 | [], _ :: _ => by simp [orderM, cmpL, Op.bytesLess]
 | _ :: _, [] => by simp [orderM, cmpL, Op.bytesLess]
 | x :: r, y :: t => by
  have ih := qbZ r t
  simp only [cmpL]
  rcases qaA x.toNat y.toNat with ⟨h, h2⟩ | ⟨h, h2⟩ | ⟨h, h2⟩
  ·have hc : cmpB x y = -1 := h
   rw [hc]
   have : x < y := by rw [UInt8.lt_iff_toNat_lt]; omega
   simp [orderM, Op.bytesLess, this]
  ·have hc : cmpB x y = 0 := h
   have e : x = y := UInt8.toNat_inj.1 (by omega)
   subst e
   rw [hc, ← ih]
   have : ¬ x < x := by rw [UInt8.lt_iff_toNat_lt]; omega
   simp [orderM, Op.bytesLess, this]
  ·have hc : cmpB x y = 1 := h
   rw [hc]
   have n1 : ¬ x < y := by rw [UInt8.lt_iff_toNat_lt]; omega
   have n2 : ¬ x = y := by rintro rfl; omega
   simp [orderM, Op.bytesLess, n1, n2]
theorem qeN (a b : UInt8) : cmpB a b = -1 ∨ cmpB a b = 0 ∨ cmpB a b = 1 := qcY _ _
theorem qit (a b : Nat) : cmpU a b = -1 ∨ cmpU a b = 0 ∨ cmpU a b = 1 := qcY _ _
theorem qgn (a b : List UInt8) : orderM a b = -1 ∨ orderM a b = 0 ∨ orderM a b = 1 := by rw [qbZ]; exact qbu qeN a b
theorem qfh (a b : Dat) : qas a b = -1 ∨ qas a b = 0 ∨ qas a b = 1 :=
 qb7 (qcY _ _) (qb7 (qbu qcN _ _) (qb7 (qbu qit _ _) (qb7 (qbu qgn _ _) (qbu qeN _ _))))
end Go.Proofs.YtnpnfajgphpabaaGreat
namespace Go.Proofs.YtnpnfajgphpabaaGreat
set_option maxRecDepth 20000
set_option maxHeartbeats 8000000
open Go.RowKit Go.Shelf
def fewN (xs : Nm) : Bool := decide (xs.length ≤ 140 ∧ ∀ x ∈ xs, x.length ≤ 100)
theorem qdS {xs : Nm} (h : fewN xs = true) : NmOK xs := by
 have := of_decide_eq_true h
 exact ⟨by omega, fun x hx => by have := this.2 x hx; omega⟩
theorem qei (v : Value) (xs : Nm) (w : World) (hA : StrsAt w v xs) (hm : xs.length ≤ maxLen) (hk : ∀ x ∈ xs, x.length ≤ maxLen) :
 Calls Tryz.prog 40 #[v] w fun e w' => e = .returned (.bool (fewN xs)) ∧ w' = w := by
 obtain ⟨a, c, rfl, _⟩ := id hA
 unfold maxLen at hm hk
 obtain ⟨n, hn⟩ : ∃ n, xs.length = n := ⟨_, rfl⟩
 have hcell := fun j hj => hA.cell (Below.refl _ w) j hj
 rw [hn] at hm ⊢
 have HN := qH0 hn
 clear hA hn
 by_cases hbig : 140 < (n : Int)
 ·have H0 : Hid (fewN xs = false) := qH0 (decide_eq_false (fun h => by have := HN.out; omega))
  go_enter Tryz.func40, Tryz.ntmps40
  go_wp2
  go_ret
  exact ⟨by rw [H0.out]; rfl, rfl⟩
 go_enter Tryz.func40, Tryz.ntmps40
 go_wp2
 go_loopw [3] (fun i wr => ∃ k : Nat, i = .int .i64 k ∧ k ≤ n ∧ Hid (∀ x ∈ xs.take k, x.length ≤ 100) ∧ wr = w) (fun i _ => n - (intOf i).toNat)
 case atStart => exact ⟨0, rfl, Nat.zero_le _, qH0 (by simp), rfl⟩
 case round =>
  obtain ⟨k, rfl, hkn, HC, rfl⟩ := hrel
  by_cases hlt : k < n
  ·have hkp : k < xs.length := by rw [HN.out]; exact hlt
   obtain ⟨g, off, rfl, hg, hc⟩ := hcell k hkp
   obtain ⟨s, hs0, hsz, hsv⟩ := str_of xs[k]
   rw [hsv] at hc
   have hxk := hk _ (List.getElem_mem hkp)
   rw [← hsz] at hxk
   by_cases hb : 100 < (s.size : Int)
   ·have H0 : Hid (fewN xs = false) := qH0 (decide_eq_false (fun h => by have := h.2 _ (List.getElem_mem hkp); omega))
    clear hs0 hsz hsv hk
    go_wp2
    go_ret
    exact ⟨by rw [H0.out]; rfl, rfl⟩
   ·have HC2 : Hid (∀ x ∈ xs.take (k + 1), x.length ≤ 100) := qH0 (by
     intro x hx; rw [List.take_succ_eq_append_getElem hkp] at hx
     rcases List.mem_append.1 hx with h | h
     ·exact HC.out x h
     ·obtain rfl := List.mem_singleton.1 h; omega)
    clear hs0 hsz hsv hk
    go_wp2
    go_roundw
    case rel => exact ⟨k + 1, by go_num, by omega, HC2, trivial⟩
    case measure => simp [intOf]; omega
  ·obtain rfl : k = n := by omega
   have H0 : Hid (fewN xs = true) := qH0 (decide_eq_true ⟨by have := HN.out; omega, by have h := HC.out; rw [List.take_of_length_le (by rw [HN.out]; exact qN0)] at h; exact h⟩)
   clear hk
   go_wp2
   go_ret
   exact ⟨by rw [H0.out]; rfl, rfl⟩
def goodN (xs : Nm) : Bool := fewN xs && decide (checkN xs = 0)
theorem qju (v : Value) (xs : Nm) (w : World) (hA : StrsAt w v xs) (hm : xs.length ≤ maxLen) (hk : ∀ x ∈ xs, x.length ≤ maxLen) :
 Calls Tryz.prog 15 #[v] w fun e w' => e = .returned (.bool (goodN xs)) ∧ w' = w := by
 have hF := qei v xs w hA hm hk
 obtain ⟨a, c, rfl, _⟩ := id hA
 by_cases hf : fewN xs = true
 ·have hC := qb8 _ xs w hA (qdS hf)
  have hg : goodN xs = decide (checkN xs = 0) := by unfold goodN; rw [hf, Bool.true_and]
  rw [hf] at hF
  have HG := qH0 hg
  clear hg hf hm hk hA
  generalize checkN xs = q at *
  go_enter Tryz.func15, Tryz.ntmps15
  go_wp2_with (first | (go_at_call 40; refine hF.mono ?_; rintro e w2 ⟨rfl, rfl⟩) | (go_at_call 41; refine hC.mono ?_; rintro e w3 ⟨rfl, rfl⟩))
  go_ret
  refine ⟨?_, rfl⟩
  rw [HG.out]
  show Ending.returned (.bool (q == 0)) = _
  rw [show (q == 0) = decide (q = 0) from rfl]
 ·have hf0 : fewN xs = false := by simpa using hf
  have hg : goodN xs = false := by unfold goodN; rw [hf0, Bool.false_and]
  rw [hf0] at hF
  have HG := qH0 hg
  clear hg hf hf0 hm hk hA
  go_enter Tryz.func15, Tryz.ntmps15
  go_wp2_with (go_at_call 40; refine hF.mono ?_; rintro e w2 ⟨rfl, rfl⟩)
  go_ret
  exact ⟨by rw [HG.out]; rfl, rfl⟩
theorem keepS2 {n : Nat} {w W W' : World} {p q : Addr} {u v : Value} (h : W.cell? p = some u ∧ W.cell? q = some v ∧ Below n w W) (hb : Below W.heap.size W W') (hp : p.block < n) (hq : q.block < n) (hn : n ≤ w.heap.size) :
 W'.cell? p = some u ∧ W'.cell? q = some v ∧ Below n w W' := by
 have hz := h.2.2.size
 exact ⟨(hb.cell (by omega)).trans h.1, (hb.cell (by omega)).trans h.2.1, h.2.2.trans (hb.mono (by omega))⟩
theorem nm_nil (W : World) : NmAt W (.slice none 0 0) [] := ⟨⟨_, _, rfl, .inl rfl⟩, SlOK.nil⟩
theorem qeF (l : List UInt8) : (foldL l).length = l.length := by simp [foldL]
theorem qgB (v u : Value) (xs ys : Nm) (w : World) (hA : StrsAt w v xs) (hU : StrsAt w u ys) (hk : NmOK xs) (hk2 : NmOK ys) :
 Calls Tryz.prog 17 #[v, u] w fun e w' => e = .returned (.bool (sameN xs ys)) ∧ Below w.heap.size w w' := by
 obtain ⟨a, c, rfl, _⟩ := id hA
 obtain ⟨a2, c2, rfl, _⟩ := id hU
 have hm := hk.1
 by_cases hne : ((xs.length : Int) != (ys.length : Int)) = true
 ·have H0 : Hid (sameN xs ys = false) := qH0 (qfY (by intro e; rw [e] at hne; simp at hne))
  go_enter Tryz.func17, Tryz.ntmps17
  go_wp2
  go_ret
  exact ⟨by rw [H0.out]; rfl, qL0⟩
 have hlen : ((xs.length : Int) != (ys.length : Int)) = false := by simpa using hne
 have hel : xs.length = ys.length := by simp at hlen; omega
 have hcell := fun W' (hb : Below w.heap.size w W') j hj => hA.cell hb j hj
 have hcell2 := fun W' (hb : Below w.heap.size w W') j hj => hU.cell hb j hj
 obtain ⟨n, hn⟩ : ∃ n, xs.length = n := ⟨_, rfl⟩
 have hn2 : ys.length = n := by omega
 rw [hn] at hm ⊢
 rw [hn2]
 have HN := qH0 hn; have HN2 := qH0 hn2
 clear hA hU hel hne hlen hn hn2
 have hnn : ((n : Int) != (n : Int)) = false := by simp
 go_enter Tryz.func17, Tryz.ntmps17
 go_wp2
 go_loopw [5] (fun i wr => ∃ k : Nat, i = .int .i64 k ∧ k ≤ n ∧ Hid (foldN (xs.take k) = foldN (ys.take k)) ∧ Below w.heap.size w wr) (fun i _ => n - (intOf i).toNat)
 case atStart => exact ⟨0, rfl, Nat.zero_le _, qH0 rfl, qL0⟩
 case round =>
  obtain ⟨k, rfl, hkn, HC, hB⟩ := hrel
  by_cases hlt : k < n
  ·have hkp : k < xs.length := by rw [HN.out]; exact hlt
   have hkq : k < ys.length := by rw [HN2.out]; exact hlt
   obtain ⟨g, off, rfl, hg, hc⟩ := hcell wr hB k hkp
   obtain ⟨g2, off2, rfl, hg2, hc2⟩ := hcell2 wr hB k hkq
   obtain ⟨s, hs0, hsz, hsv⟩ := str_of xs[k]
   obtain ⟨t, ht0, htz, htv⟩ := str_of ys[k]
   rw [hsv] at hc
   rw [htv] at hc2
   have h1 := hk.get k hkp
   have h2 := hk2.get k hkq
   have hF1 := fun W => qbw s W (by omega)
   have hF2 := fun W => qbw t W (by omega)
   have hz1 : (foldL xs[k]).length ≤ 1048576 := by rw [qeF]; omega
   have hz2 : (foldL ys[k]).length ≤ 1048576 := by rw [qeF]; omega
   have hBz := hB.size
   have hS0 : wr.cell? ⟨g, off + k, none⟩ = some (.string s) ∧ wr.cell? ⟨g2, off2 + k, none⟩ = some (.string t) ∧ Below w.heap.size w wr := ⟨hc, hc2, hB⟩
   have hkn1 : (0 : Int) ≤ (k : Int) := by omega
   have hkn2 : (k : Int) < (n : Int) := by omega
   rw [hs0] at hF1; rw [ht0] at hF2
   by_cases hq : foldL xs[k] = foldL ys[k]
   ·have HC2 : Hid (foldN (xs.take (k + 1)) = foldN (ys.take (k + 1))) := qH0 (by
     rw [List.take_succ_eq_append_getElem hkp, List.take_succ_eq_append_getElem hkq, qeR, qeR, HC.out, hq])
    clear hs0 hsz hsv ht0 htz htv h1 h2 hcell hcell2 hk hk2 hc hc2 hB
    rw [hq] at hF1
    clear hq hz1
    generalize (⟨(foldL ys[k]).toArray⟩ : ByteArray) = q at *
    have KS := qH0 (fun (W W' : World) (h : W.cell? ⟨g, off + k, none⟩ = some (.string s) ∧ W.cell? ⟨g2, off2 + k, none⟩ = some (.string t) ∧ Below w.heap.size w W) (hb : Below W.heap.size W W') => keepS2 h hb hg hg2 (qN0))
    go_wp2
    go_region_held3 (fun W' => W'.cell? ⟨g, off + k, none⟩ = some (.string s) ∧ W'.cell? ⟨g2, off2 + k, none⟩ = some (.string t) ∧ Below w.heap.size w W') (first | assumption | exact ⟨hS0.1, hS0.2.1, qaz hS0.2.2 _⟩ | exact ⟨hS0.1, hS0.2.1, qaz hS0.2.2 1⟩) (first | ((with_reducible refine (hF1 _).mono ?_); rintro e w2 ⟨rfl, hb2⟩; have hS2 := KS.out _ _ (by assumption) hb2) | ((with_reducible refine (hF2 _).mono ?_); rintro e w2 ⟨rfl, hb2⟩; have hS2 := KS.out _ _ (by assumption) hb2))
    all_goals
     go_wp2
     go_roundw
     case rel => exact ⟨k + 1, by go_num, by omega, HC2, hS2.2.2⟩
     case measure => simp [intOf]; omega
   ·have H0 : Hid (sameN xs ys = false) := qH0 (by
     cases h : sameN xs ys with
     | false => rfl
     | true =>
      exfalso; apply hq
      have e := congrArg (fun l : Nm => l[k]?) ((qap xs ys).1 h)
      simpa [foldN, hkp, hkq] using e)
    have hqq : ((⟨(foldL xs[k]).toArray⟩ : ByteArray).toList == (⟨(foldL ys[k]).toArray⟩ : ByteArray).toList) = false := by
     rw [qaL, qaL]; simpa using hq
    clear hs0 hsz hsv ht0 htz htv h1 h2 hcell hcell2 hk hk2 hc hc2 hB hz1 hz2 hq
    generalize (⟨(foldL xs[k]).toArray⟩ : ByteArray) = p at *
    generalize (⟨(foldL ys[k]).toArray⟩ : ByteArray) = q at *
    have KS := qH0 (fun (W W' : World) (h : W.cell? ⟨g, off + k, none⟩ = some (.string s) ∧ W.cell? ⟨g2, off2 + k, none⟩ = some (.string t) ∧ Below w.heap.size w W) (hb : Below W.heap.size W W') => keepS2 h hb hg hg2 (qN0))
    go_wp2
    go_region_held3 (fun W' => W'.cell? ⟨g, off + k, none⟩ = some (.string s) ∧ W'.cell? ⟨g2, off2 + k, none⟩ = some (.string t) ∧ Below w.heap.size w W') (first | assumption | exact ⟨hS0.1, hS0.2.1, qaz hS0.2.2 _⟩ | exact ⟨hS0.1, hS0.2.1, qaz hS0.2.2 1⟩) (first | ((with_reducible refine (hF1 _).mono ?_); rintro e w2 ⟨rfl, hb2⟩; have hS2 := KS.out _ _ (by assumption) hb2) | ((with_reducible refine (hF2 _).mono ?_); rintro e w2 ⟨rfl, hb2⟩; have hS2 := KS.out _ _ (by assumption) hb2))
    all_goals
     go_wp2
     go_ret
     exact ⟨by rw [H0.out]; rfl, hS2.2.2⟩
  ·obtain rfl : k = n := by omega
   have H0 : Hid (sameN xs ys = true) := qH0 ((qap _ _).2 (by
    have h := HC.out
    rwa [List.take_of_length_le (by rw [HN.out]; exact qN0), List.take_of_length_le (by rw [HN2.out]; exact qN0)] at h))
   go_wp2
   go_ret
   exact ⟨by rw [H0.out]; rfl, hB⟩
theorem NmAt.alloc {W : World} {v : Value} {xs : Nm} (h : NmAt W v xs) (o : Obj) : NmAt (W.alloc o) v xs := h.below ((qL0).alloc (qN0) _)
theorem qcu (v u : Value) (n z : Nm) (r : Bool) (h : underN n z = r) (w : World) (hA : NmAt w v n) (hU : NmAt w u z) (h1 : NmOK n) (h2 : NmOK z) :
 Calls Tryz.prog 77 #[v, u] w fun e w' => e = .returned (.bool r) ∧ Below w.heap.size w w' := by
 subst h; exact qiG v u n z w hA.1 hU.1 h1 h2
theorem qbW (v u : Value) (n z : Nm) (r : Bool) (h : sameN n z = r) (w : World) (hA : NmAt w v n) (hU : NmAt w u z) (h1 : NmOK n) (h2 : NmOK z) :
 Calls Tryz.prog 12 #[v, u] w fun e w' => e = .returned (.bool r) ∧ Below w.heap.size w w' := by
 subst h; exact qi7 v u n z w hA.1 hU.1 h1 h2
theorem qdZ (v u : Value) (n z : Nm) (r : Int) (h : qai n z = r) (w : World) (hA : NmAt w v n) (hU : NmAt w u z) (h1 : NmOK n) (h2 : NmOK z) :
 Calls Tryz.prog 38 #[v, u] w fun e w' => e = .returned (.int .i64 r) ∧ Below w.heap.size w w' := by
 subst h; exact qdN v u n z w hA.1 hU.1 h1 h2
theorem qj7 (v : Value) (n : Nm) (r : Bool) (h : wildN n = r) (w : World) (hA : NmAt w v n) (h1 : NmOK n) :
 Calls Tryz.prog 52 #[v] w fun e w' => e = .returned (.bool r) ∧ Below w.heap.size w w' := by
 subst h; refine (qiV v n w hA.1 h1).mono ?_
 rintro e w' ⟨he, rfl⟩; exact ⟨he, qL0⟩
def KeepP (b b2 : Nat) (v u : Value) (W W' : World) : Prop := KeepN b v W W' ∧ KeepN b2 u W W'
theorem KeepP.refl (b b2 : Nat) (v u : Value) (W : World) : KeepP b b2 v u W W := ⟨KeepN.refl _ _ _, KeepN.refl _ _ _⟩
theorem KeepP.trans {b b2 : Nat} {v u : Value} {A B C : World} (h : KeepP b b2 v u A B) (k : KeepP b b2 v u B C) : KeepP b b2 v u A C := ⟨h.1.trans k.1, h.2.trans k.2⟩
theorem KeepP.drewN {b b2 : Nat} {v u : Value} (W : World) (n : Nat) : KeepP b b2 v u W (W.drewN n) := ⟨KeepN.drewN _ _, KeepN.drewN _ _⟩
def pairV (xs ys : List Value) (j : Fin (min xs.length ys.length)) : Array Value := #[xs[j.val]'(by have := j.isLt; omega), ys[j.val]'(by have := j.isLt; omega)]
def FirstC (cs : Nat → Int) (n m : Nat) (r : Int) : Prop := (∃ k, k < n ∧ k < m ∧ (∀ j, j < k → cs j = 0) ∧ cs k ≠ 0 ∧ r = cs k) ∨ ((∀ j, j < n → j < m → cs j = 0) ∧ r = cmpI n m)
theorem qbY {α : Type} {f : α → α → Int} {a b : List α} {cs : Nat → Int} {r : Int} (hc : ∀ j (h1 : j < a.length) (h2 : j < b.length), cs j = f a[j] b[j]) (h : FirstC cs a.length b.length r) : r = cmpL f a b := by
 have key : ∀ k, k ≤ a.length → k ≤ b.length → (∀ j, j < k → cs j = 0) → cmpL f a b = cmpL f (a.drop k) (b.drop k) := by
  intro k
  induction k with
  | zero => intro _ _ _; rfl
  | succ k ih =>
   intro h1 h2 h3
   rw [ih (by omega) (by omega) (fun j hj => h3 j (by omega)), qb6 k (by omega) (by omega), if_pos]
   rw [← hc k (by omega) (by omega)]; exact h3 k (by omega)
 rcases h with ⟨k, h1, h2, h3, h4, rfl⟩ | ⟨h1, rfl⟩
 ·rw [key k (by omega) (by omega) h3, qb6 k h1 h2, if_neg (by rw [← hc k h1 h2]; exact h4), hc k h1 h2]
 ·rcases Nat.le_total a.length b.length with h | h
  ·rw [key a.length (qN0) h (fun j hj => h1 j hj (by omega)), qbn _ (qN0) h (.inl rfl)]
  ·rw [key b.length h (qN0) (fun j hj => h1 j (by omega) hj), qbn _ h (qN0) (.inr rfl)]
theorem qdQ {m : Nat} {p : List (Fin m)} {x : Fin m} (h : p ++ [x] <+: List.finRange m) : ∀ j (hj : j < x.val), (⟨j, by have := x.isLt; omega⟩ : Fin m) ∈ p := by
 have hl : p.length + 1 ≤ m := by have := h.length_le; simpa using this
 have e := List.prefix_iff_eq_take.1 h
 rw [List.length_append, List.length_singleton, qan (by omega)] at e
 obtain ⟨e1, e2⟩ := List.append_inj' e rfl
 have e2 : x = ⟨p.length, by omega⟩ := by simpa using e2
 intro j hj
 rw [e2] at hj
 have hj' : j < p.length := hj
 rw [e1]
 refine List.mem_iff_getElem.2 ⟨j, by rw [List.length_take, List.length_finRange]; omega, by simp⟩
def lastC {m : Nat} (cs : Nat → Int) (pre : List (Fin m)) : Int := cs ((pre.getLast?.map Fin.val).getD 0)
theorem qa4 {m : Nat} (cs : Nat → Int) (p : List (Fin m)) (x : Fin m) : lastC cs (p ++ [x]) = cs x.val := by simp [lastC]
theorem qdR {b b2 : Nat} {v u : Value} {A B C : World} (h : KeepP b b2 v u A B) (k : KeepP b b2 v u B C) : KeepP b b2 v u A C := h.trans k
theorem SlAt.row_lt {W : World} {v : Value} {xs : List Value} (h : SlAt W v xs) : ∀ g, rowOf v = some g → g < W.heap.size := by
 obtain ⟨a, c, rfl, _, _, hx⟩ := h
 intro g hg
 rcases hx with e | ⟨b, off, rfl, hb, _⟩
 ·subst e; cases a <;> cases hg
 ·cases xs with
  | nil => cases hg
  | cons x r => cases hg; exact hb
end Go.Proofs.YtnpnfajgphpabaaGreat
