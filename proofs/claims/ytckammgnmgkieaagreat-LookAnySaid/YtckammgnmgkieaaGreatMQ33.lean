import Derived.BigQuiet
import Derived.Deep.RegionHeld3
import Derived.Test.YtckammgnmgkieaaGreatMQ43
namespace Go.Proofs.YtckammgnmgkieaaGreat
set_option maxRecDepth 20000
open Go.RowKit Go.Shelf
def SlAt (W : World) (v : Value) (xs : List Value) : Prop :=
 ∃ a c, v = .slice a xs.length c ∧ xs.length ≤ c ∧ (a = none → c = 0) ∧ (xs = [] ∨ ∃ b off, a = some ⟨b, off, none⟩ ∧ b < W.heap.size ∧ ∀ j (hj : j < xs.length), W.cell? ⟨b, off + j, none⟩ = some xs[j])
theorem SlAt.below {W W' : World} {v : Value} {xs : List Value} (h : SlAt W v xs) (hb : Below W.heap.size W W') : SlAt W' v xs := by
 obtain ⟨a, c, e, h1, h2, h⟩ := h
 refine ⟨a, c, e, h1, h2, ?_⟩
 rcases h with h | ⟨b, off, ea, hlt, hc⟩
 ·exact .inl h
 ·exact .inr ⟨b, off, ea, Nat.lt_of_lt_of_le hlt hb.size, fun j hj => (hb.cell (p := ⟨b, off + j, none⟩) hlt).trans (hc j hj)⟩
theorem SlAt.nil (W : World) : SlAt W (.slice none 0 0) [] := ⟨none, 0, rfl, qN0, fun _ => rfl, .inl rfl⟩
theorem SlAt.ok {W : World} {v : Value} {xs : List Value} (h : SlAt W v xs) : SlOK v := by
 obtain ⟨a, c, rfl, h1, h2, _⟩ := h
 exact ⟨_, _, _, rfl, h1, h2⟩
theorem SlAt.of_own {α : Type} {T : TypeId} {enc : α → Value} {W : World} {base : Nat} {v : Value} {xs : List α} (h : OwnG T enc W base v xs) : SlAt W v (xs.map enc) := by
 have h0 := h
 rcases h.2 with ⟨rfl, h1⟩ | ⟨g, cap, cur, rfl, hb, hg, hc, hm, hsz, htk⟩
 ·obtain rfl := List.eq_nil_of_length_eq_zero h1
  exact SlAt.nil W
 ·refine ⟨_, _, by rw [List.length_map], by rw [List.length_map]; exact hc, (fun e => by cases e), ?_⟩
  by_cases hne : xs = []
  ·subst hne; exact .inl rfl
  ·obtain ⟨g', eg, _, hlt, hcl⟩ := h0.cells hne
   cases eg
   refine .inr ⟨g, 0, rfl, hlt, fun j hj => ?_⟩
   rw [Nat.zero_add, hcl j (by simpa using hj), List.getElem_map]
theorem nmAt_sl {W : World} {v : Value} {xs : Nm} : NmAt W v xs ↔ SlAt W v (xs.map strV) := by
 constructor
 ·rintro ⟨⟨a, c, rfl, h⟩, ⟨a', n', c', e, h1, h2⟩⟩
  cases e
  refine ⟨a, c, by rw [List.length_map], by rw [List.length_map]; exact h1, h2, ?_⟩
  rcases h with rfl | ⟨b, off, ea, hlt, hc⟩
  ·exact .inl rfl
  ·exact .inr ⟨b, off, ea, hlt, fun j hj => by rw [List.getElem_map]; exact hc j (by simpa using hj)⟩
 ·rintro ⟨a, c, e, h1, h2, h⟩
  rw [List.length_map] at e h1
  subst e
  refine ⟨⟨a, c, rfl, ?_⟩, ⟨_, _, _, rfl, h1, h2⟩⟩
  rcases h with h | ⟨b, off, ea, hlt, hc⟩
  ·exact .inl (by simpa using h)
  ·refine .inr ⟨b, off, ea, hlt, fun j hj => ?_⟩
   rw [hc j (by simpa using hj), List.getElem_map]
def NmsAt (W : World) (v : Value) (ns : List Nm) : Prop := ∃ vs : List Value, SlAt W v vs ∧ ∃ h : vs.length = ns.length, ∀ j (hj : j < vs.length), NmAt W vs[j] (ns[j]'(by omega))
theorem NmsAt.below {W W' : World} {v : Value} {ns : List Nm} (h : NmsAt W v ns) (hb : Below W.heap.size W W') : NmsAt W' v ns := by
 obtain ⟨vs, h1, h2, h3⟩ := h
 exact ⟨vs, h1.below hb, h2, fun j hj => (h3 j hj).below hb⟩
theorem NmsAt.nil (W : World) : NmsAt W (.slice none 0 0) [] := ⟨[], SlAt.nil W, rfl, fun _ hj => absurd hj (Nat.not_lt_zero _)⟩
def u32V (n : Nat) : Value := .int .u32 (n : Int)
structure Dat where
 ty : Int
 names : List Nm
 nums : List Nat
 texts : Nm
 raw : List UInt8
def DatAt (W : World) (v : Value) (d : Dat) : Prop :=
 ∃ vn vu vt vr, v = .agg #[.int .i64 d.ty, vn, vu, vt, vr] ∧ NmsAt W vn d.names ∧ SlAt W vu (d.nums.map u32V) ∧ NmAt W vt d.texts ∧ SlAt W vr (d.raw.map bv)
theorem DatAt.below {W W' : World} {v : Value} {d : Dat} (h : DatAt W v d) (hb : Below W.heap.size W W') : DatAt W' v d := by
 obtain ⟨vn, vu, vt, vr, e, h1, h2, h3, h4⟩ := h
 exact ⟨vn, vu, vt, vr, e, h1.below hb, h2.below hb, h3.below hb, h4.below hb⟩
def Dat.none : Dat := ⟨0, [], [], [], []⟩
def DatOK (d : Dat) : Prop := (-(2 ^ 63) ≤ d.ty ∧ d.ty < 2 ^ 63) ∧ d.names.length ≤ 1048576 ∧ (∀ n ∈ d.names, NmOK n) ∧ d.nums.length ≤ 1048576 ∧ (∀ n ∈ d.nums, n < 2 ^ 32) ∧ NmOK d.texts ∧ d.raw.length ≤ 1048576
end Go.Proofs.YtckammgnmgkieaaGreat
namespace Go.Proofs.YtckammgnmgkieaaGreat
set_option maxRecDepth 20000
open Go.RowKit Go.Shelf
def cmpL {α : Type} (f : α → α → Int) : List α → List α → Int
 | [], [] => 0
 | [], _ :: _ => -1
 | _ :: _, [] => 1
 | x :: r, y :: t => if f x y = 0 then cmpL f r t else f x y
def orI (a b : Int) : Int := if a = 0 then b else a
def cmpU (a b : Nat) : Int := cmpI a b
def cmpB (a b : UInt8) : Int := cmpI a.toNat b.toNat
def qao (a b : Dat) : Int :=
 orI (cmpI a.ty b.ty) (orI (cmpL qai a.names b.names) (orI (cmpL cmpU a.nums b.nums) (orI (cmpL orderM a.texts b.texts) (cmpL cmpB a.raw b.raw))))
section
variable {α : Type} {f : α → α → Int}
theorem qcp {a b : List α} (k : Nat) (h1 : k < a.length) (h2 : k < b.length) :
 cmpL f (a.drop k) (b.drop k) = if f a[k] b[k] = 0 then cmpL f (a.drop (k + 1)) (b.drop (k + 1)) else f a[k] b[k] := by
 rw [List.drop_eq_getElem_cons h1, List.drop_eq_getElem_cons h2]
 rfl
theorem qmr (b : List α) : cmpL f [] b = cmpI 0 b.length := by
 cases b with
 | nil => rfl
 | cons x r => simp [cmpL, cmpI]
theorem qkP (a : List α) : cmpL f a [] = cmpI a.length 0 := by
 cases a with
 | nil => rfl
 | cons x r => simp [cmpL, cmpI]; omega
theorem qik (a b k : Int) : cmpI (a - k) (b - k) = cmpI a b := by
 unfold cmpI
 by_cases h : a < b
 ·rw [if_pos h, if_pos (by omega)]
 ·rw [if_neg h, if_neg (by omega)]
  by_cases h2 : b < a
  ·rw [if_pos h2, if_pos (by omega)]
  ·rw [if_neg h2, if_neg (by omega)]
theorem qbx {a b : List α} (k : Nat) (h1 : k ≤ a.length) (h2 : k ≤ b.length) (h : k = a.length ∨ k = b.length) : cmpL f (a.drop k) (b.drop k) = cmpI a.length b.length := by
 rcases h with h | h
 ·rw [List.drop_of_length_le (by omega), qmr, List.length_drop, ← qik a.length b.length k]
  congr 1 <;> omega
 ·rw [List.drop_of_length_le (l := b) (by omega), qkP, List.length_drop, ← qik a.length b.length k]
  congr 1 <;> omega
theorem qg4 (hf : ∀ x y, f y x = - f x y) : ∀ a b : List α, cmpL f b a = - cmpL f a b
 | [], [] => rfl
 | [], _ :: _ => rfl
 | _ :: _, [] => rfl
 | x :: r, y :: t => by
  simp only [cmpL, hf x y, qg4 hf r t]
  by_cases h : f x y = 0
  ·rw [if_pos h, if_pos (by omega)]
  ·rw [if_neg h, if_neg (by omega)]
theorem qbD (hf : ∀ x y, f x y = -1 ∨ f x y = 0 ∨ f x y = 1) : ∀ a b : List α, cmpL f a b = -1 ∨ cmpL f a b = 0 ∨ cmpL f a b = 1
 | [], [] => .inr (.inl rfl)
 | [], _ :: _ => .inl rfl
 | _ :: _, [] => .inr (.inr rfl)
 | x :: r, y :: t => by
  simp only [cmpL]
  split
  ·exact qbD hf r t
  ·exact hf x y
end
theorem qk8 (a b : Int) : cmpI b a = - cmpI a b := by
 rcases qaD a b with ⟨h, h2⟩ | ⟨h, h2⟩ | ⟨h, h2⟩ <;> rcases qaD b a with ⟨g, g2⟩ | ⟨g, g2⟩ | ⟨g, g2⟩ <;> omega
theorem qdD (a b : Int) : cmpI a b = -1 ∨ cmpI a b = 0 ∨ cmpI a b = 1 := by
 rcases qaD a b with ⟨h, h2⟩ | ⟨h, h2⟩ | ⟨h, h2⟩ <;> omega
theorem qmn {a b a' b' : Int} (h : a' = -a) (h2 : b' = -b) : orI a' b' = - orI a b := by
 unfold orI; subst h h2
 by_cases h : a = 0
 ·rw [if_pos h, if_pos (by omega)]
 ·rw [if_neg h, if_neg (by omega)]
theorem qct {a b : Int} (h : a = -1 ∨ a = 0 ∨ a = 1) (h2 : b = -1 ∨ b = 0 ∨ b = 1) : orI a b = -1 ∨ orI a b = 0 ∨ orI a b = 1 := by
 unfold orI; split <;> assumption
theorem qcj : ∀ a b : List UInt8, orderM a b = cmpL cmpB a b
 | [], [] => by simp [orderM, cmpL, Op.bytesLess]
 | [], _ :: _ => by simp [orderM, cmpL, Op.bytesLess]
 | _ :: _, [] => by simp [orderM, cmpL, Op.bytesLess]
 | x :: r, y :: t => by
  have ih := qcj r t
  simp only [cmpL]
  rcases qaD x.toNat y.toNat with ⟨h, h2⟩ | ⟨h, h2⟩ | ⟨h, h2⟩
  ·have hc : cmpB x y = -1 := h
   rw [hc]
   have : x < y := by rw [UInt8.lt_iff_toNat_lt]; omega
   simp [orderM, Op.bytesLess, this]
  ·have hc : cmpB x y = 0 := h
   have e : x = y := UInt8.toNat_inj.1 (by omega)
   subst e
   rw [hc, ← ih]
   have : ¬ x < x := by rw [UInt8.lt_iff_toNat_lt]; omega
   simp [orderM, Op.bytesLess, this]
  ·have hc : cmpB x y = 1 := h
   rw [hc]
   have n1 : ¬ x < y := by rw [UInt8.lt_iff_toNat_lt]; omega
   have n2 : ¬ x = y := by rintro rfl; omega
   simp [orderM, Op.bytesLess, n1, n2]
theorem qfz (a b : UInt8) : cmpB a b = -1 ∨ cmpB a b = 0 ∨ cmpB a b = 1 := qdD _ _
theorem qjR (a b : Nat) : cmpU a b = -1 ∨ cmpU a b = 0 ∨ cmpU a b = 1 := qdD _ _
theorem qh0 (a b : List UInt8) : orderM a b = -1 ∨ orderM a b = 0 ∨ orderM a b = 1 := by rw [qcj]; exact qbD qfz a b
theorem qf8 (a b : Dat) : qao a b = -1 ∨ qao a b = 0 ∨ qao a b = 1 :=
 qct (qdD _ _) (qct (qbD qdk _ _) (qct (qbD qjR _ _) (qct (qbD qh0 _ _) (qbD qfz _ _))))
end Go.Proofs.YtckammgnmgkieaaGreat
namespace Go.Proofs.YtckammgnmgkieaaGreat
set_option maxRecDepth 20000
set_option maxHeartbeats 8000000
open Go.RowKit Go.Shelf
def fewN (xs : Nm) : Bool := decide (xs.length ≤ 140 ∧ ∀ x ∈ xs, x.length ≤ 100)
theorem qbU {xs : Nm} (h : fewN xs = true) : NmOK xs := by
 have := of_decide_eq_true h
 exact ⟨by omega, fun x hx => by have := this.2 x hx; omega⟩
theorem qfi (v : Value) (xs : Nm) (w : World) (hA : StrsAt w v xs) (hm : xs.length ≤ maxLen) (hk : ∀ x ∈ xs, x.length ≤ maxLen) :
 Calls Tryz.prog 13 #[v] w fun e w' => e = .returned (.bool (fewN xs)) ∧ w' = w := by
 obtain ⟨a, c, rfl, _⟩ := id hA
 unfold maxLen at hm hk
 obtain ⟨n, hn⟩ : ∃ n, xs.length = n := ⟨_, rfl⟩
 have hcell := fun j hj => hA.cell (Below.refl _ w) j hj
 rw [hn] at hm ⊢
 have HN := qH0 hn
 clear hA hn
 by_cases hbig : 140 < (n : Int)
 ·have H0 : Hid (fewN xs = false) := qH0 (decide_eq_false (fun h => by have := HN.out; omega))
  go_enter Tryz.func13, Tryz.ntmps13
  go_wp2
  go_ret
  exact ⟨by rw [H0.out]; rfl, rfl⟩
 go_enter Tryz.func13, Tryz.ntmps13
 go_wp2
 go_loopw [3] (fun i wr => ∃ k : Nat, i = .int .i64 k ∧ k ≤ n ∧ Hid (∀ x ∈ xs.take k, x.length ≤ 100) ∧ wr = w) (fun i _ => n - (intOf i).toNat)
 case atStart => exact ⟨0, rfl, Nat.zero_le _, qH0 (by simp), rfl⟩
 case round =>
  obtain ⟨k, rfl, hkn, HC, rfl⟩ := hrel
  by_cases hlt : k < n
  ·have hkp : k < xs.length := by rw [HN.out]; exact hlt
   obtain ⟨g, off, rfl, hg, hc⟩ := hcell k hkp
   obtain ⟨s, hs0, hsz, hsv⟩ := str_of xs[k]
   rw [hsv] at hc
   have hxk := hk _ (List.getElem_mem hkp)
   rw [← hsz] at hxk
   by_cases hb : 100 < (s.size : Int)
   ·have H0 : Hid (fewN xs = false) := qH0 (decide_eq_false (fun h => by have := h.2 _ (List.getElem_mem hkp); omega))
    clear hs0 hsz hsv hk
    go_wp2
    go_ret
    exact ⟨by rw [H0.out]; rfl, rfl⟩
   ·have HC2 : Hid (∀ x ∈ xs.take (k + 1), x.length ≤ 100) := qH0 (by
     intro x hx; rw [List.take_succ_eq_append_getElem hkp] at hx
     rcases List.mem_append.1 hx with h | h
     ·exact HC.out x h
     ·obtain rfl := List.mem_singleton.1 h; omega)
    clear hs0 hsz hsv hk
    go_wp2
    go_roundw
    case rel => exact ⟨k + 1, by go_num, by omega, HC2, trivial⟩
    case measure => simp [intOf]; omega
  ·obtain rfl : k = n := by omega
   have H0 : Hid (fewN xs = true) := qH0 (decide_eq_true ⟨by have := HN.out; omega, by have h := HC.out; rw [List.take_of_length_le (by rw [HN.out]; exact qN0)] at h; exact h⟩)
   clear hk
   go_wp2
   go_ret
   exact ⟨by rw [H0.out]; rfl, rfl⟩
theorem qif (v : Value) (xs : Nm) (w : World) (hA : StrsAt w v xs) (hk : NmOK xs) :
 Calls Tryz.prog 141 #[v] w fun e w' => e = .returned (.string ⟨(textN xs).toArray⟩) ∧ Below w.heap.size w w' := by
 obtain ⟨a, c, rfl, _⟩ := id hA
 have hl := hk.1
 by_cases h0 : xs = []
 ·have ht : textN xs = [46] := by unfold textN; rw [if_pos h0]
  have h00 : xs.length = 0 := by rw [h0]; rfl
  rw [ht, h00]
  clear h0 ht
  go_enter Tryz.func141, Tryz.ntmps141
  go_wp2
  go_ret
  exact ⟨rfl, qL0⟩
 have HT := qH0 (qij h0)
 obtain ⟨n, hn⟩ : ∃ n, xs.length = n := ⟨_, rfl⟩
 have hne : ((n : Int) == 0) = false := by
  have : xs.length ≠ 0 := fun e => h0 (List.eq_nil_of_length_eq_zero e)
  simp; omega
 have hcell := fun W' (hb : Below w.heap.size w W') j hj => hA.cell hb j hj
 rw [hn] at hl ⊢
 have HN := qH0 hn
 clear hA hn h0
 go_enter Tryz.func141, Tryz.ntmps141
 go_wp2
 go_loopw [3, 4] (fun u i wr => ∃ (k : Nat) (T : List UInt8), i = .int .i64 k ∧ k ≤ n ∧ u = .string ⟨T.toArray⟩ ∧ T.length ≤ k * 4194305 ∧ Below w.heap.size w wr ∧ Hid (textF (xs.take k) = T)) (fun _ i _ => n - (intOf i).toNat)
 case atStart => exact ⟨0, [], rfl, Nat.zero_le _, rfl, Nat.zero_le _, qL0, qH0 rfl⟩
 case round =>
  obtain ⟨k, T, rfl, hkn, rfl, hTl, hB, HF⟩ := hrel
  by_cases hlt : k < n
  ·have hkp : k < xs.length := by rw [HN.out]; exact hlt
   obtain ⟨g, off, rfl, hg, hc⟩ := hcell wr hB k hkp
   obtain ⟨s, hs0, hsz, hsv⟩ := str_of xs[k]
   rw [hsv] at hc
   have hxk := hk.get k hkp
   have hFd := fun W => qho s W (by omega)
   rw [hs0] at hFd
   have htl := qcd xs[k]
   have hr : textF (xs.take (k + 1)) = T ++ textL xs[k] ++ [46] := by rw [List.take_succ_eq_append_getElem hkp, qfk, HF.out]
   have HR := qH0 hr
   clear hs0 hsz hsv hr
   generalize textL xs[k] = y at *
   have hT2 : (T ++ y ++ [46]).length ≤ (k + 1) * 4194305 := by simp; omega
   have a1 := fun W => run_string_add_sum (P := Tryz.prog) W ⟨T.toArray⟩ ⟨y.toArray⟩ (by rw [qeD, qeD]; omega)
   rw [qbR] at a1
   have a2 := fun W => run_string_add_sum (P := Tryz.prog) W ⟨(T ++ y).toArray⟩ ⟨#[46]⟩ (by rw [qeD]; show _ + 1 ≤ _; simp; omega)
   have e2 : (⟨(T ++ y).toArray⟩ : ByteArray) ++ ⟨#[46]⟩ = ⟨(T ++ y ++ [46]).toArray⟩ := qbR (T ++ y) [46]
   rw [e2] at a2
   have HT2 := qH0 hT2
   clear e2 htl hxk hT2
   have hBz := hB.size
   generalize hZ : T ++ y ++ [46] = Z at *
   generalize hY : T ++ y = Y at *
   clear hZ hY
   go_wp2_with (go_at_call 175; refine (hFd _).mono ?_; rintro e w2 ⟨rfl, hb2⟩; have hB2 := hB.trans (hb2.mono hBz))
   go_roundw
   case rel => exact ⟨k + 1, Z, by go_num, by omega, rfl, HT2.out, hB2, HR⟩
   case measure => simp [intOf]; omega
  ·obtain rfl : k = n := by omega
   have hr : textN xs = T := by rw [HT.out, ← HF.out, List.take_of_length_le (by rw [HN.out]; exact qN0)]
   have HR := qH0 hr; clear hr
   go_wp2
   go_ret
   exact ⟨by rw [HR.out]; rfl, hB⟩
def goodN (xs : Nm) : Bool := fewN xs && decide (checkN xs = 0)
theorem qkp (v : Value) (xs : Nm) (w : World) (hA : StrsAt w v xs) (hm : xs.length ≤ maxLen) (hk : ∀ x ∈ xs, x.length ≤ maxLen) :
 Calls Tryz.prog 27 #[v] w fun e w' => e = .returned (.bool (goodN xs)) ∧ w' = w := by
 have hF := qfi v xs w hA hm hk
 obtain ⟨a, c, rfl, _⟩ := id hA
 by_cases hf : fewN xs = true
 ·have hC := qbJ _ xs w hA (qbU hf)
  have hg : goodN xs = decide (checkN xs = 0) := by unfold goodN; rw [hf, Bool.true_and]
  rw [hf] at hF
  have HG := qH0 hg
  clear hg hf hm hk hA
  generalize checkN xs = q at *
  go_enter Tryz.func27, Tryz.ntmps27
  go_wp2_with (first | (go_at_call 13; refine hF.mono ?_; rintro e w2 ⟨rfl, rfl⟩) | (go_at_call 68; refine hC.mono ?_; rintro e w3 ⟨rfl, rfl⟩))
  go_ret
  refine ⟨?_, rfl⟩
  rw [HG.out]
  show Ending.returned (.bool (q == 0)) = _
  rw [show (q == 0) = decide (q = 0) from rfl]
 ·have hf0 : fewN xs = false := by simpa using hf
  have hg : goodN xs = false := by unfold goodN; rw [hf0, Bool.false_and]
  rw [hf0] at hF
  have HG := qH0 hg
  clear hg hf hf0 hm hk hA
  go_enter Tryz.func27, Tryz.ntmps27
  go_wp2_with (go_at_call 13; refine hF.mono ?_; rintro e w2 ⟨rfl, rfl⟩)
  go_ret
  exact ⟨by rw [HG.out]; rfl, rfl⟩
theorem keepS2 {n : Nat} {w W W' : World} {p q : Addr} {u v : Value} (h : W.cell? p = some u ∧ W.cell? q = some v ∧ Below n w W) (hb : Below W.heap.size W W') (hp : p.block < n) (hq : q.block < n) (hn : n ≤ w.heap.size) :
 W'.cell? p = some u ∧ W'.cell? q = some v ∧ Below n w W' := by
 have hz := h.2.2.size
 exact ⟨(hb.cell (by omega)).trans h.1, (hb.cell (by omega)).trans h.2.1, h.2.2.trans (hb.mono (by omega))⟩
theorem nm_nil (W : World) : NmAt W (.slice none 0 0) [] := ⟨⟨_, _, rfl, .inl rfl⟩, SlOK.nil⟩
theorem qfV (l : List UInt8) : (foldL l).length = l.length := by simp [foldL]
theorem qhz (v u : Value) (xs ys : Nm) (w : World) (hA : StrsAt w v xs) (hU : StrsAt w u ys) (hk : NmOK xs) (hk2 : NmOK ys) :
 Calls Tryz.prog 55 #[v, u] w fun e w' => e = .returned (.bool (sameN xs ys)) ∧ Below w.heap.size w w' := by
 obtain ⟨a, c, rfl, _⟩ := id hA
 obtain ⟨a2, c2, rfl, _⟩ := id hU
 have hm := hk.1
 by_cases hne : ((xs.length : Int) != (ys.length : Int)) = true
 ·have H0 : Hid (sameN xs ys = false) := qH0 (qgO (by intro e; rw [e] at hne; simp at hne))
  go_enter Tryz.func55, Tryz.ntmps55
  go_wp2
  go_ret
  exact ⟨by rw [H0.out]; rfl, qL0⟩
 have hlen : ((xs.length : Int) != (ys.length : Int)) = false := by simpa using hne
 have hel : xs.length = ys.length := by simp at hlen; omega
 have hcell := fun W' (hb : Below w.heap.size w W') j hj => hA.cell hb j hj
 have hcell2 := fun W' (hb : Below w.heap.size w W') j hj => hU.cell hb j hj
 obtain ⟨n, hn⟩ : ∃ n, xs.length = n := ⟨_, rfl⟩
 have hn2 : ys.length = n := by omega
 rw [hn] at hm ⊢
 rw [hn2]
 have HN := qH0 hn; have HN2 := qH0 hn2
 clear hA hU hel hne hlen hn hn2
 have hnn : ((n : Int) != (n : Int)) = false := by simp
 go_enter Tryz.func55, Tryz.ntmps55
 go_wp2
 go_loopw [5] (fun i wr => ∃ k : Nat, i = .int .i64 k ∧ k ≤ n ∧ Hid (foldN (xs.take k) = foldN (ys.take k)) ∧ Below w.heap.size w wr) (fun i _ => n - (intOf i).toNat)
 case atStart => exact ⟨0, rfl, Nat.zero_le _, qH0 rfl, qL0⟩
 case round =>
  obtain ⟨k, rfl, hkn, HC, hB⟩ := hrel
  by_cases hlt : k < n
  ·have hkp : k < xs.length := by rw [HN.out]; exact hlt
   have hkq : k < ys.length := by rw [HN2.out]; exact hlt
   obtain ⟨g, off, rfl, hg, hc⟩ := hcell wr hB k hkp
   obtain ⟨g2, off2, rfl, hg2, hc2⟩ := hcell2 wr hB k hkq
   obtain ⟨s, hs0, hsz, hsv⟩ := str_of xs[k]
   obtain ⟨t, ht0, htz, htv⟩ := str_of ys[k]
   rw [hsv] at hc
   rw [htv] at hc2
   have h1 := hk.get k hkp
   have h2 := hk2.get k hkq
   have hF1 := fun W => qbG s W (by omega)
   have hF2 := fun W => qbG t W (by omega)
   have hz1 : (foldL xs[k]).length ≤ 1048576 := by rw [qfV]; omega
   have hz2 : (foldL ys[k]).length ≤ 1048576 := by rw [qfV]; omega
   have hBz := hB.size
   have hS0 : wr.cell? ⟨g, off + k, none⟩ = some (.string s) ∧ wr.cell? ⟨g2, off2 + k, none⟩ = some (.string t) ∧ Below w.heap.size w wr := ⟨hc, hc2, hB⟩
   have hkn1 : (0 : Int) ≤ (k : Int) := by omega
   have hkn2 : (k : Int) < (n : Int) := by omega
   rw [hs0] at hF1; rw [ht0] at hF2
   by_cases hq : foldL xs[k] = foldL ys[k]
   ·have HC2 : Hid (foldN (xs.take (k + 1)) = foldN (ys.take (k + 1))) := qH0 (by
     rw [List.take_succ_eq_append_getElem hkp, List.take_succ_eq_append_getElem hkq, qfQ, qfQ, HC.out, hq])
    clear hs0 hsz hsv ht0 htz htv h1 h2 hcell hcell2 hk hk2 hc hc2 hB
    rw [hq] at hF1
    clear hq hz1
    generalize (⟨(foldL ys[k]).toArray⟩ : ByteArray) = q at *
    have KS := qH0 (fun (W W' : World) (h : W.cell? ⟨g, off + k, none⟩ = some (.string s) ∧ W.cell? ⟨g2, off2 + k, none⟩ = some (.string t) ∧ Below w.heap.size w W) (hb : Below W.heap.size W W') => keepS2 h hb hg hg2 (qN0))
    go_wp2
    go_region_held3 (fun W' => W'.cell? ⟨g, off + k, none⟩ = some (.string s) ∧ W'.cell? ⟨g2, off2 + k, none⟩ = some (.string t) ∧ Below w.heap.size w W') (first | assumption | exact ⟨hS0.1, hS0.2.1, qaz hS0.2.2 _⟩ | exact ⟨hS0.1, hS0.2.1, qaz hS0.2.2 1⟩) (first | ((with_reducible refine (hF1 _).mono ?_); rintro e w2 ⟨rfl, hb2⟩; have hS2 := KS.out _ _ (by assumption) hb2) | ((with_reducible refine (hF2 _).mono ?_); rintro e w2 ⟨rfl, hb2⟩; have hS2 := KS.out _ _ (by assumption) hb2))
    all_goals
     go_wp2
     go_roundw
     case rel => exact ⟨k + 1, by go_num, by omega, HC2, hS2.2.2⟩
     case measure => simp [intOf]; omega
   ·have H0 : Hid (sameN xs ys = false) := qH0 (by
     cases h : sameN xs ys with
     | false => rfl
     | true =>
      exfalso; apply hq
      have e := congrArg (fun l : Nm => l[k]?) ((qaw xs ys).1 h)
      simpa [foldN, hkp, hkq] using e)
    have hqq : ((⟨(foldL xs[k]).toArray⟩ : ByteArray).toList == (⟨(foldL ys[k]).toArray⟩ : ByteArray).toList) = false := by
     rw [qa4, qa4]; simpa using hq
    clear hs0 hsz hsv ht0 htz htv h1 h2 hcell hcell2 hk hk2 hc hc2 hB hz1 hz2 hq
    generalize (⟨(foldL xs[k]).toArray⟩ : ByteArray) = p at *
    generalize (⟨(foldL ys[k]).toArray⟩ : ByteArray) = q at *
    have KS := qH0 (fun (W W' : World) (h : W.cell? ⟨g, off + k, none⟩ = some (.string s) ∧ W.cell? ⟨g2, off2 + k, none⟩ = some (.string t) ∧ Below w.heap.size w W) (hb : Below W.heap.size W W') => keepS2 h hb hg hg2 (qN0))
    go_wp2
    go_region_held3 (fun W' => W'.cell? ⟨g, off + k, none⟩ = some (.string s) ∧ W'.cell? ⟨g2, off2 + k, none⟩ = some (.string t) ∧ Below w.heap.size w W') (first | assumption | exact ⟨hS0.1, hS0.2.1, qaz hS0.2.2 _⟩ | exact ⟨hS0.1, hS0.2.1, qaz hS0.2.2 1⟩) (first | ((with_reducible refine (hF1 _).mono ?_); rintro e w2 ⟨rfl, hb2⟩; have hS2 := KS.out _ _ (by assumption) hb2) | ((with_reducible refine (hF2 _).mono ?_); rintro e w2 ⟨rfl, hb2⟩; have hS2 := KS.out _ _ (by assumption) hb2))
    all_goals
     go_wp2
     go_ret
     exact ⟨by rw [H0.out]; rfl, hS2.2.2⟩
  ·obtain rfl : k = n := by omega
   have H0 : Hid (sameN xs ys = true) := qH0 ((qaw _ _).2 (by
    have h := HC.out
    rwa [List.take_of_length_le (by rw [HN.out]; exact qN0), List.take_of_length_le (by rw [HN2.out]; exact qN0)] at h))
   go_wp2
   go_ret
   exact ⟨by rw [H0.out]; rfl, hB⟩
end Go.Proofs.YtckammgnmgkieaaGreat
