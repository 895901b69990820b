import Derived.IntWalk
import Derived.Test.YtckammgnmgkieaaGreatMQ11
namespace Go.Proofs.YtckammgnmgkieaaGreat
set_option maxRecDepth 20000
set_option maxHeartbeats 8000000
open Go.RowKit Go.Shelf
theorem qlJ {W : World} {a : Option Addr} {n c c' : Nat} {xs : Nm} (h : StrsAt W (.slice a n c) xs) : StrsAt W (.slice a n c') xs := by
 obtain ⟨a1, c1, e, hx⟩ := h
 cases e
 exact ⟨_, _, rfl, hx⟩
theorem qmM {W : World} {a : Option Addr} {c d : Nat} {xs : Nm} (h : NmAt W (.slice a xs.length c) xs) (hd : d ≤ xs.length) :
 (a = none ∧ xs = [] ∧ d = 0 ∧ c = 0) ∨ (∃ ad, a = some ad ∧ xs = [] ∧ d = 0) ∨ ∃ g off, a = some ⟨g, off, none⟩ ∧ NmAt W (.slice (if c = d then some ⟨g, off, none⟩ else some ⟨g, off + d, none⟩) (xs.length - d) (c - d)) (xs.drop d) := by
 obtain ⟨hA, a', n', c', e, hcap, hno⟩ := h
 cases e
 cases a with
 | none =>
  have h0 := hno rfl
  subst h0
  have hx : xs = [] := List.eq_nil_of_length_eq_zero (by omega)
  subst hx
  exact .inl ⟨rfl, rfl, by simpa using hd, rfl⟩
 | some ad =>
  by_cases hx : xs = []
  ·subst hx; exact .inr (.inl ⟨ad, rfl, rfl, by simpa using hd⟩)
  ·right; right
   obtain ⟨a1, c1, e1, h1⟩ := id hA
   cases e1
   rcases h1 with e | ⟨g, off, e, hg, hc⟩
   ·exact absurd e hx
   ·cases e
    exact ⟨g, off, rfl, qcq hA hcap d hd _, qi9 hcap⟩
theorem qg0 (v u : Value) (xs zs : Nm) (w : World) (hA : NmAt w v xs) (hU : StrsAt w u zs) (hk : NmOK xs) (hk2 : NmOK zs) :
 Calls Tryz.prog 73 #[v, u] w fun e w' => e = .returned (.bool (underN xs zs)) ∧ Below w.heap.size w w' := by
 obtain ⟨a, c, rfl, _⟩ := id hA.1
 obtain ⟨a2, c2, rfl, _⟩ := id hU
 have hl := hk.1; have hl2 := hk2.1
 have hcap : xs.length ≤ c := by obtain ⟨_, _, _, e, h, _⟩ := hA.2; cases e; exact h
 by_cases hlt : xs.length < zs.length
 ·have H0 : Hid (underN xs zs = false) := qH0 (qet hlt)
  go_enter Tryz.func73, Tryz.ntmps73
  go_wp2
  go_ret
  exact ⟨by rw [H0.out]; rfl, qL0⟩
 ·have hS := fun v1 (h : StrsAt w v1 (xs.drop (xs.length - zs.length))) => qhz v1 (.slice a2 zs.length c2) (xs.drop (xs.length - zs.length)) zs w h hU ⟨by simp; omega, fun x hx => hk.2 x (List.mem_of_mem_drop hx)⟩ hk2
  have hu : underN xs zs = sameN (xs.drop (xs.length - zs.length)) zs := by
   unfold underN; rw [decide_eq_true (by omega), Bool.true_and]
  rw [← hu] at hS
  have hge : zs.length ≤ xs.length := by omega
  clear hu
  generalize underN xs zs = b at *
  rcases qmM hA (d := xs.length - zs.length) (by omega) with ⟨rfl, rfl, hd, rfl⟩ | ⟨ad, rfl, rfl, hd⟩ | ⟨g, off, rfl, hD⟩
  ·obtain rfl : zs = [] := List.eq_nil_of_length_eq_zero (by simp at hge; simp [hge])
   have hS1 := hS (.slice none 0 0) (by rw [List.drop_nil]; exact ⟨_, _, rfl, .inl rfl⟩)
   clear hS hd hA hU
   simp only [List.length_nil] at hS1
   go_enter Tryz.func73, Tryz.ntmps73
   go_wp2_with (go_at_call 55; refine hS1.mono ?_; rintro e w2 ⟨rfl, hb2⟩)
   go_ret
   exact ⟨rfl, hb2⟩
  ·obtain rfl : zs = [] := List.eq_nil_of_length_eq_zero (by simp at hge; simp [hge])
   have hS1 := fun a' c' => hS (.slice a' 0 c') (by rw [List.drop_nil]; exact ⟨_, _, rfl, .inl rfl⟩)
   clear hS hd hA hU
   simp only [List.length_nil] at hS1
   go_enter Tryz.func73, Tryz.ntmps73
   go_wp2_with (go_at_call 55; (with_reducible refine (hS1 _ _).mono ?_); rintro e w2 ⟨rfl, hb2⟩)
   all_goals go_ret
   all_goals exact ⟨rfl, hb2⟩
  ·have hS1 := fun c' => hS _ (qlJ (c' := c') hD.1)
   clear hS hA hU hD
   by_cases hcd : c = xs.length - zs.length
   ·rw [if_pos hcd] at hS1
    go_enter Tryz.func73, Tryz.ntmps73
    go_wp2_with (go_at_call 55; (with_reducible refine (hS1 _).mono ?_); rintro e w2 ⟨rfl, hb2⟩)
    all_goals go_ret
    all_goals exact ⟨rfl, hb2⟩
   ·rw [if_neg hcd] at hS1
    go_enter Tryz.func73, Tryz.ntmps73
    go_wp2_with (go_at_call 55; (with_reducible refine (hS1 _).mono ?_); rintro e w2 ⟨rfl, hb2⟩)
    all_goals go_ret
    all_goals exact ⟨rfl, hb2⟩
theorem qhW {xs : Nm} {k p : Nat} (h : xs.length = p + k + 1) (hp : p < xs.length) : xs.reverse.drop k = xs[p] :: xs.reverse.drop (k + 1) := by
 rw [List.drop_eq_getElem_cons (by simp; omega)]
 congr 1
 simp only [List.getElem_reverse]
 congr 1; omega
theorem qlA (p q : Nm) (h : p = [] ∨ q = []) : cmpR p q = cmpI ((p.length : Int) - q.length) 0 := by
 cases p with
 | nil =>
  cases q with
  | nil => rfl
  | cons y t => simp only [cmpR]; unfold cmpI; rw [if_pos (by simp only [List.length_nil, List.length_cons]; omega)]
 | cons x r =>
  cases q with
  | nil => simp only [cmpR]; unfold cmpI; rw [if_neg (by simp only [List.length_nil, List.length_cons]; omega), if_pos (by simp only [List.length_nil, List.length_cons]; omega)]
  | cons y t => rcases h with h | h <;> cases h
theorem qeZ (v u : Value) (xs ys : Nm) (w : World) (hA : StrsAt w v xs) (hU : StrsAt w u ys) (hk : NmOK xs) (hk2 : NmOK ys) :
 Calls Tryz.prog 155 #[v, u] w fun e w' => e = .returned (.int .i64 (qai xs ys)) ∧ Below w.heap.size w w' := by
 obtain ⟨a, c, rfl, _⟩ := id hA
 obtain ⟨a2, c2, rfl, _⟩ := id hU
 have hm := hk.1
 have hm2 := hk2.1
 have hcell := fun W' (hb : Below w.heap.size w W') j hj => hA.cell hb j hj
 have hcell2 := fun W' (hb : Below w.heap.size w W') j hj => hU.cell hb j hj
 have hSg := fun (d : Int) W => qhJ d W
 have hE := qH0 (show qai xs ys = cmpR (xs.reverse.drop 0) (ys.reverse.drop 0) from rfl)
 generalize qai xs ys = r at *
 obtain ⟨n, hn⟩ : ∃ n, xs.length = n := ⟨_, rfl⟩
 obtain ⟨m, hn2⟩ : ∃ m, ys.length = m := ⟨_, rfl⟩
 rw [hn] at hm ⊢
 rw [hn2] at hm2 ⊢
 have HN := qH0 hn; have HN2 := qH0 hn2
 clear hA hU hn hn2
 go_enter Tryz.func155, Tryz.ntmps155
 go_wp2
 go_loopw [5] (fun i wr => ∃ k : Nat, i = .int .i64 ((k : Int) + 1) ∧ k ≤ n ∧ k ≤ m ∧ Hid (r = cmpR (xs.reverse.drop k) (ys.reverse.drop k)) ∧ Below w.heap.size w wr) (fun i _ => n + 1 - (intOf i).toNat)
 case atStart => exact ⟨0, rfl, Nat.zero_le _, Nat.zero_le _, hE, qL0⟩
 case round =>
  obtain ⟨k, rfl, hkn, hkm, HC, hB⟩ := hrel
  by_cases hlt : k < n ∧ k < m
  ·obtain ⟨h1, h2⟩ := hlt
   obtain ⟨p, hp⟩ : ∃ p, n = p + k + 1 := ⟨n - k - 1, by omega⟩
   obtain ⟨q, hq⟩ : ∃ q, m = q + k + 1 := ⟨m - k - 1, by omega⟩
   have hkp : p < xs.length := by rw [HN.out]; omega
   have hkq : q < ys.length := by rw [HN2.out]; omega
   obtain ⟨g, off, rfl, hg, hc⟩ := hcell wr hB p hkp
   obtain ⟨g2, off2, rfl, hg2, hc2⟩ := hcell2 wr hB q hkq
   obtain ⟨s, hs0, hsz, hsv⟩ := str_of xs[p]
   obtain ⟨t, ht0, htz, htv⟩ := str_of ys[q]
   rw [hsv] at hc
   rw [htv] at hc2
   have hs1 := hk.get p hkp
   have ht1 := hk2.get q hkq
   have hF := fun W => qe9 s t W (by omega) (by omega)
   have hBz := hB.size
   have hS0 : wr.cell? ⟨g, off + p, none⟩ = some (.string s) ∧ wr.cell? ⟨g2, off2 + q, none⟩ = some (.string t) ∧ Below w.heap.size w wr := ⟨hc, hc2, hB⟩
   have hr : Hid (r = if qad xs[p] ys[q] = 0 then cmpR (xs.reverse.drop (k + 1)) (ys.reverse.drop (k + 1)) else qad xs[p] ys[q]) := qH0 (by
    rw [HC.out, qhW (p := p) (by rw [HN.out]; exact hp) hkp, qhW (p := q) (by rw [HN2.out]; exact hq) hkq]; rfl)
   rw [hs0, ht0] at hF
   clear hs0 hsz hsv ht0 htz htv hs1 ht1 hcell hcell2 hk hk2 hc hc2 hB HC
   generalize qad xs[p] ys[q] = x at *
   have w1 : IntKind.i64.wrap ((n : Int) - ((k : Int) + 1)) = (p : Int) := by rw [IntWalk.i64_in _ (by omega)]; omega
   have w2 : IntKind.i64.wrap ((m : Int) - ((k : Int) + 1)) = (q : Int) := by rw [IntWalk.i64_in _ (by omega)]; omega
   have p0 : (0 : Int) ≤ (p : Int) := by omega
   have p1 : (p : Int) < (n : Int) := by omega
   have q0 : (0 : Int) ≤ (q : Int) := by omega
   have q1 : (q : Int) < (m : Int) := by omega
   have HP := qH0 hp; have HQ := qH0 hq
   have W1 := qH0 w1; have W2 := qH0 w2
   clear hp hq w1 w2
   have KS := qH0 (fun (W W' : World) (h : W.cell? ⟨g, off + p, none⟩ = some (.string s) ∧ W.cell? ⟨g2, off2 + q, none⟩ = some (.string t) ∧ Below w.heap.size w W) (hb : Below W.heap.size W W') => keepS2 h hb hg hg2 (qN0))
   by_cases hx : (x != 0) = true
   ·go_wp2
    have e1 := W1.out; have e2 := W2.out
    go_region_held3 (fun W' => W'.cell? ⟨g, off + p, none⟩ = some (.string s) ∧ W'.cell? ⟨g2, off2 + q, none⟩ = some (.string t) ∧ Below w.heap.size w W') (first | assumption | exact ⟨hS0.1, hS0.2.1, qaz hS0.2.2 1⟩) (first | ((with_reducible refine (hF _).mono ?_); rintro e w2 ⟨rfl, hb2⟩; have hS2 := KS.out _ _ (by assumption) hb2))
    clear e1 e2
    have HR : Hid (r = x) := qH0 (by rw [hr.out, if_neg (by simpa using hx)])
    go_wp2
    go_ret
    exact ⟨by rw [HR.out]; rfl, hS2.2.2⟩
   ·have hx0 : (x != 0) = false := by simpa using hx
    have HR : Hid (r = cmpR (xs.reverse.drop (k + 1)) (ys.reverse.drop (k + 1))) := qH0 (by rw [hr.out, if_pos (by simpa using hx0)])
    clear hx hr
    go_wp2
    have e1 := W1.out; have e2 := W2.out
    go_region_held3 (fun W' => W'.cell? ⟨g, off + p, none⟩ = some (.string s) ∧ W'.cell? ⟨g2, off2 + q, none⟩ = some (.string t) ∧ Below w.heap.size w W') (first | assumption | exact ⟨hS0.1, hS0.2.1, qaz hS0.2.2 1⟩) (first | ((with_reducible refine (hF _).mono ?_); rintro e w2 ⟨rfl, hb2⟩; have hS2 := KS.out _ _ (by assumption) hb2))
    clear e1 e2
    go_wp2
    go_roundw
    case rel => exact ⟨k + 1, by go_num, by omega, by omega, HR, hS2.2.2⟩
    case measure => simp [intOf]; omega
  ·have hd : Hid (r = cmpI ((n : Int) - m) 0) := qH0 (by
    have hl : (xs.reverse.drop k).length = n - k := by have := HN.out; simp; omega
    have hl2 : (ys.reverse.drop k).length = m - k := by have := HN2.out; simp; omega
    rw [HC.out, qlA _ _ (by
     by_cases e : k < n
     ·right; exact List.eq_nil_of_length_eq_zero (by omega)
     ·left; exact List.eq_nil_of_length_eq_zero (by omega)), hl, hl2]
    congr 1; omega)
   have hb : (n : Int) < (k : Int) + 1 ∨ ((k : Int) + 1 ≤ n ∧ (m : Int) < (k : Int) + 1) := by omega
   rcases hb with hb | ⟨hb1, hb⟩
   all_goals
    go_wp2_with (go_at_call 186; refine (hSg _ _).mono ?_; rintro e w2 ⟨rfl, rfl⟩)
    go_ret
    exact ⟨by rw [hd.out]; rfl, hB⟩
theorem qmI (a : Int) (w : World) : Calls Tryz.prog 204 #[.int .u32 a] w fun e w' => e = .returned (.bool false) ∧ w = w' := by
 go_enter Tryz.func204, Tryz.ntmps204
 go_wp2
 go_ret
 exact ⟨qbs (by simp), rfl⟩
theorem qmQ (a b : Int) (w : World) : Calls Tryz.prog 180 #[.int .u32 a, .int .u32 b] w fun e w' => e = .returned (.int .i64 (cmpI a b)) ∧ w = w' := by
 go_enter Tryz.func180, Tryz.ntmps180
 go_wp2_with (go_at_call 204; refine (qmI _ _).mono ?_; rintro e w' ⟨rfl, rfl⟩)
 all_goals go_ret
 all_goals refine ⟨qaE ?_, rfl⟩
 ·have h : a < b := by assumption
  show -1 = _; rw [cmpI, if_pos h]
 ·have h : b ≤ a := by assumption
  have h2 : b < a := by assumption
  show 1 = _; rw [cmpI, if_neg (by omega), if_pos h2]
 ·have h : b ≤ a := by assumption
  have h2 : a ≤ b := by assumption
  show 0 = _; rw [cmpI, if_neg (by omega), if_neg (by omega)]
theorem qgk (a : ByteArray) (w : World) : Calls Tryz.prog 206 #[.string a] w fun e w' => e = .returned (.bool false) ∧ w = w' := by
 go_enter Tryz.func206, Tryz.ntmps206
 go_wp2
 go_ret
 exact ⟨qbs (by simp), rfl⟩
theorem qmO (a b : ByteArray) (w : World) : Calls Tryz.prog 182 #[.string a, .string b] w fun e w' => e = .returned (.int .i64 (orderM a.data.toList b.data.toList)) ∧ w = w' := by
 have hA := qa4 a
 have hB := qa4 b
 have HA := qH0 hA; have HB := qH0 hB; clear hA hB
 cases h1 : Op.bytesLess a.toList b.toList with
 | true =>
  have r : orderM a.data.toList b.data.toList = -1 := by unfold orderM; rw [← HA.out, ← HB.out, if_pos h1]
  have R := qH0 r; clear r
  go_enter Tryz.func182, Tryz.ntmps182
  go_wp2_with (go_at_call 206; refine (qgk _ _).mono ?_; rintro e w' ⟨rfl, rfl⟩)
  go_ret
  exact ⟨qaE R.out.symm, rfl⟩
 | false =>
  have h1n : ¬ Op.bytesLess a.toList b.toList = true := by rw [h1]; simp
  by_cases h2 : (a.toList == b.toList) = true
  ·have r : orderM a.data.toList b.data.toList = 0 := by unfold orderM; rw [← HA.out, ← HB.out, if_neg h1n, if_pos (by simpa using h2)]
   have R := qH0 r; clear r h1n
   go_enter Tryz.func182, Tryz.ntmps182
   go_wp2_with (go_at_call 206; refine (qgk _ _).mono ?_; rintro e w' ⟨rfl, rfl⟩)
   go_ret
   exact ⟨qaE R.out.symm, rfl⟩
  ·have h2f : (a.toList == b.toList) = false := by simpa using h2
   have r : orderM a.data.toList b.data.toList = 1 := by unfold orderM; rw [← HA.out, ← HB.out, if_neg h1n, if_neg (by simpa using h2)]
   have R := qH0 r; clear r h1n h2
   go_enter Tryz.func182, Tryz.ntmps182
   go_wp2_with (go_at_call 206; refine (qgk _ _).mono ?_; rintro e w' ⟨rfl, rfl⟩)
   go_ret
   exact ⟨qaE R.out.symm, rfl⟩
def qbP : List Int → Int
 | [] => 0
 | x :: r => if x = 0 then qbP r else x
theorem qic (l : List Int) (k : Nat) (h : k < l.length) : qbP (l.drop k) = if l[k] = 0 then qbP (l.drop (k + 1)) else l[k] := by
 rw [List.drop_eq_getElem_cons h]; rfl
theorem cmp_Or (g c : Nat) (l : List Int) (w : World) (hm : l.length ≤ 1048576) (hc : ∀ j (h : j < l.length), w.cell? ⟨g, j, none⟩ = some (.int .i64 l[j])) :
 Calls Tryz.prog 128 #[.slice (some ⟨g, 0, none⟩) l.length c] w fun e w' => e = .returned (.int .i64 (qbP l)) ∧ w = w' := by
 have HC := qH0 hc; clear hc
 go_enter Tryz.func128, Tryz.ntmps128
 go_wp2
 go_loopw [8] (fun i wr => ∃ k : Nat, i = .int .i64 k ∧ k ≤ l.length ∧ Hid (qbP (l.drop k) = qbP l) ∧ w = wr) (fun i _ => l.length - (intOf i).toNat)
 case atStart => exact ⟨0, rfl, Nat.zero_le _, qH0 rfl, rfl⟩
 case round =>
  obtain ⟨k, rfl, hk, HD, rfl⟩ := hrel
  by_cases hlt : k < l.length
  ·have hcell := HC.out k hlt
   have hst := qic l k hlt
   generalize hx : l[k] = x at *
   have HS := qH0 hst
   clear hst hx
   by_cases h0 : (x != 0) = true
   ·have hn : x ≠ 0 := by simpa using h0
    have HN := qH0 hn; clear hn
    go_wp2
    go_ret
    exact ⟨qaE (by rw [← HD.out, HS.out, if_neg HN.out]), rfl⟩
   ·have hn : (x != 0) = false := by simpa using h0
    have hz : x = 0 := by simpa using hn
    have HZ := qH0 hz; clear hz h0
    go_wp2
    go_roundw
    case rel => exact ⟨k + 1, by go_num, by omega, qH0 (by rw [← HD.out, HS.out, if_pos HZ.out]), trivial⟩
    case measure => simp [intOf]; omega
  ·obtain rfl : k = l.length := by omega
   have HE := qH0 (show qbP l = 0 by rw [← HD.out, List.drop_of_length_le (qN0)]; rfl)
   go_wp2
   go_ret
   exact ⟨qaE HE.out.symm, rfl⟩
end Go.Proofs.YtckammgnmgkieaaGreat
namespace Go.Proofs.YtckammgnmgkieaaGreat
set_option maxRecDepth 100000
set_option maxHeartbeats 4000000
open Go.RowKit Go.Shelf
section
attribute [local go_sem] Oper.semAt_some
theorem qiy (n : Nat) (hn : 1 ≤ n) (l b b2 : Nat) (v u : Value) (xs ys : List Value) (hs : xs.length ≤ maxLen) (hs2 : ys.length ≤ maxLen) (J Jx : List (Fin (min xs.length ys.length)) → World → Prop)
 (hJ : ∀ pre W k, J pre W → J pre (W.drewN k))
 (hY : ∀ pre x W, J pre W → pre.length < min xs.length ys.length → YieldAt Fence.wide (n - 1) Tryz.prog l (pairV xs ys x) W fun e W' =>
   (e = .returned (.bool true) ∧ J (pre ++ [x]) W' ∧ KeepP b b2 v u W W') ∨ (e = .returned (.bool false) ∧ Jx (pre ++ [x]) W'))
 (W : World) (hc : W.cell? ⟨b, 0, none⟩ = some v) (hc2 : W.cell? ⟨b2, 0, none⟩ = some u) (hA : SlAt W v xs) (hU : SlAt W u ys) (h0 : J [] W) :
 CallsIn Fence.wide n Tryz.prog 212 #[.func (.yield l) #[] #[], .pointer (some ⟨b, 0, none⟩), .pointer (some ⟨b2, 0, none⟩)] W fun e W' => (∃ v, e = .returned v) ∧
  ((∃ zs, zs = List.finRange (min xs.length ys.length) ∧ J zs W') ∨ (∃ pre, pre <+: List.finRange (min xs.length ys.length) ∧ Jx pre W')) := by
 unfold maxLen at hs hs2
 obtain ⟨a, c, rfl, hle, hnn, hx⟩ := hA
 obtain ⟨a2, c2, rfl, hle2, hnn2, hx2⟩ := hU
 obtain ⟨m, hm⟩ : ∃ m, min xs.length ys.length = m := ⟨_, rfl⟩
 have hmi : min (xs.length : Int) (ys.length : Int) = (m : Int) := by omega
 have hmx : m ≤ xs.length := by omega
 have hmy : m ≤ ys.length := by omega
 refine callsIn_of_wp Tryz.func212 rfl trivial ?_ rfl
 simp only [Tryz.ntmps212, List.size_toArray, List.length_cons, List.length_nil, Nat.reduceAdd, Nat.reduceSub, Array.replicate_succ, Array.replicate_zero, List.push_toArray, List.append_toArray, List.nil_append, List.cons_append]
 gi_wp2
 gi_loopw [10] (fun i wr => ∃ k : Nat, k ≤ m ∧ i = .int .i64 k ∧ J ((List.finRange (min xs.length ys.length)).take k) wr ∧ KeepP b b2 (.slice a xs.length c) (.slice a2 ys.length c2) W wr)
  (fun i _ => m - (intOf i).toNat)
 case atStart => exact ⟨0, Nat.zero_le _, rfl, h0, KeepP.refl _ _ _ _ _⟩
 case round =>
  obtain ⟨k, hk, rfl, hJs, hnx⟩ := hrel
  by_cases hlt : k < m
  ·have hkx : k < xs.length := by omega
   have hky : k < ys.length := by omega
   rcases hx with e | ⟨g, off, rfl, hg, hcells⟩
   ·subst e; simp at hkx
   rcases hx2 with e | ⟨g2, off2, rfl, hg2, hcells2⟩
   ·subst e; simp at hky
   have hcell : wr.cell? ⟨g, off + k, none⟩ = some xs[k] := ((hnx.1.2 g (qbd hkx)).cell).trans (hcells k hkx)
   have hcell2 : wr.cell? ⟨g2, off2 + k, none⟩ = some ys[k] := ((hnx.2.2 g2 (qbd hky)).cell).trans (hcells2 k hky)
   have hkm : k < min xs.length ys.length := by omega
   have hY1 := fun q => hY _ ⟨k, hkm⟩ (wr.drewN q) (hJ _ _ q hJs) (by simp; omega)
   have hcb : wr.cell? ⟨b, 0, none⟩ = some (.slice (some ⟨g, off, none⟩) xs.length c) := hnx.1.1.cell.trans hc
   have hcb2 : wr.cell? ⟨b2, 0, none⟩ = some (.slice (some ⟨g2, off2, none⟩) ys.length c2) := hnx.2.1.cell.trans hc2
   have htk : (List.finRange (min xs.length ys.length)).take (k + 1) = (List.finRange (min xs.length ys.length)).take k ++ [⟨k, hkm⟩] := qak _
   have HTK := qH0 htk; clear htk
   have HM := qH0 hm
   unfold pairV at hY1
   generalize xs[k] = sv at *
   generalize ys[k] = tv at *
   clear hcells hcells2 hm hmi
   gi_wp2
   refine qbk 9 rfl qae (by kernel_rfl) ?_
   simp only [List.take_succ_cons, List.take_zero, List.drop_succ_cons, List.drop_zero]
   repeat (quiet_step_in (fail))
   refine wpQuietIn_nil ?_
   intro _ hw'
   obtain ⟨nq, hw''⟩ := hw'
   subst hw''
   obtain ⟨fn, tmps, assign, body, hy, hR⟩ := hY1 nq
   clear hY1
   gi_wp2
   refine hR.mono ?_
   rintro e W3 (⟨rfl, hJ3, hk3⟩ | ⟨rfl, hJx3⟩)
   ·gi_wp2
    go_roundw
    case rel => exact ⟨k + 1, by omega, by simp, by rw [HTK.out]; exact hJ3, hnx.trans ((KeepP.drewN _ _).trans hk3)⟩
    case measure => simp [intOf]; omega
   ·gi_wp2
    refine bodyPost_ret (results_none rfl _ _ _) rfl ?_
    exact ⟨⟨_, rfl⟩, .inr ⟨_, by rw [← HTK.out]; exact List.take_prefix _ _, hJx3⟩⟩
  ·obtain rfl : k = m := by omega
   gi_wp2
   go_end0
   exact ⟨⟨_, rfl⟩, .inl ⟨_, by rw [List.take_of_length_le (by simp; omega)], hJs⟩⟩
theorem qhh (n : Nat) (hn : 1 ≤ n) (b b2 : Nat) (v u : Value) (xs ys : List Value) (hs : xs.length ≤ maxLen) (hs2 : ys.length ≤ maxLen) (w : World) (hb : b < w.heap.size) (hb2 : b2 < w.heap.size)
 (hc : w.cell? ⟨b, 0, none⟩ = some v) (hc2 : w.cell? ⟨b2, 0, none⟩ = some u) (hA : SlAt w v xs) (hU : SlAt w u ys) :
 SeqStopsK Fence.wide n Tryz.prog 212 #[.pointer (some ⟨b, 0, none⟩), .pointer (some ⟨b2, 0, none⟩)] (pairV xs ys) (KeepP b b2 v u) (fun zs => zs = List.finRange (min xs.length ys.length)) (fun pre => pre <+: List.finRange (min xs.length ys.length)) (min xs.length ys.length) w := fun l J Jx W hW hJ _ hY h0 =>
 qiy n hn l b b2 v u xs ys hs hs2 J Jx (fun pre W' k h => hJ pre W' _ none h ⟨rfl, rfl, rfl, qN0, fun _ _ _ => rfl⟩ (fun _ e => by cases e)) hY W ((hW.cell (p := ⟨b, 0, none⟩) hb).trans hc) ((hW.cell (p := ⟨b2, 0, none⟩) hb2).trans hc2) (hA.below hW) (hU.below hW) h0
theorem qnd (a a2 : Option Addr) (n n2 c c2 : Nat) (w : World) :
 Calls Tryz.prog 202 #[.slice a n c, .slice a2 n2 c2] w fun e w' => e = .returned (.func (.func 212) #[] #[.pointer (some ⟨w.heap.size, 0, none⟩), .pointer (some ⟨w.heap.size + 1, 0, none⟩)]) ∧ w' = (w.alloc (.cells #[.slice a n c] 42)).alloc (.cells #[.slice a2 n2 c2] 42) := by
 go_enter Tryz.func202, Tryz.ntmps202
 go_wp2
 go_ret
 exact ⟨rfl, rfl⟩
theorem qm0 (v u : Value) (xs ys : List Value) (cs : Nat → Int) (w : World) (hA : SlAt w v xs) (hU : SlAt w u ys) (hs : xs.length ≤ 1048576) (hs2 : ys.length ≤ 1048576)
 (hC : ∀ W, Below w.heap.size w W → ∀ j (h1 : j < xs.length) (h2 : j < ys.length), Calls Tryz.prog 129 #[xs[j], ys[j]] W fun e W' => e = .returned (.int .i64 (cs j)) ∧ Below W.heap.size W W') :
 Calls Tryz.prog 178 #[v, u, .func (.func 129) #[] #[]] w fun e w' => (∃ r, e = .returned (.int .i64 r) ∧ FirstC cs xs.length ys.length r) ∧ Below w.heap.size w w' := by
 obtain ⟨a, c, rfl, _⟩ := id hA
 obtain ⟨a2, c2, rfl, _⟩ := id hU
 refine (callsIn_wide (n := 5)).1 ?_
 refine callsIn_of_wp_marks Tryz.func178 rfl trivial ?_ rfl
 simp only [Tryz.ntmps178, List.size_toArray, List.length_cons, List.length_nil, Nat.reduceAdd, Nat.reduceSub, Array.replicate_succ, Array.replicate_zero, List.push_toArray, List.append_toArray, List.nil_append, List.cons_append]
 gi_wp2_with (refine ⟨trivial, ?_⟩; gi_at_call 202; refine (callsIn_wide.2 (qnd _ _ _ _ _ _ _)).mono ?_; rintro e w' ⟨rfl, rfl⟩)
 obtain ⟨W0, hW0⟩ : ∃ W0, ((((w.alloc (.cells #[.func (.func 129) #[] #[]] 185)).alloc (.cells #[.int .i64 0] 3)).alloc (.cells #[.slice a xs.length c] 42)).alloc (.cells #[.slice a2 ys.length c2] 42)) = W0 := ⟨_, rfl⟩
 have bF : Boxed W0 w.heap.size 185 (.func (.func 129) #[] #[]) := by rw [← hW0]; exact (((Boxed.new w _ _).alloc _).alloc _).alloc _
 have bI : Boxed W0 (w.heap.size + 1) 3 (.int .i64 0) := by
  have := Boxed.new (w.alloc (.cells #[.func (.func 129) #[] #[]] 185)) 3 (.int .i64 0)
  rw [World.size_alloc] at this
  rw [← hW0]; exact (this.alloc _).alloc _
 have bV : Boxed W0 (w.heap.size + 1 + 1) 42 (.slice a xs.length c) := by
  have := Boxed.new ((w.alloc (.cells #[.func (.func 129) #[] #[]] 185)).alloc (.cells #[.int .i64 0] 3)) 42 (.slice a xs.length c)
  rw [World.size_alloc, World.size_alloc] at this
  rw [← hW0]; exact this.alloc _
 have bU : Boxed W0 (w.heap.size + 1 + 1 + 1) 42 (.slice a2 ys.length c2) := by
  have := Boxed.new (((w.alloc (.cells #[.func (.func 129) #[] #[]] 185)).alloc (.cells #[.int .i64 0] 3)).alloc (.cells #[.slice a xs.length c] 42)) 42 (.slice a2 ys.length c2)
  rw [World.size_alloc, World.size_alloc, World.size_alloc] at this
  rw [← hW0]; exact this
 have hsz : W0.heap.size = w.heap.size + 4 := by rw [← hW0]; simp
 have hB0 : Below w.heap.size w W0 := by rw [← hW0]; exact ((((Below.refl _ w).alloc (qN0) _).alloc (by simp) _).alloc (by simp; omega) _).alloc (by simp; omega) _
 have hrow := hA.row_lt
 have hrow2 := hU.row_lt
 rw [hW0]
 have HZ := qH0 hsz; clear hsz hW0
 refine wpIn_rangeFunc_ownG rfl (by omega) (gf := 212) (lb := #[.pointer (some ⟨w.heap.size + 1 + 1, 0, none⟩), .pointer (some ⟨w.heap.size + 1 + 1 + 1, 0, none⟩)]) rfl trivial (enters_of Tryz.func212 (by kernel_rfl) rfl)
  (qhh _ (by omega) (w.heap.size + 1 + 1) (w.heap.size + 1 + 1 + 1) (.slice a xs.length c) (.slice a2 ys.length c2) xs ys (by unfold maxLen; omega) (by unfold maxLen; omega) W0 (by rw [HZ.out]; omega) (by rw [HZ.out]; omega) bV.cell bU.cell (hA.below hB0) (hU.below hB0)) qeG
  (fun W l o o' hl h h1 h2 => ⟨qaU (by rw [HZ.out]; omega) (fun g e => by have := hrow g e; rw [HZ.out]; omega) W l o o' hl h h1 h2, qaU (by rw [HZ.out]; omega) (fun g e => by have := hrow2 g e; rw [HZ.out]; omega) W l o o' hl h h1 h2⟩) (qL0) (fun _ => rfl)
  (fun pre W => Below W0.heap.size W0 W ∧ ∀ j ∈ pre, cs j.val = 0)
  (fun k pre W => k = .ret ∧ Boxed W (w.heap.size + 1) 3 (.int .i64 (lastC cs pre)) ∧ Below w.heap.size w W ∧ ∃ p x, pre = p ++ [x] ∧ (∀ j ∈ p, cs j.val = 0) ∧ cs x.val ≠ 0)
  (OwnFrom.and (ownFrom_below (qN0) (qN0)) (ownFrom_pure _ _))
  (fun _ => OwnFrom.and (ownFrom_pure _ _) (OwnFrom.and (Own.from (boxed_own _ _ _) _) (OwnFrom.and (ownFrom_below (qN0) (by rw [HZ.out]; omega)) (ownFrom_pure _ _))))
  ⟨qL0, by simp⟩
  (fun j => { tmps := #[.slice a xs.length c, .slice a2 ys.length c2, .func (.func 129) #[] #[], undef, undef, .pointer (some ⟨w.heap.size, 0, none⟩), .pointer (some ⟨w.heap.size + 1, 0, none⟩), xs[j.val]'(by have := j.isLt; omega), ys[j.val]'(by have := j.isLt; omega), undef, .slice a xs.length c, .slice a2 ys.length c2, .func (.func 212) #[] #[.pointer (some ⟨w.heap.size + 1 + 1, 0, none⟩), .pointer (some ⟨w.heap.size + 1 + 1 + 1, 0, none⟩)], xs[j.val]'(by have := j.isLt; omega), ys[j.val]'(by have := j.isLt; omega), undef, undef, undef, undef, undef, undef, undef, undef, undef, undef, undef, undef], defers := [] }) ?assign ?body ?done ?stop
 case assign =>
  intro l x W K hK
  unfold pairV
  gi_wp2
  exact hK
 case body =>
  rintro l pre x W ⟨hB, hC0⟩ hlt
  have hxl := x.isLt
  have hx1 : x.val < xs.length := by omega
  have hx2 : x.val < ys.length := by omega
  have hBw : Below w.heap.size w W := hB0.trans (hB.mono (by rw [HZ.out]; omega))
  have hCk := hC W hBw x.val hx1 hx2
  have hFw : Boxed W w.heap.size 185 (.func (.func 129) #[] #[]) := (hB.block _ bF.lt).trans bF
  have hIw : Boxed W (w.heap.size + 1) 3 (.int .i64 0) := (hB.block _ bI.lt).trans bI
  have cF := hFw.cell
  have hsz1 := hB.size
  have hls := qba cs pre x
  generalize xs[x.val] = sv at *
  generalize ys[x.val] = tv at *
  generalize hq : cs x.val = q at *
  have HL := qH0 hls
  have HQ := qH0 hq
  clear hls hq
  by_cases hq0 : (q != 0) = true
  ·have hn : q ≠ 0 := by simpa using hq0
   have HN := qH0 hn; clear hn
   gi_wp2_with (refine ⟨trivial, ?_⟩; gi_at_call 129; refine (CallsIn.inRound l (callsIn_wide.2 hCk)).mono ?_; rintro e w2 ⟨rfl, hb2⟩; have hI2 : Boxed w2 (w.heap.size + 1) 3 (.int .i64 0) := (hb2.block _ hIw.lt).trans hIw; have c2 := hI2.cell; have f2 := hI2.frozen)
   have ko : KeepsOthers W w2 := ⟨hb2.size, fun k o hk _ => (hb2.block k (Array.getElem?_eq_some_iff.1 hk).1).trans hk⟩
   exact ⟨(ko.trans (KeepsOthers.setCell _ _ _)).from _, rfl, by rw [HL.out]; exact hI2.set _, (qB0 hBw hb2).setCell (p := ⟨w.heap.size + 1, 0, none⟩) (by simp) _, pre, x, rfl, hC0, by rw [HQ.out]; exact HN.out⟩
  ·have hn : (q != 0) = false := by simpa using hq0
   have HN := qH0 hn
   clear hq0
   gi_wp2_with (refine ⟨trivial, ?_⟩; gi_at_call 129; refine (CallsIn.inRound l (callsIn_wide.2 hCk)).mono ?_; rintro e w2 ⟨rfl, hb2⟩)
   have ko : KeepsOthers W w2 := ⟨hb2.size, fun k o hk _ => (hb2.block k (Array.getElem?_eq_some_iff.1 hk).1).trans hk⟩
   refine ⟨ko.from _, ⟨KeepN.below hb2 (by have := HZ.out; omega) (fun g e => by have := hrow g e; have := HZ.out; omega), KeepN.below hb2 (by have := HZ.out; omega) (fun g e => by have := hrow2 g e; have := HZ.out; omega)⟩, qB0 hB hb2, ?_⟩
   intro j hj
   rcases List.mem_append.1 hj with hj | hj
   ·exact hC0 j hj
   ·obtain rfl := List.mem_singleton.1 hj
    rw [HQ.out]; simpa using HN.out
 case done =>
  rintro D zs W hD rfl ⟨hB, hC0⟩ hK
  have hIw : Boxed W (w.heap.size + 1) 3 (.int .i64 0) := (hB.block _ bI.lt).trans bI
  have c0 := hIw.cell; have f0 := hIw.frozen
  have hBw : Below w.heap.size w W := hB0.trans (hB.mono (by rw [HZ.out]; omega))
  have hDn : w.heap.size + 1 ≠ D := by have := HZ.out; omega
  have HC0 := qH0 hC0; clear hC0
  gi_wp2_with (refine ⟨trivial, ?_⟩; gi_at_call 130; refine (callsIn_wide.2 (qbA _ _ _)).mono ?_; rintro e w2 ⟨rfl, rfl⟩)
  refine ⟨by simp, .inl ⟨_, _, rfl, run_takeDeferred (qaG hK hDn.symm _), ?_⟩⟩
  refine ⟨_, qau rfl Tryz.underlying3 _ _ rfl (qaA (hIw.set _) hDn _), ⟨_, rfl, .inr ⟨fun j h1 h2 => HC0.out ⟨j, by omega⟩ (List.mem_finRange _), rfl⟩⟩, ?_⟩
  exact qal (hBw.setCell (p := ⟨w.heap.size + 1, 0, none⟩) (by simp) _) (by have := HZ.out; omega) (qN0)
 case stop =>
  rintro D c3 pre W hD hp ⟨rfl, hI, hB, p, x, rfl, hC0, hne⟩ hK
  have hpf := qeL hp
  have hDn : w.heap.size + 1 ≠ D := by have := HZ.out; omega
  rw [qba] at hI
  have hxl := x.isLt
  gi_wp2
  refine ⟨by simp, .inl ⟨_, _, rfl, run_takeDeferred hK, ?_⟩⟩
  refine ⟨_, qau rfl Tryz.underlying3 _ _ rfl (qaA hI hDn _), ⟨_, rfl, .inl ⟨x.val, by omega, by omega, fun j hj => hC0 _ (hpf j hj), hne, rfl⟩⟩, ?_⟩
  exact qal hB (by have := HZ.out; omega) (qN0)
end
end Go.Proofs.YtckammgnmgkieaaGreat
