import Derived.Laws.AppendOwnNone
import Derived.Lib.Walk
import Derived.Lib.SliceRun
import Derived.RegionTactic
import Derived.ChangeAlike
import Derived.Test.YtnpnfajgphpabaaGreatMQ42
namespace Go.Proofs.YtnpnfajgphpabaaGreat
set_option maxRecDepth 20000
set_option maxHeartbeats 2000000
open Go.RowKit Go.Shelf
def SlOK (v : Value) : Prop := ∃ a n c, v = .slice a n c ∧ n ≤ c ∧ (a = none → c = 0)
theorem SlOK.nil : SlOK (.slice none 0 0) := ⟨_, _, _, rfl, qN0, fun _ => rfl⟩
theorem OwnG.slOK {α : Type} {T : TypeId} {enc : α → Value} {W : World} {base : Nat} {v : Value} {xs : List α} (h : OwnG T enc W base v xs) : SlOK v := by
 rcases h.2 with ⟨e, _⟩ | ⟨g', cap, cur, e, hb, hg, hc, hm, _⟩
 ·subst e; exact .nil
 ·exact ⟨_, _, _, e, hc, fun q => by cases q⟩
theorem elemNm : ElemT 9 23 16 := ⟨Tryz.underlying23, _, _, rfl, rfl, rfl, rfl, rfl⟩
theorem qgM {W : World} {a : Option Addr} {c : Nat} {xs : Nm} (h : StrsAt W (.slice a xs.length c) xs) {ad : Addr} (ha : a = some ad) :
 ∀ j u, (xs.map strV)[j]? = some u → W.cell? (ad.add j) = some u := by
 obtain ⟨a', c', e, hx⟩ := h
 cases e
 intro j u hj
 obtain ⟨hlt, e2⟩ := List.getElem?_eq_some_iff.1 hj
 rw [List.length_map] at hlt
 rw [List.getElem_map] at e2
 rcases hx with e | ⟨g, off, rfl, _, hc⟩
 ·subst e; simp at hlt
 ·cases ha
  rw [← e2, Addr.add_lit]; exact hc j hlt
theorem qg3 {S : TypeId} {ops : Array Oper} {rest : List Oper} {o : Oper} {a : Act} {Q : Exit → Act → World → Prop} (W : World) (hgd : o.guard = none) (s x : Operand) (hE : ElemT 9 S 16)
 (ho : o.op = .call { callee := .builtin .append, args := #[s, x], argTypes := #[S, S] })
 (base : Nat) (v : Value) (xs : Nm) (hs : a.eval s = v) (hown : OwnG 9 strV W base v xs)
 (src : Value) (ys : Nm) (hx : a.eval x = src) (hsrc : StrsAt W src ys) (hok : SlOK src)
 (hbase : base ≤ W.heap.size) (hk : xs.length + ys.length ≤ maxLen) (hk2 : (xs.length + ys.length) * 16 ≤ 140737488355328)
 (h : ∀ v' w', OwnG 9 strV w' base v' (xs ++ ys) → W.grownBy w' v.ownBlock → wpList Tryz.prog ops Q rest (a.put o.dst v') w') :
 wpList Tryz.prog ops Q (o :: rest) a W := by
 obtain ⟨ht, i, z, hi, hz, hz1, hz2, hzc⟩ := hE
 obtain ⟨a0, c0, rfl, _⟩ := id hsrc
 cases a0 with
 | none =>
  obtain ⟨a1, n1, c1, e1, _, e2⟩ := hok
  cases e1
  have e3 := e2 rfl
  subst e3
  obtain ⟨a2, c2, e4, h4⟩ := hsrc
  cases e4
  rcases h4 with e5 | ⟨_, _, e5, _⟩
  ·subst e5
   refine wpList_append_own_none hgd s x S ho base _ i 1 ht hi v _ _ hs hown hx ?_
   exact h v W (by rw [List.append_nil]; exact hown) ⟨rfl, rfl, rfl, qN0, fun _ _ _ => rfl⟩
  ·cases e5
 | some ad =>
  refine wpList_append_own _ hgd s x S ho base _ i z 1 16 ht hi hz hz1 hz2 hzc (by decide) v xs.length (xs.map strV) hs hown ad ys.length c0 (ys.map strV) hx (by simp) (qgM hsrc rfl) (by intro u hu; obtain ⟨y, _, rfl⟩ := List.mem_map.1 hu; rfl) hk hk2 hbase ?_
  intro v' w' h1 h2 _
  refine h v' w' ?_ h2
  unfold OwnG
  rw [List.length_append, List.map_append]
  exact h1
theorem qbr (v : Value) (xs : Nm) (w : World) (hA : StrsAt w v xs) (hO : SlOK v) (hk : xs.length ≤ 8796093022000) :
 Calls Tryz.prog 22 #[v] w fun e w' => ∃ v', e = .returned v' ∧ OwnG 9 strV w' w.heap.size v' xs ∧ Below w.heap.size w w' := by
 obtain ⟨a, c, rfl, hx⟩ := id hA
 cases a with
 | none =>
  have hnil : xs = [] := by
   rcases hx with e | ⟨_, _, e, _⟩
   ·exact e
   ·cases e
  subst hnil
  have q := fun w => Lib.run_eql_slice_nil (P := Tryz.prog) w 23 _ none 0 c 0 0 Tryz.underlying23
  go_enter Tryz.func22, Tryz.ntmps22
  go_wp2
  go_ret
  exact ⟨_, rfl, OwnG.nil _ _, qL0⟩
 | some ad =>
  have hlit : OwnG 9 strV (w.alloc (.cells #[] 9)) w.heap.size (.slice (some ⟨w.heap.size, 0, none⟩) 0 0) [] := OwnG.lit (enc := strV) w w.heap.size (qN0) [] (by simp)
  have q := fun w => Lib.run_eql_slice_nil (P := Tryz.prog) w 23 _ (some ad) xs.length c 0 0 Tryz.underlying23
  go_enter Tryz.func22, Tryz.ntmps22
  go_wp2_with (at_builtin; refine qg3 (w.alloc (.cells #[] 9)) rfl (.tmp 5) (.tmp 6) elemNm rfl w.heap.size _ [] rfl hlit _ xs rfl (hA.below ((Below.refl _ w).alloc (qN0) _)) hO (by simp) (by unfold maxLen; simp; omega) (by simp; omega) ?_; intro v' w1 hown' hg')
  go_ret
  exact ⟨v', rfl, hown', ((Below.refl _ w).alloc (qN0) _).grown hg' (by simp) hlit.base_le⟩
theorem qds {W : World} {g off c : Nat} {xs : Nm} (h : StrsAt W (.slice (some ⟨g, off, none⟩) xs.length c) xs) (hc : xs.length ≤ c) (k : Nat) (hk : k ≤ xs.length) (c' : Nat) :
 StrsAt W (.slice (if c = k then some ⟨g, off, none⟩ else some ⟨g, off + k, none⟩) (xs.length - k) c') (xs.drop k) := by
 obtain ⟨a', c', e, hx⟩ := h
 cases e
 refine ⟨_, _, by rw [List.length_drop], ?_⟩
 rcases hx with e | ⟨g, off, e, hg, hc⟩
 ·subst e; simp
 ·cases e
  by_cases hck : c = k
  ·exact .inl (List.drop_eq_nil_of_le (by omega))
  ·rw [if_neg hck]
   exact .inr ⟨_, _, rfl, hg, fun j hj => by rw [List.getElem_drop, Nat.add_assoc]; exact hc (k + j) (by simp at hj; omega)⟩
theorem qla {g off c k n : Nat} (h : n ≤ c) : SlOK (.slice (if c = k then some ⟨g, off, none⟩ else some ⟨g, off + k, none⟩) (n - k) (c - k)) :=
 ⟨_, _, _, rfl, by omega, fun e => by split at e <;> cases e⟩
theorem qiV (v : Value) (xs : Nm) (w : World) (hA : StrsAt w v xs) (hk : NmOK xs) :
 Calls Tryz.prog 52 #[v] w fun e w' => e = .returned (.bool (wildN xs)) ∧ w' = w := by
 obtain ⟨a, c, rfl, hx⟩ := id hA
 have hl := hk.1
 by_cases h0 : xs = []
 ·subst h0
  go_enter Tryz.func52, Tryz.ntmps52
  go_wp2
  go_ret
  exact ⟨rfl, rfl⟩
 ·have hn : 0 < xs.length := by cases xs with | nil => exact absurd rfl h0 | cons x r => simp
  obtain ⟨g, off, rfl, hg, hcell⟩ := hA.cell (Below.refl _ w) 0 hn
  obtain ⟨s, hs, hsz, hsv⟩ := str_of xs[0]
  rw [hsv, Nat.add_zero] at hcell
  have hw : wildN xs = (s.toList == [42]) := by
   unfold wildN
   rw [List.head?_eq_getElem?, List.getElem?_eq_getElem hn, qaL, hs, Bool.eq_iff_iff]
   simp
  have HW := qH0 hw
  clear hx hs hsz hsv hw
  have hn' : (0 : Int) < (xs.length : Int) := by omega
  go_enter Tryz.func52, Tryz.ntmps52
  go_wp2
  go_ret
  exact ⟨by rw [HW.out]; rfl, rfl⟩
theorem OwnG.below {α : Type} {T : TypeId} {enc : α → Value} {W W' : World} {base : Nat} {v : Value} {xs : List α} (h : OwnG T enc W base v xs) (hb : Below W.heap.size W W') : OwnG T enc W' base v xs :=
 h.kept (row := none) ⟨hb.os, hb.tape, hb.output, hb.size, fun k hk _ => hb.block k hk⟩ (by cases v.ownBlock <;> simp)
end Go.Proofs.YtnpnfajgphpabaaGreat
namespace Go.Proofs.YtnpnfajgphpabaaGreat
set_option maxRecDepth 20000
open Go.RowKit Go.Shelf
theorem qeR (xs : Nm) (y : List UInt8) : foldN (xs ++ [y]) = foldN xs ++ [foldL y] := by simp [foldN]
section
attribute [local go_sem] Oper.semAt_some
end
end Go.Proofs.YtnpnfajgphpabaaGreat
namespace Go.Proofs.YtnpnfajgphpabaaGreat
set_option maxRecDepth 20000
set_option maxHeartbeats 4000000
open Go.RowKit Go.Shelf
theorem qg2 {xs : Nm} (h : NmOK xs) (k : Nat) (hk : k ≤ xs.length) : lenN (xs.take k) ≤ 1 + k * 1048577 := by
 induction k with
 | zero => simp [lenN]
 | succ k ih =>
  have h1 := h.get k (by omega)
  rw [List.take_succ_eq_append_getElem (by omega), qfE]
  have := ih (by omega)
  omega
theorem qk7 (v : Value) (xs : Nm) (w : World) (hA : StrsAt w v xs) (hk : NmOK xs) :
 Calls Tryz.prog 73 #[v] w fun e w' => e = .returned (.int .i64 (lenN xs : Int)) ∧ w' = w := by
 obtain ⟨a, c, rfl, _⟩ := id hA
 have hl := hk.1
 obtain ⟨n, hn⟩ : ∃ n, xs.length = n := ⟨_, rfl⟩
 have hcell := fun j hj => hA.cell (Below.refl _ w) j hj
 rw [hn] at hl ⊢
 have HN := qH0 hn
 clear hA hn
 go_enter Tryz.func73, Tryz.ntmps73
 go_wp2
 go_loopw [3, 4] (fun u i wr => ∃ k : Nat, i = .int .i64 k ∧ k ≤ n ∧ u = .int .i64 (lenN (xs.take k) : Int) ∧ wr = w) (fun _ i _ => n - (intOf i).toNat)
 case atStart => exact ⟨0, rfl, Nat.zero_le _, rfl, rfl⟩
 case round =>
  obtain ⟨k, rfl, hkn, rfl, rfl⟩ := hrel
  by_cases hlt : k < n
  ·have hkp : k < xs.length := by rw [HN.out]; exact hlt
   obtain ⟨g, off, rfl, hg, hc⟩ := hcell k hkp
   obtain ⟨s, hs0, hsz, hsv⟩ := str_of xs[k]
   rw [hsv] at hc
   have hxk := hk.get k hkp
   have hb := qg2 hk k (by omega)
   have hr : lenN (xs.take (k + 1)) = lenN (xs.take k) + 1 + s.size := by rw [List.take_succ_eq_append_getElem hkp, qfE, hsz]
   have HR := qH0 hr
   rw [← hsz] at hxk
   clear hs0 hsz hsv hr
   generalize lenN (xs.take k) = q at *
   go_wp2
   go_roundw
   case rel => exact ⟨k + 1, by go_num, by omega, by rw [HR.out]; simp, trivial⟩
   case measure => simp [intOf]; omega
  ·obtain rfl : k = n := by omega
   have hr : lenN (xs.take k) = lenN xs := by rw [List.take_of_length_le (by rw [HN.out]; exact qN0)]
   rw [hr]
   go_wp2
   go_ret
   exact ⟨rfl, rfl⟩
theorem qb8 (v : Value) (xs : Nm) (w : World) (hA : StrsAt w v xs) (hk : NmOK xs) :
 Calls Tryz.prog 41 #[v] w fun e w' => e = .returned (.int .i64 (checkN xs)) ∧ w' = w := by
 obtain ⟨a, c, rfl, _⟩ := id hA
 have hL := qk7 _ xs w hA hk
 have hl := hk.1
 obtain ⟨n, hn⟩ : ∃ n, xs.length = n := ⟨_, rfl⟩
 have hcell := fun j hj => hA.cell (Below.refl _ w) j hj
 rw [hn] at hl hL ⊢
 have HN := qH0 hn
 clear hA hn
 go_enter Tryz.func41, Tryz.ntmps41
 go_wp2
 go_loopw [3] (fun i wr => ∃ k : Nat, i = .int .i64 k ∧ k ≤ n ∧ Hid (checkL (xs.take k) = 0) ∧ wr = w) (fun i _ => n - (intOf i).toNat)
 case atStart => exact ⟨0, rfl, Nat.zero_le _, qH0 rfl, rfl⟩
 case round =>
  obtain ⟨k, rfl, hkn, HC, rfl⟩ := hrel
  by_cases hlt : k < n
  ·have hkp : k < xs.length := by rw [HN.out]; exact hlt
   obtain ⟨g, off, rfl, hg, hc⟩ := hcell k hkp
   obtain ⟨s, hs0, hsz, hsv⟩ := str_of xs[k]
   rw [hsv] at hc
   have hxk := hk.get k hkp
   have hCk := fun W => qe7 s W (by unfold maxLen; omega)
   rw [hs0] at hCk
   have hr : checkL (xs.take (k + 1)) = qaS xs[k] := by rw [List.take_succ_eq_append_getElem hkp, qhj, if_pos HC.out]
   clear hs0 hsz hsv hxk
   generalize qaS xs[k] = q at *
   by_cases hq : (q != 0) = true
   ·have H0 : Hid (checkN xs = q) := qH0 (by rw [← hr]; exact qfb (List.take_prefix _ _) (by rw [hr]; simpa using hq))
    clear hr
    go_wp2_with (go_at_call 72; refine (hCk _).mono ?_; rintro e w2 ⟨rfl, rfl⟩)
    go_ret
    exact ⟨by rw [H0.out]; rfl, rfl⟩
   ·have hq1 : (q != 0) = false := by simpa using hq
    have HR := qH0 hr; have HQ := qH0 hq1
    clear hr hq
    go_wp2_with (go_at_call 72; refine (hCk _).mono ?_; rintro e w2 ⟨rfl, rfl⟩)
    go_roundw
    case rel => exact ⟨k + 1, by go_num, by omega, qH0 (by rw [HR.out]; simpa using HQ.out), trivial⟩
    case measure => simp [intOf]; omega
  ·obtain rfl : k = n := by omega
   have hr : xs.take k = xs := List.take_of_length_le (by rw [HN.out]; exact qN0)
   rw [hr] at HC
   have hd : checkN xs = if 255 < (lenN xs : Int) then 3 else 0 := by
    unfold checkN; rw [if_pos HC.out]
    by_cases h : 255 < lenN xs
    ·rw [if_pos h, if_pos (by omega)]
    ·rw [if_neg h, if_neg (by omega)]
   have HD := qH0 hd
   clear hr hd
   generalize lenN xs = q at *
   go_wp2_with (go_at_call 73; refine hL.mono ?_; rintro e w2 ⟨rfl, rfl⟩)
   ·go_ret
    exact ⟨by rw [HD.out, if_pos (by assumption)]; rfl, rfl⟩
   ·go_ret
    exact ⟨by rw [HD.out, if_neg (by omega)]; rfl, rfl⟩
def NmAt (W : World) (v : Value) (xs : Nm) : Prop := StrsAt W v xs ∧ SlOK v
theorem NmAt.below {W W' : World} {v : Value} {xs : Nm} (h : NmAt W v xs) (hb : Below W.heap.size W W') : NmAt W' v xs := ⟨h.1.below hb, h.2⟩
theorem OwnG.nmAt {W : World} {base : Nat} {v : Value} {xs : Nm} (h : OwnG 9 strV W base v xs) : NmAt W v xs := ⟨StrsAt.of_own h, h.slOK⟩
theorem qgK (n : Int) (w : World) : Calls Tryz.prog 110 #[.int .i64 n] w fun e w' => e = .returned (.int .i64 (cmpI n 0)) ∧ w' = w := by
 unfold cmpI
 by_cases h1 : n < 0
 ·rw [if_pos h1]
  go_enter Tryz.func110, Tryz.ntmps110
  go_wp2
  go_ret
  exact ⟨rfl, rfl⟩
 ·rw [if_neg h1]
  by_cases h2 : 0 < n
  ·rw [if_pos h2]
   go_enter Tryz.func110, Tryz.ntmps110
   go_wp2
   go_ret
   exact ⟨rfl, rfl⟩
  ·rw [if_neg h2]
   go_enter Tryz.func110, Tryz.ntmps110
   go_wp2
   go_ret
   exact ⟨rfl, rfl⟩
theorem qjR (v : Value) (xs : Nm) (w : World) (hA : StrsAt w v xs) (hk : NmOK xs) :
 Calls Tryz.prog 32 #[v] w fun e w' => e = .returned (.bool (wildN xs)) ∧ w' = w := by
 obtain ⟨a, c, rfl, hx⟩ := id hA
 have hl := hk.1
 by_cases h0 : xs = []
 ·subst h0
  go_enter Tryz.func32, Tryz.ntmps32
  go_wp2
  go_ret
  exact ⟨rfl, rfl⟩
 ·have hn : 0 < xs.length := by cases xs with | nil => exact absurd rfl h0 | cons x r => simp
  obtain ⟨g, off, rfl, hg, hcell⟩ := hA.cell (Below.refl _ w) 0 hn
  obtain ⟨s, hs, hsz, hsv⟩ := str_of xs[0]
  rw [hsv, Nat.add_zero] at hcell
  have hw : wildN xs = (s.toList == [42]) := by
   unfold wildN
   rw [List.head?_eq_getElem?, List.getElem?_eq_getElem hn, qaL, hs, Bool.eq_iff_iff]
   simp
  have HW := qH0 hw
  clear hx hs hsz hsv hw
  have hn' : (0 : Int) < (xs.length : Int) := by omega
  go_enter Tryz.func32, Tryz.ntmps32
  go_wp2
  go_ret
  exact ⟨by rw [HW.out]; rfl, rfl⟩
end Go.Proofs.YtnpnfajgphpabaaGreat
