/-
  Package name's contracts in one spelling, for laws: arguments that read as names, answers named by equations.
-/
import Derived.Test.YteppgeiejknhoaaMQ18
import Derived.Test.YteppgeiejknhoaaMQ25
import Derived.Test.YteppgeiejknhoaaMQ26
import Derived.Test.YteppgeiejknhoaaMQ35
import Derived.Test.YteppgeiejknhoaaMQ29
namespace Go.Proofs.Yteppgeiejknhoaa
set_option maxRecDepth 20000
open Go.RowKit Go.Shelf

theorem NmAt.alloc {W : World} {v : Value} {xs : Nm} (h : NmAt W v xs) (o : Obj) : NmAt (W.alloc o) v xs := h.below ((Below.refl _ _).alloc (Nat.le_refl _) _)

theorem nm_lit (W : World) (ys : Nm) (cs : List Value) (k g : Nat) (hc : cs = ys.map strV) (hk : ys.length = k) (hm : k ≤ 1048576) (hg : W.heap.size = g) :
    NmAt (W.alloc (.cells cs.toArray 9)) (.slice (some ⟨g, 0, none⟩) k k) ys := by
  subst hc hk hg
  exact (OwnG.lit (T := 9) (enc := strV) W W.heap.size (Nat.le_refl _) ys (by unfold maxLen; omega)).nmAt
theorem nmOK_of {xs : Nm} (h : fewN xs = true) : NmOK xs := fewN_ok h

def NmRes (xs : Nm) (k : Nat) (w : World) (e : Ending) (w' : World) : Prop := ∃ a c, e = .returned (.slice a k c) ∧ NmAt w' (.slice a k c) xs ∧ Below w.heap.size w w'
def NmRes2 (xs : Nm) (k : Nat) (er : Int) (w : World) (e : Ending) (w' : World) : Prop := ∃ a c, e = .returned (.tuple #[.slice a k c, .int .i64 er]) ∧ NmAt w' (.slice a k c) xs ∧ Below w.heap.size w w'
theorem nmRes_of {xs : Nm} {k : Nat} {w w' : World} {v : Value} (hk : xs.length = k) (ho : OwnG 9 strV w' w.heap.size v xs) (hb : Below w.heap.size w w') : NmRes xs k w (.returned v) w' := by
  subst hk
  obtain ⟨a, c, rfl⟩ := ho.shape
  exact ⟨a, c, rfl, ho.nmAt, hb⟩
theorem nmRes2_of {xs : Nm} {k : Nat} {er : Int} {w w' : World} {v : Value} (hk : xs.length = k) (ho : OwnG 9 strV w' w.heap.size v xs) (hb : Below w.heap.size w w') : NmRes2 xs k er w (.returned (.tuple #[v, .int .i64 er])) w' := by
  subst hk
  obtain ⟨a, c, rfl⟩ := ho.shape
  exact ⟨a, c, rfl, ho.nmAt, hb⟩

theorem kn_NUnder (v u : Value) (n z : Nm) (r : Bool) (h : underN n z = r) (w : World) (hA : NmAt w v n) (hU : NmAt w u z) (h1 : NmOK n) (h2 : NmOK z) :
    Calls Try.prog 11 #[v, u] w fun e w' => e = .returned (.bool r) ∧ Below w.heap.size w w' := by
  subst h; exact name_Under v u n z w hA.1 hU.1 h1 h2
theorem kn_NSame (v u : Value) (n z : Nm) (r : Bool) (h : sameN n z = r) (w : World) (hA : NmAt w v n) (hU : NmAt w u z) (h1 : NmOK n) (h2 : NmOK z) :
    Calls Try.prog 16 #[v, u] w fun e w' => e = .returned (.bool r) ∧ Below w.heap.size w w' := by
  subst h; exact name_Same v u n z w hA.1 hU.1 h1 h2
theorem kn_NCompare (v u : Value) (n z : Nm) (r : Int) (h : compareN n z = r) (w : World) (hA : NmAt w v n) (hU : NmAt w u z) (h1 : NmOK n) (h2 : NmOK z) :
    Calls Try.prog 52 #[v, u] w fun e w' => e = .returned (.int .i64 r) ∧ Below w.heap.size w w' := by
  subst h; exact name_Compare v u n z w hA.1 hU.1 h1 h2
theorem kn_NWild (v : Value) (n : Nm) (r : Bool) (h : wildN n = r) (w : World) (hA : NmAt w v n) (h1 : NmOK n) :
    Calls Try.prog 20 #[v] w fun e w' => e = .returned (.bool r) ∧ Below w.heap.size w w' := by
  subst h; refine (name_Wild v n w hA.1 h1).mono ?_
  rintro e w' ⟨he, rfl⟩; exact ⟨he, Below.refl _ _⟩
theorem kn_NParent (v : Value) (n l : Nm) (k : Nat) (h : parentN n = l) (hk : l.length = k) (w : World) (hA : NmAt w v n) (h1 : NmOK n) :
    Calls Try.prog 21 #[v] w (NmRes l k w) := by
  subst h; refine (name_Parent v n w hA.1 hA.2 h1).mono ?_
  rintro e w' ⟨v', rfl, ho, hb⟩; exact nmRes_of hk ho hb
theorem kn_NChild (s : ByteArray) (v : Value) (n l : Nm) (k : Nat) (h : s.data.toList :: n = l) (hk : l.length = k) (w : World) (hA : NmAt w v n) (h1 : NmOK n) :
    Calls Try.prog 17 #[.string s, v] w (NmRes l k w) := by
  subst h; refine (name_Child s v n w hA.1 hA.2 h1).mono ?_
  rintro e w' ⟨v', rfl, ho, hb⟩; exact nmRes_of hk ho hb
end Go.Proofs.Yteppgeiejknhoaa

/-
  rdata.pairs and its iterator, at the four element types. (Written by wip/tools/gen4.py.)
-/
namespace Go.Proofs.Yteppgeiejknhoaa
set_option maxRecDepth 20000
open Go.RowKit Go.Shelf

/-- What a round over pairs must keep. -/
def KeepP (b b2 : Nat) (v u : Value) (W W' : World) : Prop := KeepN b v W W' ∧ KeepN b2 u W W'
theorem KeepP.refl (b b2 : Nat) (v u : Value) (W : World) : KeepP b b2 v u W W := ⟨KeepN.refl _ _ _, KeepN.refl _ _ _⟩
theorem KeepP.trans {b b2 : Nat} {v u : Value} {A B C : World} (h : KeepP b b2 v u A B) (k : KeepP b b2 v u B C) : KeepP b b2 v u A C := ⟨h.1.trans k.1, h.2.trans k.2⟩
theorem KeepP.drewN {b b2 : Nat} {v u : Value} (W : World) (n : Nat) : KeepP b b2 v u W (W.drewN n) := ⟨KeepN.drewN _ _, KeepN.drewN _ _⟩
def pairV (xs ys : List Value) (j : Fin (min xs.length ys.length)) : Array Value := #[xs[j.val]'(by have := j.isLt; omega), ys[j.val]'(by have := j.isLt; omega)]

/-- The first of the answers that isn't 0, else what the lengths tell. -/
def FirstC (cs : Nat → Int) (n m : Nat) (r : Int) : Prop := (∃ k, k < n ∧ k < m ∧ (∀ j, j < k → cs j = 0) ∧ cs k ≠ 0 ∧ r = cs k) ∨ ((∀ j, j < n → j < m → cs j = 0) ∧ r = cmpI n m)
theorem firstC_cmpL {α : Type} {f : α → α → Int} {a b : List α} {cs : Nat → Int} {r : Int} (hc : ∀ j (h1 : j < a.length) (h2 : j < b.length), cs j = f a[j] b[j]) (h : FirstC cs a.length b.length r) : r = cmpL f a b := by
  have key : ∀ k, k ≤ a.length → k ≤ b.length → (∀ j, j < k → cs j = 0) → cmpL f a b = cmpL f (a.drop k) (b.drop k) := by
    intro k
    induction k with
    | zero => intro _ _ _; rfl
    | succ k ih =>
      intro h1 h2 h3
      rw [ih (by omega) (by omega) (fun j hj => h3 j (by omega)), cmpL_step k (by omega) (by omega), if_pos]
      rw [← hc k (by omega) (by omega)]; exact h3 k (by omega)
  rcases h with ⟨k, h1, h2, h3, h4, rfl⟩ | ⟨h1, rfl⟩
  · rw [key k (by omega) (by omega) h3, cmpL_step k h1 h2, if_neg (by rw [← hc k h1 h2]; exact h4), hc k h1 h2]
  · rcases Nat.le_total a.length b.length with h | h
    · rw [key a.length (Nat.le_refl _) h (fun j hj => h1 j hj (by omega)), cmpL_end _ (Nat.le_refl _) h (.inl rfl)]
    · rw [key b.length h (Nat.le_refl _) (fun j hj => h1 j (by omega) hj), cmpL_end _ h (Nat.le_refl _) (.inr rfl)]
theorem pre_fin {m : Nat} {p : List (Fin m)} {x : Fin m} (h : p ++ [x] <+: List.finRange m) : ∀ j (hj : j < x.val), (⟨j, by have := x.isLt; omega⟩ : Fin m) ∈ p := by
  have hl : p.length + 1 ≤ m := by have := h.length_le; simpa using this
  have e := List.prefix_iff_eq_take.1 h
  rw [List.length_append, List.length_singleton, finRange_take_succ (by omega)] at e
  obtain ⟨e1, e2⟩ := List.append_inj' e rfl
  have e2 : x = ⟨p.length, by omega⟩ := by simpa using e2
  intro j hj
  rw [e2] at hj
  have hj' : j < p.length := hj
  rw [e1]
  refine List.mem_iff_getElem.2 ⟨j, by rw [List.length_take, List.length_finRange]; omega, by simp⟩
def lastC {m : Nat} (cs : Nat → Int) (pre : List (Fin m)) : Int := cs ((pre.getLast?.map Fin.val).getD 0)
theorem lastC_snoc {m : Nat} (cs : Nat → Int) (p : List (Fin m)) (x : Fin m) : lastC cs (p ++ [x]) = cs x.val := by simp [lastC]
theorem keepP_t {b b2 : Nat} {v u : Value} {A B C : World} (h : KeepP b b2 v u A B) (k : KeepP b b2 v u B C) : KeepP b b2 v u A C := h.trans k
theorem SlAt.row_lt {W : World} {v : Value} {xs : List Value} (h : SlAt W v xs) : ∀ g, rowOf v = some g → g < W.heap.size := by
  obtain ⟨a, c, rfl, _, _, hx⟩ := h
  intro g hg
  rcases hx with e | ⟨b, off, rfl, hb, _⟩
  · subst e; cases a <;> cases hg
  · cases xs with
    | nil => cases hg
    | cons x r => cases hg; exact hb

end Go.Proofs.Yteppgeiejknhoaa

/-
  cmp.Compare at uint32 and at string; cmp.Or at int.
-/
namespace Go.Proofs.Yteppgeiejknhoaa
set_option maxRecDepth 20000
open Go.RowKit Go.Shelf

set_option maxHeartbeats 400000 in
theorem nan_u32 (a : Int) (w : World) : Calls Try.prog 107 #[.int .u32 a] w fun e w' => e = .returned (.bool false) ∧ w = w' := by
  go_enter Try.func107, Try.ntmps107
  go_wp2
  go_ret
  exact ⟨ret_bool (by simp), rfl⟩
set_option maxHeartbeats 400000 in
theorem cmp_u32 (a b : Int) (w : World) : Calls Try.prog 98 #[.int .u32 a, .int .u32 b] w fun e w' => e = .returned (.int .i64 (cmpI a b)) ∧ w = w' := by
  go_enter Try.func98, Try.ntmps98
  go_wp2_with (go_at_call 107; refine (nan_u32 _ _).mono ?_; rintro e w' ⟨rfl, rfl⟩)
  all_goals go_ret
  all_goals refine ⟨ret_int ?_, rfl⟩
  · have h : a < b := by assumption
    show -1 = _; rw [cmpI, if_pos h]
  · have h : b ≤ a := by assumption
    have h2 : b < a := by assumption
    show 1 = _; rw [cmpI, if_neg (by omega), if_pos h2]
  · have h : b ≤ a := by assumption
    have h2 : a ≤ b := by assumption
    show 0 = _; rw [cmpI, if_neg (by omega), if_neg (by omega)]

set_option maxHeartbeats 400000 in
theorem nan_str (a : ByteArray) (w : World) : Calls Try.prog 109 #[.string a] w fun e w' => e = .returned (.bool false) ∧ w = w' := by
  go_enter Try.func109, Try.ntmps109
  go_wp2
  go_ret
  exact ⟨ret_bool (by simp), rfl⟩
set_option maxHeartbeats 1000000 in
theorem cmp_str (a b : ByteArray) (w : World) : Calls Try.prog 100 #[.string a, .string b] w fun e w' => e = .returned (.int .i64 (orderM a.data.toList b.data.toList)) ∧ w = w' := by
  have hA := toList_data a
  have hB := toList_data b
  have HA := Lib.hid hA; have HB := Lib.hid hB; clear hA hB
  cases h1 : Op.bytesLess a.toList b.toList with
  | true =>
    have r : orderM a.data.toList b.data.toList = -1 := by unfold orderM; rw [← HA.out, ← HB.out, if_pos h1]
    have R := Lib.hid r; clear r
    go_enter Try.func100, Try.ntmps100
    go_wp2_with (go_at_call 109; refine (nan_str _ _).mono ?_; rintro e w' ⟨rfl, rfl⟩)
    go_ret
    exact ⟨ret_int R.out.symm, rfl⟩
  | false =>
    have h1n : ¬ Op.bytesLess a.toList b.toList = true := by rw [h1]; simp
    by_cases h2 : (a.toList == b.toList) = true
    · have r : orderM a.data.toList b.data.toList = 0 := by unfold orderM; rw [← HA.out, ← HB.out, if_neg h1n, if_pos (by simpa using h2)]
      have R := Lib.hid r; clear r h1n
      go_enter Try.func100, Try.ntmps100
      go_wp2_with (go_at_call 109; refine (nan_str _ _).mono ?_; rintro e w' ⟨rfl, rfl⟩)
      go_ret
      exact ⟨ret_int R.out.symm, rfl⟩
    · have h2f : (a.toList == b.toList) = false := by simpa using h2
      have r : orderM a.data.toList b.data.toList = 1 := by unfold orderM; rw [← HA.out, ← HB.out, if_neg h1n, if_neg (by simpa using h2)]
      have R := Lib.hid r; clear r h1n h2
      go_enter Try.func100, Try.ntmps100
      go_wp2_with (go_at_call 109; refine (nan_str _ _).mono ?_; rintro e w' ⟨rfl, rfl⟩)
      go_ret
      exact ⟨ret_int R.out.symm, rfl⟩

def firstNZ : List Int → Int
  | [] => 0
  | x :: r => if x = 0 then firstNZ r else x
theorem firstNZ_step (l : List Int) (k : Nat) (h : k < l.length) : firstNZ (l.drop k) = if l[k] = 0 then firstNZ (l.drop (k + 1)) else l[k] := by
  rw [List.drop_eq_getElem_cons h]; rfl
set_option maxHeartbeats 2000000 in
theorem cmp_Or (g c : Nat) (l : List Int) (w : World) (hm : l.length ≤ 1048576) (hc : ∀ j (h : j < l.length), w.cell? ⟨g, j, none⟩ = some (.int .i64 l[j])) :
    Calls Try.prog 51 #[.slice (some ⟨g, 0, none⟩) l.length c] w fun e w' => e = .returned (.int .i64 (firstNZ l)) ∧ w = w' := by
  have HC := Lib.hid hc; clear hc
  go_enter Try.func51, Try.ntmps51
  go_wp2
  go_loopw [8] (fun i wr => ∃ k : Nat, i = .int .i64 k ∧ k ≤ l.length ∧ Hid (firstNZ (l.drop k) = firstNZ l) ∧ w = wr) (fun i _ => l.length - (intOf i).toNat)
  case atStart => exact ⟨0, rfl, Nat.zero_le _, Lib.hid rfl, rfl⟩
  case round =>
    obtain ⟨k, rfl, hk, HD, rfl⟩ := hrel
    by_cases hlt : k < l.length
    · have hcell := HC.out k hlt
      have hst := firstNZ_step l k hlt
      generalize hx : l[k] = x at *
      have HS := Lib.hid hst
      clear hst hx
      by_cases h0 : (x != 0) = true
      · have hn : x ≠ 0 := by simpa using h0
        have HN := Lib.hid hn; clear hn
        go_wp2
        go_ret
        exact ⟨ret_int (by rw [← HD.out, HS.out, if_neg HN.out]), rfl⟩
      · have hn : (x != 0) = false := by simpa using h0
        have hz : x = 0 := by simpa using hn
        have HZ := Lib.hid hz; clear hz h0
        go_wp2
        go_roundw
        case rel => exact ⟨k + 1, by go_num, by omega, Lib.hid (by rw [← HD.out, HS.out, if_pos HZ.out]), trivial⟩
        case measure => simp [intOf]; omega
    · obtain rfl : k = l.length := by omega
      have HE := Lib.hid (show firstNZ l = 0 by rw [← HD.out, List.drop_of_length_le (Nat.le_refl _)]; rfl)
      go_wp2
      go_ret
      exact ⟨ret_int HE.out.symm, rfl⟩
end Go.Proofs.Yteppgeiejknhoaa

/-
  rdata.pairs, rdata.compareLists at toponym/name.Name. (Written by wip/tools/gen4.py.)
-/
namespace Go.Proofs.Yteppgeiejknhoaa
set_option maxRecDepth 20000
open Go.RowKit Go.Shelf

section
attribute [local go_sem] Oper.semAt_some

set_option maxRecDepth 100000 in
set_option maxHeartbeats 2000000 in
theorem pairs1_inNm (n : Nat) (hn : 1 ≤ n) (l b b2 : Nat) (v u : Value) (xs ys : List Value) (hs : xs.length ≤ maxLen) (hs2 : ys.length ≤ maxLen) (J Jx : List (Fin (min xs.length ys.length)) → World → Prop)
    (hJ : ∀ pre W k, J pre W → J pre (W.drewN k))
    (hY : ∀ pre x W, J pre W → pre.length < min xs.length ys.length → YieldAt Fence.wide (n - 1) Try.prog l (pairV xs ys x) W fun e W' =>
      (e = .returned (.bool true) ∧ J (pre ++ [x]) W' ∧ KeepP b b2 v u W W') ∨ (e = .returned (.bool false) ∧ Jx (pre ++ [x]) W'))
    (W : World) (hc : W.cell? ⟨b, 0, none⟩ = some v) (hc2 : W.cell? ⟨b2, 0, none⟩ = some u) (hA : SlAt W v xs) (hU : SlAt W u ys) (h0 : J [] W) :
    CallsIn Fence.wide n Try.prog 113 #[.func (.yield l) #[] #[], .pointer (some ⟨b, 0, none⟩), .pointer (some ⟨b2, 0, none⟩)] W fun e W' => (∃ v, e = .returned v) ∧
      ((∃ zs, zs = List.finRange (min xs.length ys.length) ∧ J zs W') ∨ (∃ pre, pre <+: List.finRange (min xs.length ys.length) ∧ Jx pre W')) := by
  unfold maxLen at hs hs2
  obtain ⟨a, c, rfl, hle, hnn, hx⟩ := hA
  obtain ⟨a2, c2, rfl, hle2, hnn2, hx2⟩ := hU
  obtain ⟨m, hm⟩ : ∃ m, min xs.length ys.length = m := ⟨_, rfl⟩
  have hmi : min (xs.length : Int) (ys.length : Int) = (m : Int) := by omega
  have hmx : m ≤ xs.length := by omega
  have hmy : m ≤ ys.length := by omega
  refine callsIn_of_wp Try.func113 rfl trivial ?_ rfl
  simp only [Try.ntmps113, List.size_toArray, List.length_cons, List.length_nil, Nat.reduceAdd, Nat.reduceSub, Array.replicate_succ, Array.replicate_zero, List.push_toArray, List.append_toArray, List.nil_append, List.cons_append]
  gi_wp2
  gi_loopw [10] (fun i wr => ∃ k : Nat, k ≤ m ∧ i = .int .i64 k ∧ J ((List.finRange (min xs.length ys.length)).take k) wr ∧ KeepP b b2 (.slice a xs.length c) (.slice a2 ys.length c2) W wr)
    (fun i _ => m - (intOf i).toNat)
  case atStart => exact ⟨0, Nat.zero_le _, rfl, h0, KeepP.refl _ _ _ _ _⟩
  case round =>
    obtain ⟨k, hk, rfl, hJs, hnx⟩ := hrel
    by_cases hlt : k < m
    · have hkx : k < xs.length := by omega
      have hky : k < ys.length := by omega
      rcases hx with e | ⟨g, off, rfl, hg, hcells⟩
      · subst e; simp at hkx
      rcases hx2 with e | ⟨g2, off2, rfl, hg2, hcells2⟩
      · subst e; simp at hky
      have hcell : wr.cell? ⟨g, off + k, none⟩ = some xs[k] := ((hnx.1.2 g (rowOf_at hkx)).cell).trans (hcells k hkx)
      have hcell2 : wr.cell? ⟨g2, off2 + k, none⟩ = some ys[k] := ((hnx.2.2 g2 (rowOf_at hky)).cell).trans (hcells2 k hky)
      have hkm : k < min xs.length ys.length := by omega
      have hY1 := fun q => hY _ ⟨k, hkm⟩ (wr.drewN q) (hJ _ _ q hJs) (by simp; omega)
      have hcb : wr.cell? ⟨b, 0, none⟩ = some (.slice (some ⟨g, off, none⟩) xs.length c) := hnx.1.1.cell.trans hc
      have hcb2 : wr.cell? ⟨b2, 0, none⟩ = some (.slice (some ⟨g2, off2, none⟩) ys.length c2) := hnx.2.1.cell.trans hc2
      have htk : (List.finRange (min xs.length ys.length)).take (k + 1) = (List.finRange (min xs.length ys.length)).take k ++ [⟨k, hkm⟩] := finRange_take_succ _
      have HTK := Lib.hid htk; clear htk
      have HM := Lib.hid hm
      unfold pairV at hY1
      generalize xs[k] = sv at *
      generalize ys[k] = tv at *
      clear hcells hcells2 hm hmi
      gi_wp2
      refine wpIn_region_tail 9 rfl follows_mixed (by kernel_rfl) ?_
      simp only [List.take_succ_cons, List.take_zero, List.drop_succ_cons, List.drop_zero]
      repeat (quiet_step_in (fail))
      refine wpQuietIn_nil ?_
      intro _ hw'
      obtain ⟨nq, hw''⟩ := hw'
      subst hw''
      obtain ⟨fn, tmps, assign, body, hy, hR⟩ := hY1 nq
      clear hY1
      gi_wp2
      refine hR.mono ?_
      rintro e W3 (⟨rfl, hJ3, hk3⟩ | ⟨rfl, hJx3⟩)
      · gi_wp2
        go_roundw
        case rel => exact ⟨k + 1, by omega, by simp, by rw [HTK.out]; exact hJ3, hnx.trans ((KeepP.drewN _ _).trans hk3)⟩
        case measure => simp [intOf]; omega
      · gi_wp2
        refine bodyPost_ret (results_none rfl _ _ _) rfl ?_
        exact ⟨⟨_, rfl⟩, .inr ⟨_, by rw [← HTK.out]; exact List.take_prefix _ _, hJx3⟩⟩
    · obtain rfl : k = m := by omega
      gi_wp2
      go_end0
      exact ⟨⟨_, rfl⟩, .inl ⟨_, by rw [List.take_of_length_le (by simp; omega)], hJs⟩⟩

theorem pairs_stopsNm (n : Nat) (hn : 1 ≤ n) (b b2 : Nat) (v u : Value) (xs ys : List Value) (hs : xs.length ≤ maxLen) (hs2 : ys.length ≤ maxLen) (w : World) (hb : b < w.heap.size) (hb2 : b2 < w.heap.size)
    (hc : w.cell? ⟨b, 0, none⟩ = some v) (hc2 : w.cell? ⟨b2, 0, none⟩ = some u) (hA : SlAt w v xs) (hU : SlAt w u ys) :
    SeqStopsK Fence.wide n Try.prog 113 #[.pointer (some ⟨b, 0, none⟩), .pointer (some ⟨b2, 0, none⟩)] (pairV xs ys) (KeepP b b2 v u) (fun zs => zs = List.finRange (min xs.length ys.length)) (fun pre => pre <+: List.finRange (min xs.length ys.length)) (min xs.length ys.length) w := fun l J Jx W hW hJ _ hY h0 =>
  pairs1_inNm n hn l b b2 v u xs ys hs hs2 J Jx (fun pre W' k h => hJ pre W' _ none h ⟨rfl, rfl, rfl, Nat.le_refl _, fun _ _ _ => rfl⟩ (fun _ e => by cases e)) hY W ((hW.cell (p := ⟨b, 0, none⟩) hb).trans hc) ((hW.cell (p := ⟨b2, 0, none⟩) hb2).trans hc2) (hA.below hW) (hU.below hW) h0
set_option maxHeartbeats 400000 in
theorem pairsNm (a a2 : Option Addr) (n n2 c c2 : Nat) (w : World) :
    Calls Try.prog 105 #[.slice a n c, .slice a2 n2 c2] w fun e w' => e = .returned (.func (.func 113) #[] #[.pointer (some ⟨w.heap.size, 0, none⟩), .pointer (some ⟨w.heap.size + 1, 0, none⟩)]) ∧ w' = (w.alloc (.cells #[.slice a n c] 44)).alloc (.cells #[.slice a2 n2 c2] 44) := by
  go_enter Try.func105, Try.ntmps105
  go_wp2
  go_ret
  exact ⟨rfl, rfl⟩

set_option maxRecDepth 100000 in
set_option maxHeartbeats 4000000 in
theorem listsNm (v u : Value) (xs ys : List Value) (cs : Nat → Int) (w : World) (hA : SlAt w v xs) (hU : SlAt w u ys) (hs : xs.length ≤ 1048576) (hs2 : ys.length ≤ 1048576)
    (hC : ∀ W, Below w.heap.size w W → ∀ j (h1 : j < xs.length) (h2 : j < ys.length), Calls Try.prog 52 #[xs[j], ys[j]] W fun e W' => e = .returned (.int .i64 (cs j)) ∧ Below W.heap.size W W') :
    Calls Try.prog 96 #[v, u, .func (.func 52) #[] #[]] w fun e w' => (∃ r, e = .returned (.int .i64 r) ∧ FirstC cs xs.length ys.length r) ∧ Below w.heap.size w w' := by
  obtain ⟨a, c, rfl, _⟩ := id hA
  obtain ⟨a2, c2, rfl, _⟩ := id hU
  refine (callsIn_wide (n := 5)).1 ?_
  refine callsIn_of_wp_marks Try.func96 rfl trivial ?_ rfl
  simp only [Try.ntmps96, List.size_toArray, List.length_cons, List.length_nil, Nat.reduceAdd, Nat.reduceSub, Array.replicate_succ, Array.replicate_zero, List.push_toArray, List.append_toArray, List.nil_append, List.cons_append]
  gi_wp2_with (refine ⟨trivial, ?_⟩; gi_at_call 105; refine (callsIn_wide.2 (pairsNm _ _ _ _ _ _ _)).mono ?_; rintro e w' ⟨rfl, rfl⟩)
  obtain ⟨W0, hW0⟩ : ∃ W0, ((((w.alloc (.cells #[.func (.func 52) #[] #[]] 93)).alloc (.cells #[.int .i64 0] 3)).alloc (.cells #[.slice a xs.length c] 44)).alloc (.cells #[.slice a2 ys.length c2] 44)) = W0 := ⟨_, rfl⟩
  have bF : Boxed W0 w.heap.size 93 (.func (.func 52) #[] #[]) := by rw [← hW0]; exact (((Boxed.new w _ _).alloc _).alloc _).alloc _
  have bI : Boxed W0 (w.heap.size + 1) 3 (.int .i64 0) := by
    have := Boxed.new (w.alloc (.cells #[.func (.func 52) #[] #[]] 93)) 3 (.int .i64 0)
    rw [World.size_alloc] at this
    rw [← hW0]; exact (this.alloc _).alloc _
  have bV : Boxed W0 (w.heap.size + 1 + 1) 44 (.slice a xs.length c) := by
    have := Boxed.new ((w.alloc (.cells #[.func (.func 52) #[] #[]] 93)).alloc (.cells #[.int .i64 0] 3)) 44 (.slice a xs.length c)
    rw [World.size_alloc, World.size_alloc] at this
    rw [← hW0]; exact this.alloc _
  have bU : Boxed W0 (w.heap.size + 1 + 1 + 1) 44 (.slice a2 ys.length c2) := by
    have := Boxed.new (((w.alloc (.cells #[.func (.func 52) #[] #[]] 93)).alloc (.cells #[.int .i64 0] 3)).alloc (.cells #[.slice a xs.length c] 44)) 44 (.slice a2 ys.length c2)
    rw [World.size_alloc, World.size_alloc, World.size_alloc] at this
    rw [← hW0]; exact this
  have hsz : W0.heap.size = w.heap.size + 4 := by rw [← hW0]; simp
  have hB0 : Below w.heap.size w W0 := by rw [← hW0]; exact ((((Below.refl _ w).alloc (Nat.le_refl _) _).alloc (by simp) _).alloc (by simp; omega) _).alloc (by simp; omega) _
  have hrow := hA.row_lt
  have hrow2 := hU.row_lt
  rw [hW0]
  have HZ := Lib.hid hsz; clear hsz hW0
  refine wpIn_rangeFunc_ownG rfl (by omega) (gf := 113) (lb := #[.pointer (some ⟨w.heap.size + 1 + 1, 0, none⟩), .pointer (some ⟨w.heap.size + 1 + 1 + 1, 0, none⟩)]) rfl trivial (enters_of Try.func113 (by kernel_rfl) rfl)
    (pairs_stopsNm _ (by omega) (w.heap.size + 1 + 1) (w.heap.size + 1 + 1 + 1) (.slice a xs.length c) (.slice a2 ys.length c2) xs ys (by unfold maxLen; omega) (by unfold maxLen; omega) W0 (by rw [HZ.out]; omega) (by rw [HZ.out]; omega) bV.cell bU.cell (hA.below hB0) (hU.below hB0)) keepP_t
    (fun W l o o' hl h h1 h2 => ⟨keepN_b (by rw [HZ.out]; omega) (fun g e => by have := hrow g e; rw [HZ.out]; omega) W l o o' hl h h1 h2, keepN_b (by rw [HZ.out]; omega) (fun g e => by have := hrow2 g e; rw [HZ.out]; omega) W l o o' hl h h1 h2⟩) (Below.refl _ _) (fun _ => rfl)
    (fun pre W => Below W0.heap.size W0 W ∧ ∀ j ∈ pre, cs j.val = 0)
    (fun k pre W => k = .ret ∧ Boxed W (w.heap.size + 1) 3 (.int .i64 (lastC cs pre)) ∧ Below w.heap.size w W ∧ ∃ p x, pre = p ++ [x] ∧ (∀ j ∈ p, cs j.val = 0) ∧ cs x.val ≠ 0)
    (OwnFrom.and (ownFrom_below (Nat.le_refl _) (Nat.le_refl _)) (ownFrom_pure _ _))
    (fun _ => OwnFrom.and (ownFrom_pure _ _) (OwnFrom.and (Own.from (boxed_own _ _ _) _) (OwnFrom.and (ownFrom_below (Nat.le_refl _) (by rw [HZ.out]; omega)) (ownFrom_pure _ _))))
    ⟨Below.refl _ _, by simp⟩
    (fun j => { tmps := #[.slice a xs.length c, .slice a2 ys.length c2, .func (.func 52) #[] #[], undef, undef, .pointer (some ⟨w.heap.size, 0, none⟩), .pointer (some ⟨w.heap.size + 1, 0, none⟩), xs[j.val]'(by have := j.isLt; omega), ys[j.val]'(by have := j.isLt; omega), undef, .slice a xs.length c, .slice a2 ys.length c2, .func (.func 113) #[] #[.pointer (some ⟨w.heap.size + 1 + 1, 0, none⟩), .pointer (some ⟨w.heap.size + 1 + 1 + 1, 0, none⟩)], xs[j.val]'(by have := j.isLt; omega), ys[j.val]'(by have := j.isLt; omega), undef, undef, undef, undef, undef, undef, undef, undef, undef, undef, undef, undef], defers := [] }) ?assign ?body ?done ?stop
  case assign =>
    intro l x W K hK
    unfold pairV
    gi_wp2
    exact hK
  case body =>
    rintro l pre x W ⟨hB, hC0⟩ hlt
    have hxl := x.isLt
    have hx1 : x.val < xs.length := by omega
    have hx2 : x.val < ys.length := by omega
    have hBw : Below w.heap.size w W := hB0.trans (hB.mono (by rw [HZ.out]; omega))
    have hCk := hC W hBw x.val hx1 hx2
    have hFw : Boxed W w.heap.size 93 (.func (.func 52) #[] #[]) := (hB.block _ bF.lt).trans bF
    have hIw : Boxed W (w.heap.size + 1) 3 (.int .i64 0) := (hB.block _ bI.lt).trans bI
    have cF := hFw.cell
    have hsz1 := hB.size
    have hls := lastC_snoc cs pre x
    generalize xs[x.val] = sv at *
    generalize ys[x.val] = tv at *
    generalize hq : cs x.val = q at *
    have HL := Lib.hid hls
    have HQ := Lib.hid hq
    clear hls hq
    by_cases hq0 : (q != 0) = true
    · have hn : q ≠ 0 := by simpa using hq0
      have HN := Lib.hid hn; clear hn
      gi_wp2_with (refine ⟨trivial, ?_⟩; gi_at_call 52; refine (CallsIn.inRound l (callsIn_wide.2 hCk)).mono ?_; rintro e w2 ⟨rfl, hb2⟩; have hI2 : Boxed w2 (w.heap.size + 1) 3 (.int .i64 0) := (hb2.block _ hIw.lt).trans hIw; have c2 := hI2.cell; have f2 := hI2.frozen)
      have ko : KeepsOthers W w2 := ⟨hb2.size, fun k o hk _ => (hb2.block k (Array.getElem?_eq_some_iff.1 hk).1).trans hk⟩
      exact ⟨(ko.trans (KeepsOthers.setCell _ _ _)).from _, rfl, by rw [HL.out]; exact hI2.set _, (hBw.trans (hb2.mono hBw.size)).setCell (p := ⟨w.heap.size + 1, 0, none⟩) (by simp) _, pre, x, rfl, hC0, by rw [HQ.out]; exact HN.out⟩
    · have hn : (q != 0) = false := by simpa using hq0
      have HN := Lib.hid hn
      clear hq0
      gi_wp2_with (refine ⟨trivial, ?_⟩; gi_at_call 52; refine (CallsIn.inRound l (callsIn_wide.2 hCk)).mono ?_; rintro e w2 ⟨rfl, hb2⟩)
      have ko : KeepsOthers W w2 := ⟨hb2.size, fun k o hk _ => (hb2.block k (Array.getElem?_eq_some_iff.1 hk).1).trans hk⟩
      refine ⟨ko.from _, ⟨KeepN.below hb2 (by have := HZ.out; omega) (fun g e => by have := hrow g e; have := HZ.out; omega), KeepN.below hb2 (by have := HZ.out; omega) (fun g e => by have := hrow2 g e; have := HZ.out; omega)⟩, hB.trans (hb2.mono hB.size), ?_⟩
      intro j hj
      rcases List.mem_append.1 hj with hj | hj
      · exact hC0 j hj
      · obtain rfl := List.mem_singleton.1 hj
        rw [HQ.out]; simpa using HN.out
  case done =>
    rintro D zs W hD rfl ⟨hB, hC0⟩ hK
    have hIw : Boxed W (w.heap.size + 1) 3 (.int .i64 0) := (hB.block _ bI.lt).trans bI
    have c0 := hIw.cell; have f0 := hIw.frozen
    have hBw : Below w.heap.size w W := hB0.trans (hB.mono (by rw [HZ.out]; omega))
    have hDn : w.heap.size + 1 ≠ D := by have := HZ.out; omega
    have HC0 := Lib.hid hC0; clear hC0
    gi_wp2_with (refine ⟨trivial, ?_⟩; gi_at_call 53; refine (callsIn_wide.2 (cmp_int _ _ _)).mono ?_; rintro e w2 ⟨rfl, rfl⟩)
    refine ⟨by simp, .inl ⟨_, _, rfl, run_takeDeferred (heap_setOther hK hDn.symm _), ?_⟩⟩
    refine ⟨_, results_cell rfl Try.underlying3 _ _ rfl (out_cell (hIw.set _) hDn _), ⟨_, rfl, .inr ⟨fun j h1 h2 => HC0.out ⟨j, by omega⟩ (List.mem_finRange _), rfl⟩⟩, ?_⟩
    exact below_putO (hBw.setCell (p := ⟨w.heap.size + 1, 0, none⟩) (by simp) _) (by have := HZ.out; omega) (Nat.le_refl _)
  case stop =>
    rintro D c3 pre W hD hp ⟨rfl, hI, hB, p, x, rfl, hC0, hne⟩ hK
    have hpf := pre_fin hp
    have hDn : w.heap.size + 1 ≠ D := by have := HZ.out; omega
    rw [lastC_snoc] at hI
    have hxl := x.isLt
    gi_wp2
    refine ⟨by simp, .inl ⟨_, _, rfl, run_takeDeferred hK, ?_⟩⟩
    refine ⟨_, results_cell rfl Try.underlying3 _ _ rfl (out_cell hI hDn _), ⟨_, rfl, .inl ⟨x.val, by omega, by omega, fun j hj => hC0 _ (hpf j hj), hne, rfl⟩⟩, ?_⟩
    exact below_putO hB (by have := HZ.out; omega) (Nat.le_refl _)

end
end Go.Proofs.Yteppgeiejknhoaa

/-
  rdata.pairs, rdata.compareLists at uint32. (Written by wip/tools/gen4.py.)
-/
namespace Go.Proofs.Yteppgeiejknhoaa
set_option maxRecDepth 20000
open Go.RowKit Go.Shelf

section
attribute [local go_sem] Oper.semAt_some

set_option maxRecDepth 100000 in
set_option maxHeartbeats 2000000 in
theorem pairs1_inU32 (n : Nat) (hn : 1 ≤ n) (l b b2 : Nat) (v u : Value) (xs ys : List Value) (hs : xs.length ≤ maxLen) (hs2 : ys.length ≤ maxLen) (J Jx : List (Fin (min xs.length ys.length)) → World → Prop)
    (hJ : ∀ pre W k, J pre W → J pre (W.drewN k))
    (hY : ∀ pre x W, J pre W → pre.length < min xs.length ys.length → YieldAt Fence.wide (n - 1) Try.prog l (pairV xs ys x) W fun e W' =>
      (e = .returned (.bool true) ∧ J (pre ++ [x]) W' ∧ KeepP b b2 v u W W') ∨ (e = .returned (.bool false) ∧ Jx (pre ++ [x]) W'))
    (W : World) (hc : W.cell? ⟨b, 0, none⟩ = some v) (hc2 : W.cell? ⟨b2, 0, none⟩ = some u) (hA : SlAt W v xs) (hU : SlAt W u ys) (h0 : J [] W) :
    CallsIn Fence.wide n Try.prog 114 #[.func (.yield l) #[] #[], .pointer (some ⟨b, 0, none⟩), .pointer (some ⟨b2, 0, none⟩)] W fun e W' => (∃ v, e = .returned v) ∧
      ((∃ zs, zs = List.finRange (min xs.length ys.length) ∧ J zs W') ∨ (∃ pre, pre <+: List.finRange (min xs.length ys.length) ∧ Jx pre W')) := by
  unfold maxLen at hs hs2
  obtain ⟨a, c, rfl, hle, hnn, hx⟩ := hA
  obtain ⟨a2, c2, rfl, hle2, hnn2, hx2⟩ := hU
  obtain ⟨m, hm⟩ : ∃ m, min xs.length ys.length = m := ⟨_, rfl⟩
  have hmi : min (xs.length : Int) (ys.length : Int) = (m : Int) := by omega
  have hmx : m ≤ xs.length := by omega
  have hmy : m ≤ ys.length := by omega
  refine callsIn_of_wp Try.func114 rfl trivial ?_ rfl
  simp only [Try.ntmps114, List.size_toArray, List.length_cons, List.length_nil, Nat.reduceAdd, Nat.reduceSub, Array.replicate_succ, Array.replicate_zero, List.push_toArray, List.append_toArray, List.nil_append, List.cons_append]
  gi_wp2
  gi_loopw [10] (fun i wr => ∃ k : Nat, k ≤ m ∧ i = .int .i64 k ∧ J ((List.finRange (min xs.length ys.length)).take k) wr ∧ KeepP b b2 (.slice a xs.length c) (.slice a2 ys.length c2) W wr)
    (fun i _ => m - (intOf i).toNat)
  case atStart => exact ⟨0, Nat.zero_le _, rfl, h0, KeepP.refl _ _ _ _ _⟩
  case round =>
    obtain ⟨k, hk, rfl, hJs, hnx⟩ := hrel
    by_cases hlt : k < m
    · have hkx : k < xs.length := by omega
      have hky : k < ys.length := by omega
      rcases hx with e | ⟨g, off, rfl, hg, hcells⟩
      · subst e; simp at hkx
      rcases hx2 with e | ⟨g2, off2, rfl, hg2, hcells2⟩
      · subst e; simp at hky
      have hcell : wr.cell? ⟨g, off + k, none⟩ = some xs[k] := ((hnx.1.2 g (rowOf_at hkx)).cell).trans (hcells k hkx)
      have hcell2 : wr.cell? ⟨g2, off2 + k, none⟩ = some ys[k] := ((hnx.2.2 g2 (rowOf_at hky)).cell).trans (hcells2 k hky)
      have hkm : k < min xs.length ys.length := by omega
      have hY1 := fun q => hY _ ⟨k, hkm⟩ (wr.drewN q) (hJ _ _ q hJs) (by simp; omega)
      have hcb : wr.cell? ⟨b, 0, none⟩ = some (.slice (some ⟨g, off, none⟩) xs.length c) := hnx.1.1.cell.trans hc
      have hcb2 : wr.cell? ⟨b2, 0, none⟩ = some (.slice (some ⟨g2, off2, none⟩) ys.length c2) := hnx.2.1.cell.trans hc2
      have htk : (List.finRange (min xs.length ys.length)).take (k + 1) = (List.finRange (min xs.length ys.length)).take k ++ [⟨k, hkm⟩] := finRange_take_succ _
      have HTK := Lib.hid htk; clear htk
      have HM := Lib.hid hm
      unfold pairV at hY1
      generalize xs[k] = sv at *
      generalize ys[k] = tv at *
      clear hcells hcells2 hm hmi
      gi_wp2
      refine wpIn_region_tail 9 rfl follows_mixed (by kernel_rfl) ?_
      simp only [List.take_succ_cons, List.take_zero, List.drop_succ_cons, List.drop_zero]
      repeat (quiet_step_in (fail))
      refine wpQuietIn_nil ?_
      intro _ hw'
      obtain ⟨nq, hw''⟩ := hw'
      subst hw''
      obtain ⟨fn, tmps, assign, body, hy, hR⟩ := hY1 nq
      clear hY1
      gi_wp2
      refine hR.mono ?_
      rintro e W3 (⟨rfl, hJ3, hk3⟩ | ⟨rfl, hJx3⟩)
      · gi_wp2
        go_roundw
        case rel => exact ⟨k + 1, by omega, by simp, by rw [HTK.out]; exact hJ3, hnx.trans ((KeepP.drewN _ _).trans hk3)⟩
        case measure => simp [intOf]; omega
      · gi_wp2
        refine bodyPost_ret (results_none rfl _ _ _) rfl ?_
        exact ⟨⟨_, rfl⟩, .inr ⟨_, by rw [← HTK.out]; exact List.take_prefix _ _, hJx3⟩⟩
    · obtain rfl : k = m := by omega
      gi_wp2
      go_end0
      exact ⟨⟨_, rfl⟩, .inl ⟨_, by rw [List.take_of_length_le (by simp; omega)], hJs⟩⟩

theorem pairs_stopsU32 (n : Nat) (hn : 1 ≤ n) (b b2 : Nat) (v u : Value) (xs ys : List Value) (hs : xs.length ≤ maxLen) (hs2 : ys.length ≤ maxLen) (w : World) (hb : b < w.heap.size) (hb2 : b2 < w.heap.size)
    (hc : w.cell? ⟨b, 0, none⟩ = some v) (hc2 : w.cell? ⟨b2, 0, none⟩ = some u) (hA : SlAt w v xs) (hU : SlAt w u ys) :
    SeqStopsK Fence.wide n Try.prog 114 #[.pointer (some ⟨b, 0, none⟩), .pointer (some ⟨b2, 0, none⟩)] (pairV xs ys) (KeepP b b2 v u) (fun zs => zs = List.finRange (min xs.length ys.length)) (fun pre => pre <+: List.finRange (min xs.length ys.length)) (min xs.length ys.length) w := fun l J Jx W hW hJ _ hY h0 =>
  pairs1_inU32 n hn l b b2 v u xs ys hs hs2 J Jx (fun pre W' k h => hJ pre W' _ none h ⟨rfl, rfl, rfl, Nat.le_refl _, fun _ _ _ => rfl⟩ (fun _ e => by cases e)) hY W ((hW.cell (p := ⟨b, 0, none⟩) hb).trans hc) ((hW.cell (p := ⟨b2, 0, none⟩) hb2).trans hc2) (hA.below hW) (hU.below hW) h0
set_option maxHeartbeats 400000 in
theorem pairsU32 (a a2 : Option Addr) (n n2 c c2 : Nat) (w : World) :
    Calls Try.prog 106 #[.slice a n c, .slice a2 n2 c2] w fun e w' => e = .returned (.func (.func 114) #[] #[.pointer (some ⟨w.heap.size, 0, none⟩), .pointer (some ⟨w.heap.size + 1, 0, none⟩)]) ∧ w' = (w.alloc (.cells #[.slice a n c] 45)).alloc (.cells #[.slice a2 n2 c2] 45) := by
  go_enter Try.func106, Try.ntmps106
  go_wp2
  go_ret
  exact ⟨rfl, rfl⟩

set_option maxRecDepth 100000 in
set_option maxHeartbeats 4000000 in
theorem listsU32 (v u : Value) (xs ys : List Value) (cs : Nat → Int) (w : World) (hA : SlAt w v xs) (hU : SlAt w u ys) (hs : xs.length ≤ 1048576) (hs2 : ys.length ≤ 1048576)
    (hC : ∀ W, Below w.heap.size w W → ∀ j (h1 : j < xs.length) (h2 : j < ys.length), Calls Try.prog 98 #[xs[j], ys[j]] W fun e W' => e = .returned (.int .i64 (cs j)) ∧ Below W.heap.size W W') :
    Calls Try.prog 97 #[v, u, .func (.func 98) #[] #[]] w fun e w' => (∃ r, e = .returned (.int .i64 r) ∧ FirstC cs xs.length ys.length r) ∧ Below w.heap.size w w' := by
  obtain ⟨a, c, rfl, _⟩ := id hA
  obtain ⟨a2, c2, rfl, _⟩ := id hU
  refine (callsIn_wide (n := 5)).1 ?_
  refine callsIn_of_wp_marks Try.func97 rfl trivial ?_ rfl
  simp only [Try.ntmps97, List.size_toArray, List.length_cons, List.length_nil, Nat.reduceAdd, Nat.reduceSub, Array.replicate_succ, Array.replicate_zero, List.push_toArray, List.append_toArray, List.nil_append, List.cons_append]
  gi_wp2_with (refine ⟨trivial, ?_⟩; gi_at_call 106; refine (callsIn_wide.2 (pairsU32 _ _ _ _ _ _ _)).mono ?_; rintro e w' ⟨rfl, rfl⟩)
  obtain ⟨W0, hW0⟩ : ∃ W0, ((((w.alloc (.cells #[.func (.func 98) #[] #[]] 135)).alloc (.cells #[.int .i64 0] 3)).alloc (.cells #[.slice a xs.length c] 45)).alloc (.cells #[.slice a2 ys.length c2] 45)) = W0 := ⟨_, rfl⟩
  have bF : Boxed W0 w.heap.size 135 (.func (.func 98) #[] #[]) := by rw [← hW0]; exact (((Boxed.new w _ _).alloc _).alloc _).alloc _
  have bI : Boxed W0 (w.heap.size + 1) 3 (.int .i64 0) := by
    have := Boxed.new (w.alloc (.cells #[.func (.func 98) #[] #[]] 135)) 3 (.int .i64 0)
    rw [World.size_alloc] at this
    rw [← hW0]; exact (this.alloc _).alloc _
  have bV : Boxed W0 (w.heap.size + 1 + 1) 45 (.slice a xs.length c) := by
    have := Boxed.new ((w.alloc (.cells #[.func (.func 98) #[] #[]] 135)).alloc (.cells #[.int .i64 0] 3)) 45 (.slice a xs.length c)
    rw [World.size_alloc, World.size_alloc] at this
    rw [← hW0]; exact this.alloc _
  have bU : Boxed W0 (w.heap.size + 1 + 1 + 1) 45 (.slice a2 ys.length c2) := by
    have := Boxed.new (((w.alloc (.cells #[.func (.func 98) #[] #[]] 135)).alloc (.cells #[.int .i64 0] 3)).alloc (.cells #[.slice a xs.length c] 45)) 45 (.slice a2 ys.length c2)
    rw [World.size_alloc, World.size_alloc, World.size_alloc] at this
    rw [← hW0]; exact this
  have hsz : W0.heap.size = w.heap.size + 4 := by rw [← hW0]; simp
  have hB0 : Below w.heap.size w W0 := by rw [← hW0]; exact ((((Below.refl _ w).alloc (Nat.le_refl _) _).alloc (by simp) _).alloc (by simp; omega) _).alloc (by simp; omega) _
  have hrow := hA.row_lt
  have hrow2 := hU.row_lt
  rw [hW0]
  have HZ := Lib.hid hsz; clear hsz hW0
  refine wpIn_rangeFunc_ownG rfl (by omega) (gf := 114) (lb := #[.pointer (some ⟨w.heap.size + 1 + 1, 0, none⟩), .pointer (some ⟨w.heap.size + 1 + 1 + 1, 0, none⟩)]) rfl trivial (enters_of Try.func114 (by kernel_rfl) rfl)
    (pairs_stopsU32 _ (by omega) (w.heap.size + 1 + 1) (w.heap.size + 1 + 1 + 1) (.slice a xs.length c) (.slice a2 ys.length c2) xs ys (by unfold maxLen; omega) (by unfold maxLen; omega) W0 (by rw [HZ.out]; omega) (by rw [HZ.out]; omega) bV.cell bU.cell (hA.below hB0) (hU.below hB0)) keepP_t
    (fun W l o o' hl h h1 h2 => ⟨keepN_b (by rw [HZ.out]; omega) (fun g e => by have := hrow g e; rw [HZ.out]; omega) W l o o' hl h h1 h2, keepN_b (by rw [HZ.out]; omega) (fun g e => by have := hrow2 g e; rw [HZ.out]; omega) W l o o' hl h h1 h2⟩) (Below.refl _ _) (fun _ => rfl)
    (fun pre W => Below W0.heap.size W0 W ∧ ∀ j ∈ pre, cs j.val = 0)
    (fun k pre W => k = .ret ∧ Boxed W (w.heap.size + 1) 3 (.int .i64 (lastC cs pre)) ∧ Below w.heap.size w W ∧ ∃ p x, pre = p ++ [x] ∧ (∀ j ∈ p, cs j.val = 0) ∧ cs x.val ≠ 0)
    (OwnFrom.and (ownFrom_below (Nat.le_refl _) (Nat.le_refl _)) (ownFrom_pure _ _))
    (fun _ => OwnFrom.and (ownFrom_pure _ _) (OwnFrom.and (Own.from (boxed_own _ _ _) _) (OwnFrom.and (ownFrom_below (Nat.le_refl _) (by rw [HZ.out]; omega)) (ownFrom_pure _ _))))
    ⟨Below.refl _ _, by simp⟩
    (fun j => { tmps := #[.slice a xs.length c, .slice a2 ys.length c2, .func (.func 98) #[] #[], undef, undef, .pointer (some ⟨w.heap.size, 0, none⟩), .pointer (some ⟨w.heap.size + 1, 0, none⟩), xs[j.val]'(by have := j.isLt; omega), ys[j.val]'(by have := j.isLt; omega), undef, .slice a xs.length c, .slice a2 ys.length c2, .func (.func 114) #[] #[.pointer (some ⟨w.heap.size + 1 + 1, 0, none⟩), .pointer (some ⟨w.heap.size + 1 + 1 + 1, 0, none⟩)], xs[j.val]'(by have := j.isLt; omega), ys[j.val]'(by have := j.isLt; omega), undef, undef, undef, undef, undef, undef, undef, undef, undef, undef, undef, undef], defers := [] }) ?assign ?body ?done ?stop
  case assign =>
    intro l x W K hK
    unfold pairV
    gi_wp2
    exact hK
  case body =>
    rintro l pre x W ⟨hB, hC0⟩ hlt
    have hxl := x.isLt
    have hx1 : x.val < xs.length := by omega
    have hx2 : x.val < ys.length := by omega
    have hBw : Below w.heap.size w W := hB0.trans (hB.mono (by rw [HZ.out]; omega))
    have hCk := hC W hBw x.val hx1 hx2
    have hFw : Boxed W w.heap.size 135 (.func (.func 98) #[] #[]) := (hB.block _ bF.lt).trans bF
    have hIw : Boxed W (w.heap.size + 1) 3 (.int .i64 0) := (hB.block _ bI.lt).trans bI
    have cF := hFw.cell
    have hsz1 := hB.size
    have hls := lastC_snoc cs pre x
    generalize xs[x.val] = sv at *
    generalize ys[x.val] = tv at *
    generalize hq : cs x.val = q at *
    have HL := Lib.hid hls
    have HQ := Lib.hid hq
    clear hls hq
    by_cases hq0 : (q != 0) = true
    · have hn : q ≠ 0 := by simpa using hq0
      have HN := Lib.hid hn; clear hn
      gi_wp2_with (refine ⟨trivial, ?_⟩; gi_at_call 98; refine (CallsIn.inRound l (callsIn_wide.2 hCk)).mono ?_; rintro e w2 ⟨rfl, hb2⟩; have hI2 : Boxed w2 (w.heap.size + 1) 3 (.int .i64 0) := (hb2.block _ hIw.lt).trans hIw; have c2 := hI2.cell; have f2 := hI2.frozen)
      have ko : KeepsOthers W w2 := ⟨hb2.size, fun k o hk _ => (hb2.block k (Array.getElem?_eq_some_iff.1 hk).1).trans hk⟩
      exact ⟨(ko.trans (KeepsOthers.setCell _ _ _)).from _, rfl, by rw [HL.out]; exact hI2.set _, (hBw.trans (hb2.mono hBw.size)).setCell (p := ⟨w.heap.size + 1, 0, none⟩) (by simp) _, pre, x, rfl, hC0, by rw [HQ.out]; exact HN.out⟩
    · have hn : (q != 0) = false := by simpa using hq0
      have HN := Lib.hid hn
      clear hq0
      gi_wp2_with (refine ⟨trivial, ?_⟩; gi_at_call 98; refine (CallsIn.inRound l (callsIn_wide.2 hCk)).mono ?_; rintro e w2 ⟨rfl, hb2⟩)
      have ko : KeepsOthers W w2 := ⟨hb2.size, fun k o hk _ => (hb2.block k (Array.getElem?_eq_some_iff.1 hk).1).trans hk⟩
      refine ⟨ko.from _, ⟨KeepN.below hb2 (by have := HZ.out; omega) (fun g e => by have := hrow g e; have := HZ.out; omega), KeepN.below hb2 (by have := HZ.out; omega) (fun g e => by have := hrow2 g e; have := HZ.out; omega)⟩, hB.trans (hb2.mono hB.size), ?_⟩
      intro j hj
      rcases List.mem_append.1 hj with hj | hj
      · exact hC0 j hj
      · obtain rfl := List.mem_singleton.1 hj
        rw [HQ.out]; simpa using HN.out
  case done =>
    rintro D zs W hD rfl ⟨hB, hC0⟩ hK
    have hIw : Boxed W (w.heap.size + 1) 3 (.int .i64 0) := (hB.block _ bI.lt).trans bI
    have c0 := hIw.cell; have f0 := hIw.frozen
    have hBw : Below w.heap.size w W := hB0.trans (hB.mono (by rw [HZ.out]; omega))
    have hDn : w.heap.size + 1 ≠ D := by have := HZ.out; omega
    have HC0 := Lib.hid hC0; clear hC0
    gi_wp2_with (refine ⟨trivial, ?_⟩; gi_at_call 53; refine (callsIn_wide.2 (cmp_int _ _ _)).mono ?_; rintro e w2 ⟨rfl, rfl⟩)
    refine ⟨by simp, .inl ⟨_, _, rfl, run_takeDeferred (heap_setOther hK hDn.symm _), ?_⟩⟩
    refine ⟨_, results_cell rfl Try.underlying3 _ _ rfl (out_cell (hIw.set _) hDn _), ⟨_, rfl, .inr ⟨fun j h1 h2 => HC0.out ⟨j, by omega⟩ (List.mem_finRange _), rfl⟩⟩, ?_⟩
    exact below_putO (hBw.setCell (p := ⟨w.heap.size + 1, 0, none⟩) (by simp) _) (by have := HZ.out; omega) (Nat.le_refl _)
  case stop =>
    rintro D c3 pre W hD hp ⟨rfl, hI, hB, p, x, rfl, hC0, hne⟩ hK
    have hpf := pre_fin hp
    have hDn : w.heap.size + 1 ≠ D := by have := HZ.out; omega
    rw [lastC_snoc] at hI
    have hxl := x.isLt
    gi_wp2
    refine ⟨by simp, .inl ⟨_, _, rfl, run_takeDeferred hK, ?_⟩⟩
    refine ⟨_, results_cell rfl Try.underlying3 _ _ rfl (out_cell hI hDn _), ⟨_, rfl, .inl ⟨x.val, by omega, by omega, fun j hj => hC0 _ (hpf j hj), hne, rfl⟩⟩, ?_⟩
    exact below_putO hB (by have := HZ.out; omega) (Nat.le_refl _)

end
end Go.Proofs.Yteppgeiejknhoaa

/-
  rdata.pairs, rdata.compareLists at string. (Written by wip/tools/gen4.py.)
-/
namespace Go.Proofs.Yteppgeiejknhoaa
set_option maxRecDepth 20000
open Go.RowKit Go.Shelf

section
attribute [local go_sem] Oper.semAt_some

set_option maxRecDepth 100000 in
set_option maxHeartbeats 2000000 in
theorem pairs1_inStr (n : Nat) (hn : 1 ≤ n) (l b b2 : Nat) (v u : Value) (xs ys : List Value) (hs : xs.length ≤ maxLen) (hs2 : ys.length ≤ maxLen) (J Jx : List (Fin (min xs.length ys.length)) → World → Prop)
    (hJ : ∀ pre W k, J pre W → J pre (W.drewN k))
    (hY : ∀ pre x W, J pre W → pre.length < min xs.length ys.length → YieldAt Fence.wide (n - 1) Try.prog l (pairV xs ys x) W fun e W' =>
      (e = .returned (.bool true) ∧ J (pre ++ [x]) W' ∧ KeepP b b2 v u W W') ∨ (e = .returned (.bool false) ∧ Jx (pre ++ [x]) W'))
    (W : World) (hc : W.cell? ⟨b, 0, none⟩ = some v) (hc2 : W.cell? ⟨b2, 0, none⟩ = some u) (hA : SlAt W v xs) (hU : SlAt W u ys) (h0 : J [] W) :
    CallsIn Fence.wide n Try.prog 115 #[.func (.yield l) #[] #[], .pointer (some ⟨b, 0, none⟩), .pointer (some ⟨b2, 0, none⟩)] W fun e W' => (∃ v, e = .returned v) ∧
      ((∃ zs, zs = List.finRange (min xs.length ys.length) ∧ J zs W') ∨ (∃ pre, pre <+: List.finRange (min xs.length ys.length) ∧ Jx pre W')) := by
  unfold maxLen at hs hs2
  obtain ⟨a, c, rfl, hle, hnn, hx⟩ := hA
  obtain ⟨a2, c2, rfl, hle2, hnn2, hx2⟩ := hU
  obtain ⟨m, hm⟩ : ∃ m, min xs.length ys.length = m := ⟨_, rfl⟩
  have hmi : min (xs.length : Int) (ys.length : Int) = (m : Int) := by omega
  have hmx : m ≤ xs.length := by omega
  have hmy : m ≤ ys.length := by omega
  refine callsIn_of_wp Try.func115 rfl trivial ?_ rfl
  simp only [Try.ntmps115, List.size_toArray, List.length_cons, List.length_nil, Nat.reduceAdd, Nat.reduceSub, Array.replicate_succ, Array.replicate_zero, List.push_toArray, List.append_toArray, List.nil_append, List.cons_append]
  gi_wp2
  gi_loopw [10] (fun i wr => ∃ k : Nat, k ≤ m ∧ i = .int .i64 k ∧ J ((List.finRange (min xs.length ys.length)).take k) wr ∧ KeepP b b2 (.slice a xs.length c) (.slice a2 ys.length c2) W wr)
    (fun i _ => m - (intOf i).toNat)
  case atStart => exact ⟨0, Nat.zero_le _, rfl, h0, KeepP.refl _ _ _ _ _⟩
  case round =>
    obtain ⟨k, hk, rfl, hJs, hnx⟩ := hrel
    by_cases hlt : k < m
    · have hkx : k < xs.length := by omega
      have hky : k < ys.length := by omega
      rcases hx with e | ⟨g, off, rfl, hg, hcells⟩
      · subst e; simp at hkx
      rcases hx2 with e | ⟨g2, off2, rfl, hg2, hcells2⟩
      · subst e; simp at hky
      have hcell : wr.cell? ⟨g, off + k, none⟩ = some xs[k] := ((hnx.1.2 g (rowOf_at hkx)).cell).trans (hcells k hkx)
      have hcell2 : wr.cell? ⟨g2, off2 + k, none⟩ = some ys[k] := ((hnx.2.2 g2 (rowOf_at hky)).cell).trans (hcells2 k hky)
      have hkm : k < min xs.length ys.length := by omega
      have hY1 := fun q => hY _ ⟨k, hkm⟩ (wr.drewN q) (hJ _ _ q hJs) (by simp; omega)
      have hcb : wr.cell? ⟨b, 0, none⟩ = some (.slice (some ⟨g, off, none⟩) xs.length c) := hnx.1.1.cell.trans hc
      have hcb2 : wr.cell? ⟨b2, 0, none⟩ = some (.slice (some ⟨g2, off2, none⟩) ys.length c2) := hnx.2.1.cell.trans hc2
      have htk : (List.finRange (min xs.length ys.length)).take (k + 1) = (List.finRange (min xs.length ys.length)).take k ++ [⟨k, hkm⟩] := finRange_take_succ _
      have HTK := Lib.hid htk; clear htk
      have HM := Lib.hid hm
      unfold pairV at hY1
      generalize xs[k] = sv at *
      generalize ys[k] = tv at *
      clear hcells hcells2 hm hmi
      gi_wp2
      refine wpIn_region_tail 9 rfl follows_mixed (by kernel_rfl) ?_
      simp only [List.take_succ_cons, List.take_zero, List.drop_succ_cons, List.drop_zero]
      repeat (quiet_step_in (fail))
      refine wpQuietIn_nil ?_
      intro _ hw'
      obtain ⟨nq, hw''⟩ := hw'
      subst hw''
      obtain ⟨fn, tmps, assign, body, hy, hR⟩ := hY1 nq
      clear hY1
      gi_wp2
      refine hR.mono ?_
      rintro e W3 (⟨rfl, hJ3, hk3⟩ | ⟨rfl, hJx3⟩)
      · gi_wp2
        go_roundw
        case rel => exact ⟨k + 1, by omega, by simp, by rw [HTK.out]; exact hJ3, hnx.trans ((KeepP.drewN _ _).trans hk3)⟩
        case measure => simp [intOf]; omega
      · gi_wp2
        refine bodyPost_ret (results_none rfl _ _ _) rfl ?_
        exact ⟨⟨_, rfl⟩, .inr ⟨_, by rw [← HTK.out]; exact List.take_prefix _ _, hJx3⟩⟩
    · obtain rfl : k = m := by omega
      gi_wp2
      go_end0
      exact ⟨⟨_, rfl⟩, .inl ⟨_, by rw [List.take_of_length_le (by simp; omega)], hJs⟩⟩

theorem pairs_stopsStr (n : Nat) (hn : 1 ≤ n) (b b2 : Nat) (v u : Value) (xs ys : List Value) (hs : xs.length ≤ maxLen) (hs2 : ys.length ≤ maxLen) (w : World) (hb : b < w.heap.size) (hb2 : b2 < w.heap.size)
    (hc : w.cell? ⟨b, 0, none⟩ = some v) (hc2 : w.cell? ⟨b2, 0, none⟩ = some u) (hA : SlAt w v xs) (hU : SlAt w u ys) :
    SeqStopsK Fence.wide n Try.prog 115 #[.pointer (some ⟨b, 0, none⟩), .pointer (some ⟨b2, 0, none⟩)] (pairV xs ys) (KeepP b b2 v u) (fun zs => zs = List.finRange (min xs.length ys.length)) (fun pre => pre <+: List.finRange (min xs.length ys.length)) (min xs.length ys.length) w := fun l J Jx W hW hJ _ hY h0 =>
  pairs1_inStr n hn l b b2 v u xs ys hs hs2 J Jx (fun pre W' k h => hJ pre W' _ none h ⟨rfl, rfl, rfl, Nat.le_refl _, fun _ _ _ => rfl⟩ (fun _ e => by cases e)) hY W ((hW.cell (p := ⟨b, 0, none⟩) hb).trans hc) ((hW.cell (p := ⟨b2, 0, none⟩) hb2).trans hc2) (hA.below hW) (hU.below hW) h0
set_option maxHeartbeats 400000 in
theorem pairsStr (a a2 : Option Addr) (n n2 c c2 : Nat) (w : World) :
    Calls Try.prog 108 #[.slice a n c, .slice a2 n2 c2] w fun e w' => e = .returned (.func (.func 115) #[] #[.pointer (some ⟨w.heap.size, 0, none⟩), .pointer (some ⟨w.heap.size + 1, 0, none⟩)]) ∧ w' = (w.alloc (.cells #[.slice a n c] 22)).alloc (.cells #[.slice a2 n2 c2] 22) := by
  go_enter Try.func108, Try.ntmps108
  go_wp2
  go_ret
  exact ⟨rfl, rfl⟩

set_option maxRecDepth 100000 in
set_option maxHeartbeats 4000000 in
theorem listsStr (v u : Value) (xs ys : List Value) (cs : Nat → Int) (w : World) (hA : SlAt w v xs) (hU : SlAt w u ys) (hs : xs.length ≤ 1048576) (hs2 : ys.length ≤ 1048576)
    (hC : ∀ W, Below w.heap.size w W → ∀ j (h1 : j < xs.length) (h2 : j < ys.length), Calls Try.prog 100 #[xs[j], ys[j]] W fun e W' => e = .returned (.int .i64 (cs j)) ∧ Below W.heap.size W W') :
    Calls Try.prog 99 #[v, u, .func (.func 100) #[] #[]] w fun e w' => (∃ r, e = .returned (.int .i64 r) ∧ FirstC cs xs.length ys.length r) ∧ Below w.heap.size w w' := by
  obtain ⟨a, c, rfl, _⟩ := id hA
  obtain ⟨a2, c2, rfl, _⟩ := id hU
  refine (callsIn_wide (n := 5)).1 ?_
  refine callsIn_of_wp_marks Try.func99 rfl trivial ?_ rfl
  simp only [Try.ntmps99, List.size_toArray, List.length_cons, List.length_nil, Nat.reduceAdd, Nat.reduceSub, Array.replicate_succ, Array.replicate_zero, List.push_toArray, List.append_toArray, List.nil_append, List.cons_append]
  gi_wp2_with (refine ⟨trivial, ?_⟩; gi_at_call 108; refine (callsIn_wide.2 (pairsStr _ _ _ _ _ _ _)).mono ?_; rintro e w' ⟨rfl, rfl⟩)
  obtain ⟨W0, hW0⟩ : ∃ W0, ((((w.alloc (.cells #[.func (.func 100) #[] #[]] 99)).alloc (.cells #[.int .i64 0] 3)).alloc (.cells #[.slice a xs.length c] 22)).alloc (.cells #[.slice a2 ys.length c2] 22)) = W0 := ⟨_, rfl⟩
  have bF : Boxed W0 w.heap.size 99 (.func (.func 100) #[] #[]) := by rw [← hW0]; exact (((Boxed.new w _ _).alloc _).alloc _).alloc _
  have bI : Boxed W0 (w.heap.size + 1) 3 (.int .i64 0) := by
    have := Boxed.new (w.alloc (.cells #[.func (.func 100) #[] #[]] 99)) 3 (.int .i64 0)
    rw [World.size_alloc] at this
    rw [← hW0]; exact (this.alloc _).alloc _
  have bV : Boxed W0 (w.heap.size + 1 + 1) 22 (.slice a xs.length c) := by
    have := Boxed.new ((w.alloc (.cells #[.func (.func 100) #[] #[]] 99)).alloc (.cells #[.int .i64 0] 3)) 22 (.slice a xs.length c)
    rw [World.size_alloc, World.size_alloc] at this
    rw [← hW0]; exact this.alloc _
  have bU : Boxed W0 (w.heap.size + 1 + 1 + 1) 22 (.slice a2 ys.length c2) := by
    have := Boxed.new (((w.alloc (.cells #[.func (.func 100) #[] #[]] 99)).alloc (.cells #[.int .i64 0] 3)).alloc (.cells #[.slice a xs.length c] 22)) 22 (.slice a2 ys.length c2)
    rw [World.size_alloc, World.size_alloc, World.size_alloc] at this
    rw [← hW0]; exact this
  have hsz : W0.heap.size = w.heap.size + 4 := by rw [← hW0]; simp
  have hB0 : Below w.heap.size w W0 := by rw [← hW0]; exact ((((Below.refl _ w).alloc (Nat.le_refl _) _).alloc (by simp) _).alloc (by simp; omega) _).alloc (by simp; omega) _
  have hrow := hA.row_lt
  have hrow2 := hU.row_lt
  rw [hW0]
  have HZ := Lib.hid hsz; clear hsz hW0
  refine wpIn_rangeFunc_ownG rfl (by omega) (gf := 115) (lb := #[.pointer (some ⟨w.heap.size + 1 + 1, 0, none⟩), .pointer (some ⟨w.heap.size + 1 + 1 + 1, 0, none⟩)]) rfl trivial (enters_of Try.func115 (by kernel_rfl) rfl)
    (pairs_stopsStr _ (by omega) (w.heap.size + 1 + 1) (w.heap.size + 1 + 1 + 1) (.slice a xs.length c) (.slice a2 ys.length c2) xs ys (by unfold maxLen; omega) (by unfold maxLen; omega) W0 (by rw [HZ.out]; omega) (by rw [HZ.out]; omega) bV.cell bU.cell (hA.below hB0) (hU.below hB0)) keepP_t
    (fun W l o o' hl h h1 h2 => ⟨keepN_b (by rw [HZ.out]; omega) (fun g e => by have := hrow g e; rw [HZ.out]; omega) W l o o' hl h h1 h2, keepN_b (by rw [HZ.out]; omega) (fun g e => by have := hrow2 g e; rw [HZ.out]; omega) W l o o' hl h h1 h2⟩) (Below.refl _ _) (fun _ => rfl)
    (fun pre W => Below W0.heap.size W0 W ∧ ∀ j ∈ pre, cs j.val = 0)
    (fun k pre W => k = .ret ∧ Boxed W (w.heap.size + 1) 3 (.int .i64 (lastC cs pre)) ∧ Below w.heap.size w W ∧ ∃ p x, pre = p ++ [x] ∧ (∀ j ∈ p, cs j.val = 0) ∧ cs x.val ≠ 0)
    (OwnFrom.and (ownFrom_below (Nat.le_refl _) (Nat.le_refl _)) (ownFrom_pure _ _))
    (fun _ => OwnFrom.and (ownFrom_pure _ _) (OwnFrom.and (Own.from (boxed_own _ _ _) _) (OwnFrom.and (ownFrom_below (Nat.le_refl _) (by rw [HZ.out]; omega)) (ownFrom_pure _ _))))
    ⟨Below.refl _ _, by simp⟩
    (fun j => { tmps := #[.slice a xs.length c, .slice a2 ys.length c2, .func (.func 100) #[] #[], undef, undef, .pointer (some ⟨w.heap.size, 0, none⟩), .pointer (some ⟨w.heap.size + 1, 0, none⟩), xs[j.val]'(by have := j.isLt; omega), ys[j.val]'(by have := j.isLt; omega), undef, .slice a xs.length c, .slice a2 ys.length c2, .func (.func 115) #[] #[.pointer (some ⟨w.heap.size + 1 + 1, 0, none⟩), .pointer (some ⟨w.heap.size + 1 + 1 + 1, 0, none⟩)], xs[j.val]'(by have := j.isLt; omega), ys[j.val]'(by have := j.isLt; omega), undef, undef, undef, undef, undef, undef, undef, undef, undef, undef, undef, undef], defers := [] }) ?assign ?body ?done ?stop
  case assign =>
    intro l x W K hK
    unfold pairV
    gi_wp2
    exact hK
  case body =>
    rintro l pre x W ⟨hB, hC0⟩ hlt
    have hxl := x.isLt
    have hx1 : x.val < xs.length := by omega
    have hx2 : x.val < ys.length := by omega
    have hBw : Below w.heap.size w W := hB0.trans (hB.mono (by rw [HZ.out]; omega))
    have hCk := hC W hBw x.val hx1 hx2
    have hFw : Boxed W w.heap.size 99 (.func (.func 100) #[] #[]) := (hB.block _ bF.lt).trans bF
    have hIw : Boxed W (w.heap.size + 1) 3 (.int .i64 0) := (hB.block _ bI.lt).trans bI
    have cF := hFw.cell
    have hsz1 := hB.size
    have hls := lastC_snoc cs pre x
    generalize xs[x.val] = sv at *
    generalize ys[x.val] = tv at *
    generalize hq : cs x.val = q at *
    have HL := Lib.hid hls
    have HQ := Lib.hid hq
    clear hls hq
    by_cases hq0 : (q != 0) = true
    · have hn : q ≠ 0 := by simpa using hq0
      have HN := Lib.hid hn; clear hn
      gi_wp2_with (refine ⟨trivial, ?_⟩; gi_at_call 100; refine (CallsIn.inRound l (callsIn_wide.2 hCk)).mono ?_; rintro e w2 ⟨rfl, hb2⟩; have hI2 : Boxed w2 (w.heap.size + 1) 3 (.int .i64 0) := (hb2.block _ hIw.lt).trans hIw; have c2 := hI2.cell; have f2 := hI2.frozen)
      have ko : KeepsOthers W w2 := ⟨hb2.size, fun k o hk _ => (hb2.block k (Array.getElem?_eq_some_iff.1 hk).1).trans hk⟩
      exact ⟨(ko.trans (KeepsOthers.setCell _ _ _)).from _, rfl, by rw [HL.out]; exact hI2.set _, (hBw.trans (hb2.mono hBw.size)).setCell (p := ⟨w.heap.size + 1, 0, none⟩) (by simp) _, pre, x, rfl, hC0, by rw [HQ.out]; exact HN.out⟩
    · have hn : (q != 0) = false := by simpa using hq0
      have HN := Lib.hid hn
      clear hq0
      gi_wp2_with (refine ⟨trivial, ?_⟩; gi_at_call 100; refine (CallsIn.inRound l (callsIn_wide.2 hCk)).mono ?_; rintro e w2 ⟨rfl, hb2⟩)
      have ko : KeepsOthers W w2 := ⟨hb2.size, fun k o hk _ => (hb2.block k (Array.getElem?_eq_some_iff.1 hk).1).trans hk⟩
      refine ⟨ko.from _, ⟨KeepN.below hb2 (by have := HZ.out; omega) (fun g e => by have := hrow g e; have := HZ.out; omega), KeepN.below hb2 (by have := HZ.out; omega) (fun g e => by have := hrow2 g e; have := HZ.out; omega)⟩, hB.trans (hb2.mono hB.size), ?_⟩
      intro j hj
      rcases List.mem_append.1 hj with hj | hj
      · exact hC0 j hj
      · obtain rfl := List.mem_singleton.1 hj
        rw [HQ.out]; simpa using HN.out
  case done =>
    rintro D zs W hD rfl ⟨hB, hC0⟩ hK
    have hIw : Boxed W (w.heap.size + 1) 3 (.int .i64 0) := (hB.block _ bI.lt).trans bI
    have c0 := hIw.cell; have f0 := hIw.frozen
    have hBw : Below w.heap.size w W := hB0.trans (hB.mono (by rw [HZ.out]; omega))
    have hDn : w.heap.size + 1 ≠ D := by have := HZ.out; omega
    have HC0 := Lib.hid hC0; clear hC0
    gi_wp2_with (refine ⟨trivial, ?_⟩; gi_at_call 53; refine (callsIn_wide.2 (cmp_int _ _ _)).mono ?_; rintro e w2 ⟨rfl, rfl⟩)
    refine ⟨by simp, .inl ⟨_, _, rfl, run_takeDeferred (heap_setOther hK hDn.symm _), ?_⟩⟩
    refine ⟨_, results_cell rfl Try.underlying3 _ _ rfl (out_cell (hIw.set _) hDn _), ⟨_, rfl, .inr ⟨fun j h1 h2 => HC0.out ⟨j, by omega⟩ (List.mem_finRange _), rfl⟩⟩, ?_⟩
    exact below_putO (hBw.setCell (p := ⟨w.heap.size + 1, 0, none⟩) (by simp) _) (by have := HZ.out; omega) (Nat.le_refl _)
  case stop =>
    rintro D c3 pre W hD hp ⟨rfl, hI, hB, p, x, rfl, hC0, hne⟩ hK
    have hpf := pre_fin hp
    have hDn : w.heap.size + 1 ≠ D := by have := HZ.out; omega
    rw [lastC_snoc] at hI
    have hxl := x.isLt
    gi_wp2
    refine ⟨by simp, .inl ⟨_, _, rfl, run_takeDeferred hK, ?_⟩⟩
    refine ⟨_, results_cell rfl Try.underlying3 _ _ rfl (out_cell hI hDn _), ⟨_, rfl, .inl ⟨x.val, by omega, by omega, fun j hj => hC0 _ (hpf j hj), hne, rfl⟩⟩, ?_⟩
    exact below_putO hB (by have := HZ.out; omega) (Nat.le_refl _)

end
end Go.Proofs.Yteppgeiejknhoaa

/-
  rdata.pairs, rdata.compareLists at byte. (Written by wip/tools/gen4.py.)
-/
namespace Go.Proofs.Yteppgeiejknhoaa
set_option maxRecDepth 20000
open Go.RowKit Go.Shelf

section
attribute [local go_sem] Oper.semAt_some

set_option maxRecDepth 100000 in
set_option maxHeartbeats 2000000 in
theorem pairs1_inU8 (n : Nat) (hn : 1 ≤ n) (l b b2 : Nat) (v u : Value) (xs ys : List Value) (hs : xs.length ≤ maxLen) (hs2 : ys.length ≤ maxLen) (J Jx : List (Fin (min xs.length ys.length)) → World → Prop)
    (hJ : ∀ pre W k, J pre W → J pre (W.drewN k))
    (hY : ∀ pre x W, J pre W → pre.length < min xs.length ys.length → YieldAt Fence.wide (n - 1) Try.prog l (pairV xs ys x) W fun e W' =>
      (e = .returned (.bool true) ∧ J (pre ++ [x]) W' ∧ KeepP b b2 v u W W') ∨ (e = .returned (.bool false) ∧ Jx (pre ++ [x]) W'))
    (W : World) (hc : W.cell? ⟨b, 0, none⟩ = some v) (hc2 : W.cell? ⟨b2, 0, none⟩ = some u) (hA : SlAt W v xs) (hU : SlAt W u ys) (h0 : J [] W) :
    CallsIn Fence.wide n Try.prog 116 #[.func (.yield l) #[] #[], .pointer (some ⟨b, 0, none⟩), .pointer (some ⟨b2, 0, none⟩)] W fun e W' => (∃ v, e = .returned v) ∧
      ((∃ zs, zs = List.finRange (min xs.length ys.length) ∧ J zs W') ∨ (∃ pre, pre <+: List.finRange (min xs.length ys.length) ∧ Jx pre W')) := by
  unfold maxLen at hs hs2
  obtain ⟨a, c, rfl, hle, hnn, hx⟩ := hA
  obtain ⟨a2, c2, rfl, hle2, hnn2, hx2⟩ := hU
  obtain ⟨m, hm⟩ : ∃ m, min xs.length ys.length = m := ⟨_, rfl⟩
  have hmi : min (xs.length : Int) (ys.length : Int) = (m : Int) := by omega
  have hmx : m ≤ xs.length := by omega
  have hmy : m ≤ ys.length := by omega
  refine callsIn_of_wp Try.func116 rfl trivial ?_ rfl
  simp only [Try.ntmps116, List.size_toArray, List.length_cons, List.length_nil, Nat.reduceAdd, Nat.reduceSub, Array.replicate_succ, Array.replicate_zero, List.push_toArray, List.append_toArray, List.nil_append, List.cons_append]
  gi_wp2
  gi_loopw [10] (fun i wr => ∃ k : Nat, k ≤ m ∧ i = .int .i64 k ∧ J ((List.finRange (min xs.length ys.length)).take k) wr ∧ KeepP b b2 (.slice a xs.length c) (.slice a2 ys.length c2) W wr)
    (fun i _ => m - (intOf i).toNat)
  case atStart => exact ⟨0, Nat.zero_le _, rfl, h0, KeepP.refl _ _ _ _ _⟩
  case round =>
    obtain ⟨k, hk, rfl, hJs, hnx⟩ := hrel
    by_cases hlt : k < m
    · have hkx : k < xs.length := by omega
      have hky : k < ys.length := by omega
      rcases hx with e | ⟨g, off, rfl, hg, hcells⟩
      · subst e; simp at hkx
      rcases hx2 with e | ⟨g2, off2, rfl, hg2, hcells2⟩
      · subst e; simp at hky
      have hcell : wr.cell? ⟨g, off + k, none⟩ = some xs[k] := ((hnx.1.2 g (rowOf_at hkx)).cell).trans (hcells k hkx)
      have hcell2 : wr.cell? ⟨g2, off2 + k, none⟩ = some ys[k] := ((hnx.2.2 g2 (rowOf_at hky)).cell).trans (hcells2 k hky)
      have hkm : k < min xs.length ys.length := by omega
      have hY1 := fun q => hY _ ⟨k, hkm⟩ (wr.drewN q) (hJ _ _ q hJs) (by simp; omega)
      have hcb : wr.cell? ⟨b, 0, none⟩ = some (.slice (some ⟨g, off, none⟩) xs.length c) := hnx.1.1.cell.trans hc
      have hcb2 : wr.cell? ⟨b2, 0, none⟩ = some (.slice (some ⟨g2, off2, none⟩) ys.length c2) := hnx.2.1.cell.trans hc2
      have htk : (List.finRange (min xs.length ys.length)).take (k + 1) = (List.finRange (min xs.length ys.length)).take k ++ [⟨k, hkm⟩] := finRange_take_succ _
      have HTK := Lib.hid htk; clear htk
      have HM := Lib.hid hm
      unfold pairV at hY1
      generalize xs[k] = sv at *
      generalize ys[k] = tv at *
      clear hcells hcells2 hm hmi
      gi_wp2
      refine wpIn_region_tail 9 rfl follows_mixed (by kernel_rfl) ?_
      simp only [List.take_succ_cons, List.take_zero, List.drop_succ_cons, List.drop_zero]
      repeat (quiet_step_in (fail))
      refine wpQuietIn_nil ?_
      intro _ hw'
      obtain ⟨nq, hw''⟩ := hw'
      subst hw''
      obtain ⟨fn, tmps, assign, body, hy, hR⟩ := hY1 nq
      clear hY1
      gi_wp2
      refine hR.mono ?_
      rintro e W3 (⟨rfl, hJ3, hk3⟩ | ⟨rfl, hJx3⟩)
      · gi_wp2
        go_roundw
        case rel => exact ⟨k + 1, by omega, by simp, by rw [HTK.out]; exact hJ3, hnx.trans ((KeepP.drewN _ _).trans hk3)⟩
        case measure => simp [intOf]; omega
      · gi_wp2
        refine bodyPost_ret (results_none rfl _ _ _) rfl ?_
        exact ⟨⟨_, rfl⟩, .inr ⟨_, by rw [← HTK.out]; exact List.take_prefix _ _, hJx3⟩⟩
    · obtain rfl : k = m := by omega
      gi_wp2
      go_end0
      exact ⟨⟨_, rfl⟩, .inl ⟨_, by rw [List.take_of_length_le (by simp; omega)], hJs⟩⟩

theorem pairs_stopsU8 (n : Nat) (hn : 1 ≤ n) (b b2 : Nat) (v u : Value) (xs ys : List Value) (hs : xs.length ≤ maxLen) (hs2 : ys.length ≤ maxLen) (w : World) (hb : b < w.heap.size) (hb2 : b2 < w.heap.size)
    (hc : w.cell? ⟨b, 0, none⟩ = some v) (hc2 : w.cell? ⟨b2, 0, none⟩ = some u) (hA : SlAt w v xs) (hU : SlAt w u ys) :
    SeqStopsK Fence.wide n Try.prog 116 #[.pointer (some ⟨b, 0, none⟩), .pointer (some ⟨b2, 0, none⟩)] (pairV xs ys) (KeepP b b2 v u) (fun zs => zs = List.finRange (min xs.length ys.length)) (fun pre => pre <+: List.finRange (min xs.length ys.length)) (min xs.length ys.length) w := fun l J Jx W hW hJ _ hY h0 =>
  pairs1_inU8 n hn l b b2 v u xs ys hs hs2 J Jx (fun pre W' k h => hJ pre W' _ none h ⟨rfl, rfl, rfl, Nat.le_refl _, fun _ _ _ => rfl⟩ (fun _ e => by cases e)) hY W ((hW.cell (p := ⟨b, 0, none⟩) hb).trans hc) ((hW.cell (p := ⟨b2, 0, none⟩) hb2).trans hc2) (hA.below hW) (hU.below hW) h0
set_option maxHeartbeats 400000 in
theorem pairsU8 (a a2 : Option Addr) (n n2 c c2 : Nat) (w : World) :
    Calls Try.prog 110 #[.slice a n c, .slice a2 n2 c2] w fun e w' => e = .returned (.func (.func 116) #[] #[.pointer (some ⟨w.heap.size, 0, none⟩), .pointer (some ⟨w.heap.size + 1, 0, none⟩)]) ∧ w' = (w.alloc (.cells #[.slice a n c] 46)).alloc (.cells #[.slice a2 n2 c2] 46) := by
  go_enter Try.func110, Try.ntmps110
  go_wp2
  go_ret
  exact ⟨rfl, rfl⟩

set_option maxRecDepth 100000 in
set_option maxHeartbeats 4000000 in
theorem listsU8 (v u : Value) (xs ys : List Value) (cs : Nat → Int) (w : World) (hA : SlAt w v xs) (hU : SlAt w u ys) (hs : xs.length ≤ 1048576) (hs2 : ys.length ≤ 1048576)
    (hC : ∀ W, Below w.heap.size w W → ∀ j (h1 : j < xs.length) (h2 : j < ys.length), Calls Try.prog 81 #[xs[j], ys[j]] W fun e W' => e = .returned (.int .i64 (cs j)) ∧ Below W.heap.size W W') :
    Calls Try.prog 101 #[v, u, .func (.func 81) #[] #[]] w fun e w' => (∃ r, e = .returned (.int .i64 r) ∧ FirstC cs xs.length ys.length r) ∧ Below w.heap.size w w' := by
  obtain ⟨a, c, rfl, _⟩ := id hA
  obtain ⟨a2, c2, rfl, _⟩ := id hU
  refine (callsIn_wide (n := 5)).1 ?_
  refine callsIn_of_wp_marks Try.func101 rfl trivial ?_ rfl
  simp only [Try.ntmps101, List.size_toArray, List.length_cons, List.length_nil, Nat.reduceAdd, Nat.reduceSub, Array.replicate_succ, Array.replicate_zero, List.push_toArray, List.append_toArray, List.nil_append, List.cons_append]
  gi_wp2_with (refine ⟨trivial, ?_⟩; gi_at_call 110; refine (callsIn_wide.2 (pairsU8 _ _ _ _ _ _ _)).mono ?_; rintro e w' ⟨rfl, rfl⟩)
  obtain ⟨W0, hW0⟩ : ∃ W0, ((((w.alloc (.cells #[.func (.func 81) #[] #[]] 120)).alloc (.cells #[.int .i64 0] 3)).alloc (.cells #[.slice a xs.length c] 46)).alloc (.cells #[.slice a2 ys.length c2] 46)) = W0 := ⟨_, rfl⟩
  have bF : Boxed W0 w.heap.size 120 (.func (.func 81) #[] #[]) := by rw [← hW0]; exact (((Boxed.new w _ _).alloc _).alloc _).alloc _
  have bI : Boxed W0 (w.heap.size + 1) 3 (.int .i64 0) := by
    have := Boxed.new (w.alloc (.cells #[.func (.func 81) #[] #[]] 120)) 3 (.int .i64 0)
    rw [World.size_alloc] at this
    rw [← hW0]; exact (this.alloc _).alloc _
  have bV : Boxed W0 (w.heap.size + 1 + 1) 46 (.slice a xs.length c) := by
    have := Boxed.new ((w.alloc (.cells #[.func (.func 81) #[] #[]] 120)).alloc (.cells #[.int .i64 0] 3)) 46 (.slice a xs.length c)
    rw [World.size_alloc, World.size_alloc] at this
    rw [← hW0]; exact this.alloc _
  have bU : Boxed W0 (w.heap.size + 1 + 1 + 1) 46 (.slice a2 ys.length c2) := by
    have := Boxed.new (((w.alloc (.cells #[.func (.func 81) #[] #[]] 120)).alloc (.cells #[.int .i64 0] 3)).alloc (.cells #[.slice a xs.length c] 46)) 46 (.slice a2 ys.length c2)
    rw [World.size_alloc, World.size_alloc, World.size_alloc] at this
    rw [← hW0]; exact this
  have hsz : W0.heap.size = w.heap.size + 4 := by rw [← hW0]; simp
  have hB0 : Below w.heap.size w W0 := by rw [← hW0]; exact ((((Below.refl _ w).alloc (Nat.le_refl _) _).alloc (by simp) _).alloc (by simp; omega) _).alloc (by simp; omega) _
  have hrow := hA.row_lt
  have hrow2 := hU.row_lt
  rw [hW0]
  have HZ := Lib.hid hsz; clear hsz hW0
  refine wpIn_rangeFunc_ownG rfl (by omega) (gf := 116) (lb := #[.pointer (some ⟨w.heap.size + 1 + 1, 0, none⟩), .pointer (some ⟨w.heap.size + 1 + 1 + 1, 0, none⟩)]) rfl trivial (enters_of Try.func116 (by kernel_rfl) rfl)
    (pairs_stopsU8 _ (by omega) (w.heap.size + 1 + 1) (w.heap.size + 1 + 1 + 1) (.slice a xs.length c) (.slice a2 ys.length c2) xs ys (by unfold maxLen; omega) (by unfold maxLen; omega) W0 (by rw [HZ.out]; omega) (by rw [HZ.out]; omega) bV.cell bU.cell (hA.below hB0) (hU.below hB0)) keepP_t
    (fun W l o o' hl h h1 h2 => ⟨keepN_b (by rw [HZ.out]; omega) (fun g e => by have := hrow g e; rw [HZ.out]; omega) W l o o' hl h h1 h2, keepN_b (by rw [HZ.out]; omega) (fun g e => by have := hrow2 g e; rw [HZ.out]; omega) W l o o' hl h h1 h2⟩) (Below.refl _ _) (fun _ => rfl)
    (fun pre W => Below W0.heap.size W0 W ∧ ∀ j ∈ pre, cs j.val = 0)
    (fun k pre W => k = .ret ∧ Boxed W (w.heap.size + 1) 3 (.int .i64 (lastC cs pre)) ∧ Below w.heap.size w W ∧ ∃ p x, pre = p ++ [x] ∧ (∀ j ∈ p, cs j.val = 0) ∧ cs x.val ≠ 0)
    (OwnFrom.and (ownFrom_below (Nat.le_refl _) (Nat.le_refl _)) (ownFrom_pure _ _))
    (fun _ => OwnFrom.and (ownFrom_pure _ _) (OwnFrom.and (Own.from (boxed_own _ _ _) _) (OwnFrom.and (ownFrom_below (Nat.le_refl _) (by rw [HZ.out]; omega)) (ownFrom_pure _ _))))
    ⟨Below.refl _ _, by simp⟩
    (fun j => { tmps := #[.slice a xs.length c, .slice a2 ys.length c2, .func (.func 81) #[] #[], undef, undef, .pointer (some ⟨w.heap.size, 0, none⟩), .pointer (some ⟨w.heap.size + 1, 0, none⟩), xs[j.val]'(by have := j.isLt; omega), ys[j.val]'(by have := j.isLt; omega), undef, .slice a xs.length c, .slice a2 ys.length c2, .func (.func 116) #[] #[.pointer (some ⟨w.heap.size + 1 + 1, 0, none⟩), .pointer (some ⟨w.heap.size + 1 + 1 + 1, 0, none⟩)], xs[j.val]'(by have := j.isLt; omega), ys[j.val]'(by have := j.isLt; omega), undef, undef, undef, undef, undef, undef, undef, undef, undef, undef, undef, undef], defers := [] }) ?assign ?body ?done ?stop
  case assign =>
    intro l x W K hK
    unfold pairV
    gi_wp2
    exact hK
  case body =>
    rintro l pre x W ⟨hB, hC0⟩ hlt
    have hxl := x.isLt
    have hx1 : x.val < xs.length := by omega
    have hx2 : x.val < ys.length := by omega
    have hBw : Below w.heap.size w W := hB0.trans (hB.mono (by rw [HZ.out]; omega))
    have hCk := hC W hBw x.val hx1 hx2
    have hFw : Boxed W w.heap.size 120 (.func (.func 81) #[] #[]) := (hB.block _ bF.lt).trans bF
    have hIw : Boxed W (w.heap.size + 1) 3 (.int .i64 0) := (hB.block _ bI.lt).trans bI
    have cF := hFw.cell
    have hsz1 := hB.size
    have hls := lastC_snoc cs pre x
    generalize xs[x.val] = sv at *
    generalize ys[x.val] = tv at *
    generalize hq : cs x.val = q at *
    have HL := Lib.hid hls
    have HQ := Lib.hid hq
    clear hls hq
    by_cases hq0 : (q != 0) = true
    · have hn : q ≠ 0 := by simpa using hq0
      have HN := Lib.hid hn; clear hn
      gi_wp2_with (refine ⟨trivial, ?_⟩; gi_at_call 81; refine (CallsIn.inRound l (callsIn_wide.2 hCk)).mono ?_; rintro e w2 ⟨rfl, hb2⟩; have hI2 : Boxed w2 (w.heap.size + 1) 3 (.int .i64 0) := (hb2.block _ hIw.lt).trans hIw; have c2 := hI2.cell; have f2 := hI2.frozen)
      have ko : KeepsOthers W w2 := ⟨hb2.size, fun k o hk _ => (hb2.block k (Array.getElem?_eq_some_iff.1 hk).1).trans hk⟩
      exact ⟨(ko.trans (KeepsOthers.setCell _ _ _)).from _, rfl, by rw [HL.out]; exact hI2.set _, (hBw.trans (hb2.mono hBw.size)).setCell (p := ⟨w.heap.size + 1, 0, none⟩) (by simp) _, pre, x, rfl, hC0, by rw [HQ.out]; exact HN.out⟩
    · have hn : (q != 0) = false := by simpa using hq0
      have HN := Lib.hid hn
      clear hq0
      gi_wp2_with (refine ⟨trivial, ?_⟩; gi_at_call 81; refine (CallsIn.inRound l (callsIn_wide.2 hCk)).mono ?_; rintro e w2 ⟨rfl, hb2⟩)
      have ko : KeepsOthers W w2 := ⟨hb2.size, fun k o hk _ => (hb2.block k (Array.getElem?_eq_some_iff.1 hk).1).trans hk⟩
      refine ⟨ko.from _, ⟨KeepN.below hb2 (by have := HZ.out; omega) (fun g e => by have := hrow g e; have := HZ.out; omega), KeepN.below hb2 (by have := HZ.out; omega) (fun g e => by have := hrow2 g e; have := HZ.out; omega)⟩, hB.trans (hb2.mono hB.size), ?_⟩
      intro j hj
      rcases List.mem_append.1 hj with hj | hj
      · exact hC0 j hj
      · obtain rfl := List.mem_singleton.1 hj
        rw [HQ.out]; simpa using HN.out
  case done =>
    rintro D zs W hD rfl ⟨hB, hC0⟩ hK
    have hIw : Boxed W (w.heap.size + 1) 3 (.int .i64 0) := (hB.block _ bI.lt).trans bI
    have c0 := hIw.cell; have f0 := hIw.frozen
    have hBw : Below w.heap.size w W := hB0.trans (hB.mono (by rw [HZ.out]; omega))
    have hDn : w.heap.size + 1 ≠ D := by have := HZ.out; omega
    have HC0 := Lib.hid hC0; clear hC0
    gi_wp2_with (refine ⟨trivial, ?_⟩; gi_at_call 53; refine (callsIn_wide.2 (cmp_int _ _ _)).mono ?_; rintro e w2 ⟨rfl, rfl⟩)
    refine ⟨by simp, .inl ⟨_, _, rfl, run_takeDeferred (heap_setOther hK hDn.symm _), ?_⟩⟩
    refine ⟨_, results_cell rfl Try.underlying3 _ _ rfl (out_cell (hIw.set _) hDn _), ⟨_, rfl, .inr ⟨fun j h1 h2 => HC0.out ⟨j, by omega⟩ (List.mem_finRange _), rfl⟩⟩, ?_⟩
    exact below_putO (hBw.setCell (p := ⟨w.heap.size + 1, 0, none⟩) (by simp) _) (by have := HZ.out; omega) (Nat.le_refl _)
  case stop =>
    rintro D c3 pre W hD hp ⟨rfl, hI, hB, p, x, rfl, hC0, hne⟩ hK
    have hpf := pre_fin hp
    have hDn : w.heap.size + 1 ≠ D := by have := HZ.out; omega
    rw [lastC_snoc] at hI
    have hxl := x.isLt
    gi_wp2
    refine ⟨by simp, .inl ⟨_, _, rfl, run_takeDeferred hK, ?_⟩⟩
    refine ⟨_, results_cell rfl Try.underlying3 _ _ rfl (out_cell hI hDn _), ⟨_, rfl, .inl ⟨x.val, by omega, by omega, fun j hj => hC0 _ (hpf j hj), hne, rfl⟩⟩, ?_⟩
    exact below_putO hB (by have := HZ.out; omega) (Nat.le_refl _)

end
end Go.Proofs.Yteppgeiejknhoaa

