/-
  Contracts of package label's small functions: Check, digit, small, appendOctet, octets. They only compute, or append to a slice of the caller's own.
-/
import Derived.Test.YtnpnfajgphpabaaMQ39
namespace Go.Proofs.Ytnpnfajgphpabaa
set_option linter.unusedVariables false
set_option linter.unusedSimpArgs false
set_option maxRecDepth 20000
open Go.RowKit Go.Shelf

/-- P101's Check, on octets. -/
def checkLabelM (l : List UInt8) : Int := if l = [] then 8 else if 63 < l.length then 3 else 0

def digitU (c : UInt8) : Bool := decide (48 ≤ c.toNat ∧ c.toNat ≤ 57)

def smallU (c : UInt8) : UInt8 := if 65 ≤ c.toNat ∧ c.toNat ≤ 90 then c + 32 else c

theorem smallU_hi (c : UInt8) (h1 : 65 ≤ (c.toNat : Int)) (h2 : (c.toNat : Int) ≤ 90) : (c.toNat : Int) + 97 - 65 = ((smallU c).toNat : Int) := by
  unfold smallU; rw [if_pos ⟨by omega, by omega⟩, UInt8.toNat_add]; simp; omega
theorem smallU_lo (c : UInt8) (h : ¬ (65 ≤ (c.toNat : Int) ∧ (c.toNat : Int) ≤ 90)) : (c.toNat : Int) = ((smallU c).toNat : Int) := by
  unfold smallU; rw [if_neg (by omega)]

set_option maxHeartbeats 400000 in
theorem label_small (c : UInt8) (w : World) :
    Calls Try.prog 70 #[.int .u8 (c.toNat : Int)] w fun e w' => e = .returned (.int .u8 ((smallU c).toNat : Int)) ∧ w = w' := by
  have h1 : (c.toNat : Int) ≤ 255 := by have := c.toNat_lt; omega
  by_cases h : (65 : Int) ≤ (c.toNat : Int) ∧ (c.toNat : Int) ≤ 90
  · have ha := smallU_hi c h.1 h.2
    have H := Lib.hid ha; clear ha
    obtain ⟨h2, h3⟩ := h
    go_enter Try.func70, Try.ntmps70
    go_wp2
    go_ret
    exact ⟨ret_int H.out, rfl⟩
  · have ha := smallU_lo c h
    have H := Lib.hid ha; clear ha
    by_cases h2 : (65 : Int) ≤ (c.toNat : Int)
    all_goals
      go_enter Try.func70, Try.ntmps70
      go_wp2
      try (exfalso; omega)
      try (go_ret; exact ⟨ret_int H.out, rfl⟩)


/-! ### octets -/

section
attribute [local go_sem] Oper.semAt_some

set_option maxRecDepth 100000 in
set_option maxHeartbeats 1000000 in
theorem octets1_in (n : Nat) (hn : 1 ≤ n) (l b : Nat) (s : ByteArray) (hs : s.size ≤ maxLen) (J Jx : List UInt8 → World → Prop)
    (hY : ∀ pre x W, J pre W → pre.length < s.size → YieldAt Fence.wide (n - 1) Try.prog l #[.int .u8 (x.toNat : Int)] W fun e W' =>
      (e = .returned (.bool true) ∧ J (pre ++ [x]) W' ∧ KeepB b W W') ∨ (e = .returned (.bool false) ∧ Jx (pre ++ [x]) W'))
    (W : World) (hc : W.cell? ⟨b, 0, none⟩ = some (.string s)) (h0 : J [] W) :
    CallsIn Fence.wide n Try.prog 77 #[.func (.yield l) #[] #[], .pointer (some ⟨b, 0, none⟩)] W fun e W' => (∃ v, e = .returned v) ∧
      ((∃ ys, ys = s.data.toList ∧ J ys W') ∨ (∃ pre, pre <+: s.data.toList ∧ Jx pre W')) := by
  unfold maxLen at hs
  refine callsIn_of_wp Try.func77 rfl trivial ?_ rfl
  simp only [Try.ntmps77, List.size_toArray, List.length_cons, List.length_nil, Nat.reduceAdd, Nat.reduceSub, Array.replicate_succ, Array.replicate_zero, List.push_toArray, List.append_toArray, List.nil_append, List.cons_append]
  gi_wp2
  gi_loopw [6] (fun i wr => ∃ k : Nat, k ≤ s.size ∧ i = .int .i64 k ∧ J (s.data.toList.take k) wr ∧ KeepB b W wr)
    (fun i _ => s.size - (intOf i).toNat)
  case atStart => exact ⟨0, Nat.zero_le _, rfl, h0, KeepB.refl _ _⟩
  case round =>
    obtain ⟨k, hk, rfl, hJs, hnx⟩ := hrel
    have hcb : wr.cell? ⟨b, 0, none⟩ = some (.string s) := hnx.cell.trans hc
    by_cases hlt : k < s.size
    · obtain ⟨fn, tmps, assign, body, hy, hR⟩ := hY _ s[k] wr hJs (by simp; omega)
      gi_wp2
      refine hR.mono ?_
      rintro e W3 (⟨rfl, hJ3, hk3⟩ | ⟨rfl, hJx3⟩)
      · gi_wp2
        go_roundw
        case rel => exact ⟨k + 1, by omega, by simp, by rw [take_snoc_get s k hlt]; exact hJ3, hnx.trans hk3⟩
        case measure => simp [intOf]; omega
      · gi_wp2
        refine bodyPost_ret (results_none rfl _ _ _) rfl ?_
        exact ⟨⟨_, rfl⟩, .inr ⟨_, by rw [← take_snoc_get s k hlt]; exact List.take_prefix _ _, hJx3⟩⟩
    · obtain rfl : k = s.size := by omega
      gi_wp2
      go_end0
      exact ⟨⟨_, rfl⟩, .inl ⟨_, by rw [List.take_of_length_le (by simp)], hJs⟩⟩

theorem octets_stops (n : Nat) (hn : 1 ≤ n) (b : Nat) (s : ByteArray) (hs : s.size ≤ maxLen) (w : World) (hb : b < w.heap.size)
    (hc : w.cell? ⟨b, 0, none⟩ = some (.string s)) :
    SeqStopsK Fence.wide n Try.prog 77 #[.pointer (some ⟨b, 0, none⟩)] (fun x : UInt8 => #[Value.int .u8 (x.toNat : Int)]) (KeepB b) (fun ys => ys = s.data.toList) (fun pre => pre <+: s.data.toList) s.size w := fun l J Jx W hW _ _ hY h0 =>
  octets1_in n hn l b s hs J Jx hY W ((hW.cell (p := ⟨b, 0, none⟩) hb).trans hc) h0

set_option maxHeartbeats 400000 in
theorem label_octets (s : ByteArray) (w : World) :
    Calls Try.prog 69 #[.string s] w fun e w' => e = .returned (.func (.func 77) #[] #[.pointer (some ⟨w.heap.size, 0, none⟩)]) ∧ w' = w.alloc (.cells #[.string s] 9) := by
  go_enter Try.func69, Try.ntmps69
  go_wp2
  go_ret
  exact ⟨rfl, rfl⟩
end

/-! ### appendOctet -/

def specialU (c : UInt8) : Bool := decide (c.toNat = 46 ∨ c.toNat = 92 ∨ c.toNat = 34 ∨ c.toNat = 40 ∨ c.toNat = 41 ∨ c.toNat = 59 ∨ c.toNat = 64 ∨ c.toNat = 36)
def octetW (c : UInt8) : List UInt8 :=
  if specialU c then [92, c] else if c.toNat < 33 ∨ 126 < c.toNat then [92, 48 + c / 100, 48 + c / 10 % 10, 48 + c % 10] else [c]

def octetEsc (c : UInt8) : List UInt8 := [92, 48 + c / 100, 48 + c / 10 % 10, 48 + c % 10]

theorem octetW_special {c : UInt8} (h : specialU c = true) : octetW c = [92, c] := by simp [octetW, h]
theorem octetW_esc {c : UInt8} (h : specialU c = false) (h2 : (c.toNat : Int) < 33 ∨ 126 < (c.toNat : Int)) : octetW c = octetEsc c := by
  have : c.toNat < 33 ∨ 126 < c.toNat := by omega
  simp [octetW, h, this, octetEsc]
theorem octetW_plain {c : UInt8} (h : specialU c = false) (h2 : 33 ≤ (c.toNat : Int)) (h3 : (c.toNat : Int) ≤ 126) : octetW c = [c] := by
  have : ¬ (c.toNat < 33 ∨ 126 < c.toNat) := by omega
  simp [octetW, h, this]

theorem sp_of {c : UInt8} (n : Int) (hn : n = 46 ∨ n = 92 ∨ n = 34 ∨ n = 40 ∨ n = 41 ∨ n = 59 ∨ n = 64 ∨ n = 36) (h : ((c.toNat : Int) == n) = true) : specialU c = true := by
  simp only [beq_iff_eq] at h
  unfold specialU; apply decide_eq_true; omega
theorem sp_not {c : UInt8} (h1 : ((c.toNat : Int) == 46) = false) (h2 : ((c.toNat : Int) == 92) = false) (h3 : ((c.toNat : Int) == 34) = false) (h4 : ((c.toNat : Int) == 40) = false)
    (h5 : ((c.toNat : Int) == 41) = false) (h6 : ((c.toNat : Int) == 59) = false) (h7 : ((c.toNat : Int) == 64) = false) (h8 : ((c.toNat : Int) == 36) = false) : specialU c = false := by
  simp only [beq_eq_false_iff_ne, ne_eq] at h1 h2 h3 h4 h5 h6 h7 h8
  unfold specialU; apply decide_eq_false; omega
theorem esc_cells (c : UInt8) : [Value.int .u8 92, .int .u8 (48 + (c.toNat : Int) / 100), .int .u8 (48 + (c.toNat : Int) / 10 % 10), .int .u8 (48 + (c.toNat : Int) % 10)] = (octetEsc c).map bv := by
  have := c.toNat_lt
  simp only [octetEsc, List.map_cons, List.map_nil, bv, UInt8.toNat_add, UInt8.toNat_div, UInt8.toNat_mod, UInt8.reduceToNat]
  have e1 : (48 + c.toNat / 100) % 2 ^ 8 = 48 + c.toNat / 100 := by omega
  have e2 : (48 + c.toNat / 10 % 10) % 2 ^ 8 = 48 + c.toNat / 10 % 10 := by omega
  have e3 : (48 + c.toNat % 10) % 2 ^ 8 = 48 + c.toNat % 10 := by omega
  rw [e1, e2, e3]
  simp

theorem fin_app {c : UInt8} {v v' : Value} {base : Nat} {xs : List UInt8} {w w1 : World} (l : List UInt8) (e : octetW c = l)
    (hown1 : OwnU8 w1 base v' (xs ++ l)) (hgrow : w.grownBy w1 v.ownBlock) : AppendsU8 base (xs ++ octetW c) w v (.returned v') w1 := by
  subst e; exact ⟨v', rfl, hown1, hgrow⟩

end Go.Proofs.Ytnpnfajgphpabaa

