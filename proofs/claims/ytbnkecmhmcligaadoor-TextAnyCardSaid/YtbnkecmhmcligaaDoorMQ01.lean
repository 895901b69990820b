/-
  Contracts of package label's small functions: Check, digit, small, appendOctet, octets. They only compute, or append to a slice of the caller's own.
-/
import Derived.Test.YtbnkecmhmcligaaDoorMQ06
namespace Go.Proofs.YtbnkecmhmcligaaDoor
set_option linter.unusedVariables false
set_option linter.unusedSimpArgs false
set_option maxRecDepth 20000
open Go.RowKit Go.Shelf

/-- P101's Check, on octets. -/
def checkLabelM (l : List UInt8) : Int := if l = [] then 8 else if 63 < l.length then 3 else 0

def digitU (c : UInt8) : Bool := decide (48 ≤ c.toNat ∧ c.toNat ≤ 57)

def smallU (c : UInt8) : UInt8 := if 65 ≤ c.toNat ∧ c.toNat ≤ 90 then c + 32 else c

theorem smallU_hi (c : UInt8) (h1 : 65 ≤ (c.toNat : Int)) (h2 : (c.toNat : Int) ≤ 90) : (c.toNat : Int) + 97 - 65 = ((smallU c).toNat : Int) := by
  unfold smallU; rw [if_pos ⟨by omega, by omega⟩, UInt8.toNat_add]; simp; omega
theorem smallU_lo (c : UInt8) (h : ¬ (65 ≤ (c.toNat : Int) ∧ (c.toNat : Int) ≤ 90)) : (c.toNat : Int) = ((smallU c).toNat : Int) := by
  unfold smallU; rw [if_neg (by omega)]

/-! ### octets -/

section
attribute [local go_sem] Oper.semAt_some

set_option maxRecDepth 100000 in
set_option maxHeartbeats 1000000 in
theorem octets1_in (n : Nat) (hn : 1 ≤ n) (l b : Nat) (s : ByteArray) (hs : s.size ≤ maxLen) (J Jx : List UInt8 → World → Prop)
    (hY : ∀ pre x W, J pre W → pre.length < s.size → YieldAt Fence.wide (n - 1) Tryd.prog l #[.int .u8 (x.toNat : Int)] W fun e W' =>
      (e = .returned (.bool true) ∧ J (pre ++ [x]) W' ∧ KeepB b W W') ∨ (e = .returned (.bool false) ∧ Jx (pre ++ [x]) W'))
    (W : World) (hc : W.cell? ⟨b, 0, none⟩ = some (.string s)) (h0 : J [] W) :
    CallsIn Fence.wide n Tryd.prog 57 #[.func (.yield l) #[] #[], .pointer (some ⟨b, 0, none⟩)] W fun e W' => (∃ v, e = .returned v) ∧
      ((∃ ys, ys = s.data.toList ∧ J ys W') ∨ (∃ pre, pre <+: s.data.toList ∧ Jx pre W')) := by
  unfold maxLen at hs
  refine callsIn_of_wp Tryd.func57 rfl trivial ?_ rfl
  simp only [Tryd.ntmps57, List.size_toArray, List.length_cons, List.length_nil, Nat.reduceAdd, Nat.reduceSub, Array.replicate_succ, Array.replicate_zero, List.push_toArray, List.append_toArray, List.nil_append, List.cons_append]
  gi_wp2
  gi_loopw [6] (fun i wr => ∃ k : Nat, k ≤ s.size ∧ i = .int .i64 k ∧ J (s.data.toList.take k) wr ∧ KeepB b W wr)
    (fun i _ => s.size - (intOf i).toNat)
  case atStart => exact ⟨0, Nat.zero_le _, rfl, h0, KeepB.refl _ _⟩
  case round =>
    obtain ⟨k, hk, rfl, hJs, hnx⟩ := hrel
    have hcb : wr.cell? ⟨b, 0, none⟩ = some (.string s) := hnx.cell.trans hc
    by_cases hlt : k < s.size
    · obtain ⟨fn, tmps, assign, body, hy, hR⟩ := hY _ s[k] wr hJs (by simp; omega)
      gi_wp2
      refine hR.mono ?_
      rintro e W3 (⟨rfl, hJ3, hk3⟩ | ⟨rfl, hJx3⟩)
      · gi_wp2
        go_roundw
        case rel => exact ⟨k + 1, by omega, by simp, by rw [take_snoc_get s k hlt]; exact hJ3, hnx.trans hk3⟩
        case measure => simp [intOf]; omega
      · gi_wp2
        refine bodyPost_ret (results_none rfl _ _ _) rfl ?_
        exact ⟨⟨_, rfl⟩, .inr ⟨_, by rw [← take_snoc_get s k hlt]; exact List.take_prefix _ _, hJx3⟩⟩
    · obtain rfl : k = s.size := by omega
      gi_wp2
      go_end0
      exact ⟨⟨_, rfl⟩, .inl ⟨_, by rw [List.take_of_length_le (by simp)], hJs⟩⟩

theorem octets_stops (n : Nat) (hn : 1 ≤ n) (b : Nat) (s : ByteArray) (hs : s.size ≤ maxLen) (w : World) (hb : b < w.heap.size)
    (hc : w.cell? ⟨b, 0, none⟩ = some (.string s)) :
    SeqStopsK Fence.wide n Tryd.prog 57 #[.pointer (some ⟨b, 0, none⟩)] (fun x : UInt8 => #[Value.int .u8 (x.toNat : Int)]) (KeepB b) (fun ys => ys = s.data.toList) (fun pre => pre <+: s.data.toList) s.size w := fun l J Jx W hW _ _ hY h0 =>
  octets1_in n hn l b s hs J Jx hY W ((hW.cell (p := ⟨b, 0, none⟩) hb).trans hc) h0

set_option maxHeartbeats 400000 in
theorem label_octets (s : ByteArray) (w : World) :
    Calls Tryd.prog 50 #[.string s] w fun e w' => e = .returned (.func (.func 57) #[] #[.pointer (some ⟨w.heap.size, 0, none⟩)]) ∧ w' = w.alloc (.cells #[.string s] 9) := by
  go_enter Tryd.func50, Tryd.ntmps50
  go_wp2
  go_ret
  exact ⟨rfl, rfl⟩
end

/-! ### appendOctet -/

def specialU (c : UInt8) : Bool := decide (c.toNat = 46 ∨ c.toNat = 92 ∨ c.toNat = 34 ∨ c.toNat = 40 ∨ c.toNat = 41 ∨ c.toNat = 59 ∨ c.toNat = 64 ∨ c.toNat = 36)
def octetW (c : UInt8) : List UInt8 :=
  if specialU c then [92, c] else if c.toNat < 33 ∨ 126 < c.toNat then [92, 48 + c / 100, 48 + c / 10 % 10, 48 + c % 10] else [c]

def octetEsc (c : UInt8) : List UInt8 := [92, 48 + c / 100, 48 + c / 10 % 10, 48 + c % 10]

theorem octetW_special {c : UInt8} (h : specialU c = true) : octetW c = [92, c] := by simp [octetW, h]
theorem octetW_esc {c : UInt8} (h : specialU c = false) (h2 : (c.toNat : Int) < 33 ∨ 126 < (c.toNat : Int)) : octetW c = octetEsc c := by
  have : c.toNat < 33 ∨ 126 < c.toNat := by omega
  simp [octetW, h, this, octetEsc]
theorem octetW_plain {c : UInt8} (h : specialU c = false) (h2 : 33 ≤ (c.toNat : Int)) (h3 : (c.toNat : Int) ≤ 126) : octetW c = [c] := by
  have : ¬ (c.toNat < 33 ∨ 126 < c.toNat) := by omega
  simp [octetW, h, this]

theorem sp_of {c : UInt8} (n : Int) (hn : n = 46 ∨ n = 92 ∨ n = 34 ∨ n = 40 ∨ n = 41 ∨ n = 59 ∨ n = 64 ∨ n = 36) (h : ((c.toNat : Int) == n) = true) : specialU c = true := by
  simp only [beq_iff_eq] at h
  unfold specialU; apply decide_eq_true; omega
theorem sp_not {c : UInt8} (h1 : ((c.toNat : Int) == 46) = false) (h2 : ((c.toNat : Int) == 92) = false) (h3 : ((c.toNat : Int) == 34) = false) (h4 : ((c.toNat : Int) == 40) = false)
    (h5 : ((c.toNat : Int) == 41) = false) (h6 : ((c.toNat : Int) == 59) = false) (h7 : ((c.toNat : Int) == 64) = false) (h8 : ((c.toNat : Int) == 36) = false) : specialU c = false := by
  simp only [beq_eq_false_iff_ne, ne_eq] at h1 h2 h3 h4 h5 h6 h7 h8
  unfold specialU; apply decide_eq_false; omega
theorem esc_cells (c : UInt8) : [Value.int .u8 92, .int .u8 (48 + (c.toNat : Int) / 100), .int .u8 (48 + (c.toNat : Int) / 10 % 10), .int .u8 (48 + (c.toNat : Int) % 10)] = (octetEsc c).map bv := by
  have := c.toNat_lt
  simp only [octetEsc, List.map_cons, List.map_nil, bv, UInt8.toNat_add, UInt8.toNat_div, UInt8.toNat_mod, UInt8.reduceToNat]
  have e1 : (48 + c.toNat / 100) % 2 ^ 8 = 48 + c.toNat / 100 := by omega
  have e2 : (48 + c.toNat / 10 % 10) % 2 ^ 8 = 48 + c.toNat / 10 % 10 := by omega
  have e3 : (48 + c.toNat % 10) % 2 ^ 8 = 48 + c.toNat % 10 := by omega
  rw [e1, e2, e3]
  simp

theorem fin_app {c : UInt8} {v v' : Value} {base : Nat} {xs : List UInt8} {w w1 : World} (l : List UInt8) (e : octetW c = l)
    (hown1 : OwnU8 w1 base v' (xs ++ l)) (hgrow : w.grownBy w1 v.ownBlock) : AppendsU8 base (xs ++ octetW c) w v (.returned v') w1 := by
  subst e; exact ⟨v', rfl, hown1, hgrow⟩

set_option maxHeartbeats 1000000 in
theorem label_appendOctet (c : UInt8) (v : Value) (base : Nat) (xs : List UInt8) (w : World) (hown : OwnU8 w base v xs) (hbase : base ≤ w.heap.size) (hk : xs.length + 4 ≤ 140737488355328) :
    Calls Tryd.prog 51 #[v, .int .u8 (c.toNat : Int)] w (AppendsU8 base (xs ++ octetW c) w v) := by
  have h1 : (c.toNat : Int) ≤ 255 := by have := c.toNat_lt; omega
  have h0 : 0 ≤ (c.toNat : Int) := by omega
  go_enter Tryd.func51, Tryd.ntmps51
  go_wp2_with (first | (at_builtin; refine wpl_append_u8 w rfl (.tmp 15) (.tmp 17) rfl base v xs rfl hown [.int .u8 92, .int .u8 (c.toNat : Int)] [92, c] rfl 2 2 rfl rfl hbase (by simp; omega) ?_; intro v' w1 hown1 hgrow) | (at_builtin; refine wpl_append_u8 w rfl (.tmp 25) (.tmp 36) rfl base v xs rfl hown _ (octetEsc c) (esc_cells c) 4 4 rfl rfl hbase (by simp [octetEsc]; omega) ?_; intro v' w1 hown1 hgrow) | (at_builtin; refine wpl_append_u8 w rfl (.tmp 38) (.tmp 40) rfl base v xs rfl hown [.int .u8 (c.toNat : Int)] [c] rfl 1 1 rfl rfl hbase (by simp; omega) ?_; intro v' w1 hown1 hgrow))
  all_goals go_ret
  all_goals first
    | (refine fin_app [92, c] ?_ hown1 hgrow; refine octetW_special ?_; first | (refine sp_of 46 (by decide) ?_; assumption) | (refine sp_of 92 (by decide) ?_; assumption) | (refine sp_of 34 (by decide) ?_; assumption) | (refine sp_of 40 (by decide) ?_; assumption) | (refine sp_of 41 (by decide) ?_; assumption) | (refine sp_of 59 (by decide) ?_; assumption) | (refine sp_of 64 (by decide) ?_; assumption) | (refine sp_of 36 (by decide) ?_; assumption))
    | (refine fin_app (octetEsc c) ?_ hown1 hgrow; refine octetW_esc (sp_not ?_ ?_ ?_ ?_ ?_ ?_ ?_ ?_) ?_ <;> first | assumption | omega)
    | (refine fin_app [c] ?_ hown1 hgrow; refine octetW_plain (sp_not ?_ ?_ ?_ ?_ ?_ ?_ ?_ ?_) ?_ ?_ <;> first | assumption | omega)

end Go.Proofs.YtbnkecmhmcligaaDoor

