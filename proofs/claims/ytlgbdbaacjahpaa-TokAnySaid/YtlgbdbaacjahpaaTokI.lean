/-
  The program's octets: tok.octets as an iterator.
-/
import Derived.Test.YtlgbdbaacjahpaaTokO
import Derived.Test.YtlgbdbaacjahpaaRes
import Derived.RangeFuncKeeps
import Derived.RangeFuncNested
namespace Go.Proofs.Ytlgbdbaacjahpaa
open Go.RowKit Go.Shelf
set_option maxRecDepth 20000

def octV (p : Nat × UInt8) : Array Value := #[.int .i64 (p.1 : Int), bv p.2]
/-- Was the octet ahead of place k no end? -/
def openAtK (l : List UInt8) (k : Nat) : Bool := match (l.take k).getLast? with | none => false | some c => decide (c ≠ 10)
theorem openAtK_succ {l : List UInt8} {k : Nat} (h : k < l.length) : openAtK l (k + 1) = decide (l[k] ≠ 10) := by
  unfold openAtK
  rw [List.take_succ_eq_append_getElem h, List.getLast?_append]
  rfl
theorem octE_drop {l : List UInt8} {k m : Nat} {p : Bool} (h : k < l.length) : octE m p (l.drop k) = if l[k] = 13 ∧ l[k + 1]? = some 10 then octE m (openAtK l (k + 1)) (l.drop (k + 1)) else (m, l[k]) :: octE (if l[k] = 10 then m + 1 else m) (openAtK l (k + 1)) (l.drop (k + 1)) := by
  rw [List.drop_eq_getElem_cons h, octE, List.head?_drop, openAtK_succ h]
  by_cases hc : l[k] = 13 ∧ l[k + 1]? = some 10
  · rw [if_pos hc, if_pos hc]
    have : decide (l[k] ≠ 10) = true := by rw [hc.1]; decide
    rw [this]
  · rw [if_neg hc, if_neg hc]
theorem octE_end (l : List UInt8) (m : Nat) : octE m (openAtK l l.length) (l.drop l.length) = if openAtK l l.length = true then [(m, 10)] else [] := by
  rw [List.drop_length, octE]
theorem oct_ne {c d : UInt8} (h : c ≠ d) (n : Int) (hn : (d.toNat : Int) = n) : ((c.toNat : Int) == n) = false := by
  rw [← hn]
  simp only [beq_eq_false_iff_ne, ne_eq]
  intro e
  exact h (UInt8.toNat_inj.1 (by omega))
section
attribute [local go_sem] Oper.semAt_some
set_option maxRecDepth 100000 in
set_option maxHeartbeats 4000000 in
theorem octets1_in (n : Nat) (hn : 1 ≤ n) (l b : Nat) (s : ByteArray) (xs : List UInt8) (hxs : s.data.toList = xs) (hs : s.size ≤ 1048576) (J Jx : List (Nat × UInt8) → World → Prop)
    (hY : ∀ pre x W, J pre W → pre.length < s.size + 1 → YieldAt Fence.wide (n - 1) Try.prog l (octV x) W fun e W' =>
      (e = .returned (.bool true) ∧ J (pre ++ [x]) W' ∧ KeepB b W W') ∨ (e = .returned (.bool false) ∧ Jx (pre ++ [x]) W'))
    (W : World) (hc : W.cell? ⟨b, 0, none⟩ = some (.string s)) (h0 : J [] W) :
    CallsIn Fence.wide n Try.prog 13 #[.func (.yield l) #[] #[], .pointer (some ⟨b, 0, none⟩)] W fun e W' => (∃ v, e = .returned v) ∧
      ((∃ ys, ys = octE 1 false xs ∧ J ys W') ∨ (∃ pre, pre <+: octE 1 false xs ∧ Jx pre W')) := by
  refine callsIn_of_wp Try.func13 rfl trivial ?_ rfl
  simp only [Try.ntmps13, List.size_toArray, List.length_cons, List.length_nil, Nat.reduceAdd, Nat.reduceSub, Array.replicate_succ, Array.replicate_zero, List.push_toArray, List.append_toArray, List.nil_append, List.cons_append]
  have hsz : xs.length = s.size := by rw [← hxs]; simp
  have HX := Lib.hid hxs; have HSZ := Lib.hid hsz
  clear hxs hsz
  gi_wp2
  gi_loopw [3, 4, 7] (fun ln _ i wr => ∃ (k m : Nat) (pre : List (Nat × UInt8)), k ≤ s.size ∧ i = .int .i64 k ∧ ln = .int .i64 m ∧ m ≤ k + 1 ∧ pre.length ≤ k ∧ J pre wr ∧ Hid (pre ++ octE m (openAtK xs k) (xs.drop k) = octE 1 false xs) ∧ KeepB b W wr)
    (fun _ _ i _ => s.size - (intOf i).toNat)
  case atStart => exact ⟨0, 1, [], Nat.zero_le _, rfl, rfl, by omega, Nat.le_refl _, h0, Lib.hid rfl, KeepB.refl _ _⟩
  case round =>
    obtain ⟨k, m, pre, hk, rfl, rfl, hm, hp, hJ, HE, hkb⟩ := hrel
    have hcr : wr.cell? ⟨b, 0, none⟩ = some (.string s) := hkb.cell.trans hc
    by_cases hlt : k < s.size
    · have hlti : (k : Int) < (s.size : Int) := by omega
      have hlx : k < xs.length := by rw [HSZ.out]; exact hlt
      obtain ⟨c, hcv⟩ : ∃ c, s[k]'hlt = c := ⟨_, rfl⟩
      have hxc : xs[k]'hlx = c := by rw [← hcv]; have h := HX.out; subst h; simp; rfl
      have hst := octE_drop (m := m) (p := openAtK xs k) hlx
      rw [hxc] at hst
      by_cases hskip : c = 13 ∧ xs[k + 1]? = some 10
      · rw [if_pos hskip] at hst
        have HST := Lib.hid hst
        obtain ⟨hlx1, hx1⟩ := List.getElem?_eq_some_iff.1 hskip.2
        have hlt1 : k + 1 < s.size := by rw [← HSZ.out]; exact hlx1
        have hlti1 : (k : Int) + 1 < (s.size : Int) := by omega
        have hcv1 : s[k + 1]'hlt1 = 10 := by rw [← hx1]; have h := HX.out; subst h; simp; rfl
        rw [hskip.1] at hcv
        clear hst hskip hxc hx1
        gi_wp2
        go_roundw
        case rel => exact ⟨k + 1, m, pre, by omega, by go_num, rfl, by omega, by omega, hJ, Lib.hid (by rw [← HE.out, HST.out]), hkb⟩
        case measure => simp [intOf]; omega
      rw [if_neg hskip] at hst
      have HST := Lib.hid hst
      obtain ⟨fn, tmps, assign, body, hy, hR⟩ := hY pre (m, c) wr hJ (by omega)
      unfold octV bv at hy
      dsimp only at hy
      clear hst
      by_cases h13 : c = 13
      · have H13 := Lib.hid h13
        have z13 : (((c.toNat : Nat) : Int) == 13) = true := by rw [h13]; rfl
        by_cases hlt1 : k + 1 < s.size
        · have hlti1 : (k : Int) + 1 < (s.size : Int) := by omega
          obtain ⟨d, hdv⟩ : ∃ d, s[k + 1]'hlt1 = d := ⟨_, rfl⟩
          have hd : d ≠ 10 := by
            intro e
            refine hskip ⟨h13, ?_⟩
            rw [List.getElem?_eq_some_iff]
            refine ⟨by rw [HSZ.out]; exact hlt1, ?_⟩
            rw [← e, ← hdv]; have h := HX.out; subst h; simp; rfl
          have zd : (((d.toNat : Nat) : Int) == 10) = false := oct_ne hd 10 rfl
          clear hskip h13 hd hxc
          gi_wp2
          refine hR.mono ?_
          rintro e W3 (⟨rfl, hJ3, hk3⟩ | ⟨rfl, hJx3⟩)
          · have hcr3 : W3.cell? ⟨b, 0, none⟩ = some (.string s) := hk3.cell.trans hcr
            have H10 := Lib.hid (show c ≠ 10 by rw [H13.out]; decide)
            have z10 : (((c.toNat : Nat) : Int) == 10) = false := oct_ne H10.out 10 rfl
            gi_wp2
            go_roundw
            case rel => exact ⟨k + 1, m, pre ++ [(m, c)], by omega, by go_num, rfl, by omega, by simp; omega, hJ3, Lib.hid (by rw [List.append_assoc, ← HE.out, HST.out, if_neg H10.out]; rfl), hkb.trans hk3⟩
            case measure => simp [intOf]; omega
          · gi_wp2
            refine bodyPost_ret (results_none rfl _ _ _) rfl ?_
            exact ⟨⟨_, rfl⟩, .inr ⟨_, ⟨_, by rw [List.append_assoc, ← HE.out, HST.out]; rfl⟩, hJx3⟩⟩
        · have hlti1 : ¬ ((k : Int) + 1 < (s.size : Int)) := by omega
          clear hskip h13 hxc
          gi_wp2
          refine hR.mono ?_
          rintro e W3 (⟨rfl, hJ3, hk3⟩ | ⟨rfl, hJx3⟩)
          · have hcr3 : W3.cell? ⟨b, 0, none⟩ = some (.string s) := hk3.cell.trans hcr
            have H10 := Lib.hid (show c ≠ 10 by rw [H13.out]; decide)
            have z10 : (((c.toNat : Nat) : Int) == 10) = false := oct_ne H10.out 10 rfl
            gi_wp2
            go_roundw
            case rel => exact ⟨k + 1, m, pre ++ [(m, c)], by omega, by go_num, rfl, by omega, by simp; omega, hJ3, Lib.hid (by rw [List.append_assoc, ← HE.out, HST.out, if_neg H10.out]; rfl), hkb.trans hk3⟩
            case measure => simp [intOf]; omega
          · gi_wp2
            refine bodyPost_ret (results_none rfl _ _ _) rfl ?_
            exact ⟨⟨_, rfl⟩, .inr ⟨_, ⟨_, by rw [List.append_assoc, ← HE.out, HST.out]; rfl⟩, hJx3⟩⟩
      · have z13 : (((c.toNat : Nat) : Int) == 13) = false := oct_ne h13 13 rfl
        clear hskip h13 hxc
        gi_wp2
        refine hR.mono ?_
        rintro e W3 (⟨rfl, hJ3, hk3⟩ | ⟨rfl, hJx3⟩)
        · have hcr3 : W3.cell? ⟨b, 0, none⟩ = some (.string s) := hk3.cell.trans hcr
          by_cases h10 : c = 10
          · have z10 : (((c.toNat : Nat) : Int) == 10) = true := by subst h10; rfl
            have H10 := Lib.hid h10
            clear h10
            gi_wp2
            go_roundw
            case rel => exact ⟨k + 1, m + 1, pre ++ [(m, c)], by omega, by go_num, by go_num, by omega, by simp; omega, hJ3, Lib.hid (by rw [List.append_assoc, ← HE.out, HST.out, if_pos H10.out]; rfl), hkb.trans hk3⟩
            case measure => simp [intOf]; omega
          · have z10 : (((c.toNat : Nat) : Int) == 10) = false := oct_ne h10 10 rfl
            have H10 := Lib.hid h10
            clear h10
            gi_wp2
            go_roundw
            case rel => exact ⟨k + 1, m, pre ++ [(m, c)], by omega, by go_num, rfl, by omega, by simp; omega, hJ3, Lib.hid (by rw [List.append_assoc, ← HE.out, HST.out, if_neg H10.out]; rfl), hkb.trans hk3⟩
            case measure => simp [intOf]; omega
        · gi_wp2
          refine bodyPost_ret (results_none rfl _ _ _) rfl ?_
          exact ⟨⟨_, rfl⟩, .inr ⟨_, ⟨_, by rw [List.append_assoc, ← HE.out, HST.out]; rfl⟩, hJx3⟩⟩
    · obtain rfl : k = s.size := by omega
      have hend := octE_end xs m
      rw [HSZ.out] at hend
      by_cases hx0 : xs = []
      · have hb0 : s.toList.isEmpty = true := by rw [toList_data, HX.out, hx0]; rfl
        have ho : openAtK xs s.size = false := by rw [hx0]; unfold openAtK; rw [List.take_nil]; rfl
        have HN := Lib.hid (show octE m (openAtK xs s.size) (xs.drop s.size) = [] by rw [hend, ho]; rfl)
        have hz0 : s.toList = [] := by rw [toList_data, HX.out, hx0]
        clear hend ho hx0
        gi_wp2
        go_end0
        exact ⟨⟨_, rfl⟩, .inl ⟨pre, by rw [← HE.out, HN.out, List.append_nil], hJ⟩⟩
      · have hpos : 0 < s.size := by rw [← HSZ.out]; exact List.length_pos_iff.2 hx0
        have hb0 : s.toList.isEmpty = false := by rw [toList_data, HX.out]; simpa using hx0
        have hz0 : ¬ s.toList = [] := by rw [toList_data, HX.out]; exact hx0
        obtain ⟨q, hq⟩ : ∃ q, s.size = q + 1 := ⟨s.size - 1, by omega⟩
        have hqlt : s.size - 1 < s.size := by omega
        have hqx : q < xs.length := by rw [HSZ.out]; omega
        obtain ⟨c, hcv⟩ : ∃ c, s[s.size - 1]'hqlt = c := ⟨_, rfl⟩
        have hxc : xs[q]'hqx = c := by
          rw [← hcv]
          have h := HX.out
          subst h
          simp only [hq, Nat.add_sub_cancel, Array.getElem_toList]
          rfl
        have ho := openAtK_succ hqx
        rw [hxc, ← hq] at ho
        have hi1 : (1 : Int) ≤ (s.size : Int) := by omega
        have hi2 : (s.size : Int) - 1 < (s.size : Int) := by omega
        by_cases h10 : c = 10
        · have HN := Lib.hid (show octE m (openAtK xs s.size) (xs.drop s.size) = [] by rw [hend, ho, h10]; rfl)
          have z10 : (((c.toNat : Nat) : Int) != 10) = false := by subst h10; rfl
          clear hend ho hxc h10 hq hpos
          gi_wp2
          go_end0
          exact ⟨⟨_, rfl⟩, .inl ⟨pre, by rw [← HE.out, HN.out, List.append_nil], hJ⟩⟩
        · have HN := Lib.hid (show octE m (openAtK xs s.size) (xs.drop s.size) = [(m, 10)] by rw [hend, ho]; simp [h10])
          have z10 : (((c.toNat : Nat) : Int) != 10) = true := by
            have := oct_ne h10 10 rfl
            simp only [bne, this, Bool.not_false]
          obtain ⟨fn, tmps, assign, body, hy, hR⟩ := hY pre (m, 10) wr hJ (by omega)
          unfold octV bv at hy
          dsimp only at hy
          rw [show (((10 : UInt8).toNat : Nat) : Int) = 10 from rfl] at hy
          clear hend ho hxc h10 hq hpos
          gi_wp2
          refine hR.mono ?_
          rintro e W3 (⟨rfl, hJ3, hk3⟩ | ⟨rfl, hJx3⟩)
          · gi_wp2
            go_end0
            exact ⟨⟨_, rfl⟩, .inl ⟨_, by rw [← HE.out, HN.out], hJ3⟩⟩
          · gi_wp2
            go_end0
            exact ⟨⟨_, rfl⟩, .inr ⟨_, by rw [← HE.out, HN.out]; exact List.prefix_refl _, hJx3⟩⟩
theorem octets_stops (n : Nat) (hn : 1 ≤ n) (b : Nat) (s : ByteArray) (hs : s.size ≤ 1048576) (w : World) (hb : b < w.heap.size) (hc : w.cell? ⟨b, 0, none⟩ = some (.string s)) :
    SeqStopsK Fence.wide n Try.prog 13 #[.pointer (some ⟨b, 0, none⟩)] octV (KeepB b) (fun ys => ys = octE 1 false s.data.toList) (fun pre => pre <+: octE 1 false s.data.toList) (s.size + 1) w := fun l J Jx W hW _ _ hY h0 =>
  octets1_in n hn l b s s.data.toList rfl hs J Jx hY W ((hW.cell (p := ⟨b, 0, none⟩) hb).trans hc) h0
set_option maxHeartbeats 400000 in
theorem tok_octets (s : ByteArray) (w : World) :
    Calls Try.prog 10 #[.string s] w fun e w' => e = .returned (.func (.func 13) #[] #[.pointer (some ⟨w.heap.size, 0, none⟩)]) ∧ w' = w.alloc (.cells #[.string s] 9) := by
  go_enter Try.func10, Try.ntmps10
  go_wp2
  go_ret
  exact ⟨rfl, rfl⟩
end
end Go.Proofs.Ytlgbdbaacjahpaa
