/-
  The document's names (package toponymref6): Compare.
-/
import Derived.Test.YtnpnfajgphpabaaMQ24
import Derived.IntWalk
namespace Go.Proofs.Ytnpnfajgphpabaa
set_option linter.unusedVariables false
set_option linter.unusedSimpArgs false
set_option maxRecDepth 20000
open Go.RowKit Go.Shelf

theorem rev_cons {xs : Nm} {k p : Nat} (h : xs.length = p + k + 1) (hp : p < xs.length) : xs.reverse.drop k = xs[p] :: xs.reverse.drop (k + 1) := by
  rw [List.drop_eq_getElem_cons (by simp; omega)]
  congr 1
  simp only [List.getElem_reverse]
  congr 1; omega
theorem cmpR_end (p q : Nm) (h : p = [] ∨ q = []) : cmpR p q = cmpI ((p.length : Int) - q.length) 0 := by
  cases p with
  | nil =>
    cases q with
    | nil => rfl
    | cons y t => simp only [cmpR]; unfold cmpI; rw [if_pos (by simp only [List.length_nil, List.length_cons]; omega)]
  | cons x r =>
    cases q with
    | nil => simp only [cmpR]; unfold cmpI; rw [if_neg (by simp only [List.length_nil, List.length_cons]; omega), if_pos (by simp only [List.length_nil, List.length_cons]; omega)]
    | cons y t => rcases h with h | h <;> cases h

set_option maxHeartbeats 8000000 in
theorem ref_Compare (v u : Value) (xs ys : Nm) (w : World) (hA : StrsAt w v xs) (hU : StrsAt w u ys) (hk : NmOK xs) (hk2 : NmOK ys) :
    Calls Try.prog 50 #[v, u] w fun e w' => e = .returned (.int .i64 (compareN xs ys)) ∧ Below w.heap.size w w' := by
  obtain ⟨a, c, rfl, _⟩ := id hA
  obtain ⟨a2, c2, rfl, _⟩ := id hU
  have hm := hk.1
  have hm2 := hk2.1
  have hcell := fun W' (hb : Below w.heap.size w W') j hj => hA.cell hb j hj
  have hcell2 := fun W' (hb : Below w.heap.size w W') j hj => hU.cell hb j hj
  have hSg := fun (d : Int) W => ref_sign d W
  have hE := Lib.hid (show compareN xs ys = cmpR (xs.reverse.drop 0) (ys.reverse.drop 0) from rfl)
  generalize compareN xs ys = r at *
  obtain ⟨n, hn⟩ : ∃ n, xs.length = n := ⟨_, rfl⟩
  obtain ⟨m, hn2⟩ : ∃ m, ys.length = m := ⟨_, rfl⟩
  rw [hn] at hm ⊢
  rw [hn2] at hm2 ⊢
  have HN := Lib.hid hn; have HN2 := Lib.hid hn2
  clear hA hU hn hn2
  go_enter Try.func50, Try.ntmps50
  go_wp2
  go_loopw [5] (fun i wr => ∃ k : Nat, i = .int .i64 ((k : Int) + 1) ∧ k ≤ n ∧ k ≤ m ∧ Hid (r = cmpR (xs.reverse.drop k) (ys.reverse.drop k)) ∧ Below w.heap.size w wr) (fun i _ => n + 1 - (intOf i).toNat)
  case atStart => exact ⟨0, rfl, Nat.zero_le _, Nat.zero_le _, hE, Below.refl _ _⟩
  case round =>
    obtain ⟨k, rfl, hkn, hkm, HC, hB⟩ := hrel
    by_cases hlt : k < n ∧ k < m
    · obtain ⟨h1, h2⟩ := hlt
      obtain ⟨p, hp⟩ : ∃ p, n = p + k + 1 := ⟨n - k - 1, by omega⟩
      obtain ⟨q, hq⟩ : ∃ q, m = q + k + 1 := ⟨m - k - 1, by omega⟩
      have hkp : p < xs.length := by rw [HN.out]; omega
      have hkq : q < ys.length := by rw [HN2.out]; omega
      obtain ⟨g, off, rfl, hg, hc⟩ := hcell wr hB p hkp
      obtain ⟨g2, off2, rfl, hg2, hc2⟩ := hcell2 wr hB q hkq
      obtain ⟨s, hs0, hsz, hsv⟩ := str_of xs[p]
      obtain ⟨t, ht0, htz, htv⟩ := str_of ys[q]
      rw [hsv] at hc
      rw [htv] at hc2
      have hs1 := hk.get p hkp
      have ht1 := hk2.get q hkq
      have hF := fun W => ref_CompareLabel s t W (by omega) (by omega)
      have hBz := hB.size
      have hS0 : wr.cell? ⟨g, off + p, none⟩ = some (.string s) ∧ wr.cell? ⟨g2, off2 + q, none⟩ = some (.string t) ∧ Below w.heap.size w wr := ⟨hc, hc2, hB⟩
      have hr : Hid (r = if compareM xs[p] ys[q] = 0 then cmpR (xs.reverse.drop (k + 1)) (ys.reverse.drop (k + 1)) else compareM xs[p] ys[q]) := Lib.hid (by
        rw [HC.out, rev_cons (p := p) (by rw [HN.out]; exact hp) hkp, rev_cons (p := q) (by rw [HN2.out]; exact hq) hkq]; rfl)
      rw [hs0, ht0] at hF
      clear hs0 hsz hsv ht0 htz htv hs1 ht1 hcell hcell2 hk hk2 hc hc2 hB HC
      generalize compareM xs[p] ys[q] = x at *
      have w1 : IntKind.i64.wrap ((n : Int) - ((k : Int) + 1)) = (p : Int) := by rw [IntWalk.i64_in _ (by omega)]; omega
      have w2 : IntKind.i64.wrap ((m : Int) - ((k : Int) + 1)) = (q : Int) := by rw [IntWalk.i64_in _ (by omega)]; omega
      have p0 : (0 : Int) ≤ (p : Int) := by omega
      have p1 : (p : Int) < (n : Int) := by omega
      have q0 : (0 : Int) ≤ (q : Int) := by omega
      have q1 : (q : Int) < (m : Int) := by omega
      have HP := Lib.hid hp; have HQ := Lib.hid hq
      have W1 := Lib.hid w1; have W2 := Lib.hid w2
      clear hp hq w1 w2
      have KS := Lib.hid (fun (W W' : World) (h : W.cell? ⟨g, off + p, none⟩ = some (.string s) ∧ W.cell? ⟨g2, off2 + q, none⟩ = some (.string t) ∧ Below w.heap.size w W) (hb : Below W.heap.size W W') => keepS2 h hb hg hg2 (Nat.le_refl _))
      by_cases hx : (x != 0) = true
      · go_wp2
        have e1 := W1.out; have e2 := W2.out
        go_region_held3 (fun W' => W'.cell? ⟨g, off + p, none⟩ = some (.string s) ∧ W'.cell? ⟨g2, off2 + q, none⟩ = some (.string t) ∧ Below w.heap.size w W') (first | assumption | exact ⟨hS0.1, hS0.2.1, below_drewQ hS0.2.2 1⟩) (first | ((with_reducible refine (hF _).mono ?_); rintro e w2 ⟨rfl, hb2⟩; have hS2 := KS.out _ _ (by assumption) hb2))
        clear e1 e2
        have HR : Hid (r = x) := Lib.hid (by rw [hr.out, if_neg (by simpa using hx)])
        go_wp2
        go_ret
        exact ⟨by rw [HR.out]; rfl, hS2.2.2⟩
      · have hx0 : (x != 0) = false := by simpa using hx
        have HR : Hid (r = cmpR (xs.reverse.drop (k + 1)) (ys.reverse.drop (k + 1))) := Lib.hid (by rw [hr.out, if_pos (by simpa using hx0)])
        clear hx hr
        go_wp2
        have e1 := W1.out; have e2 := W2.out
        go_region_held3 (fun W' => W'.cell? ⟨g, off + p, none⟩ = some (.string s) ∧ W'.cell? ⟨g2, off2 + q, none⟩ = some (.string t) ∧ Below w.heap.size w W') (first | assumption | exact ⟨hS0.1, hS0.2.1, below_drewQ hS0.2.2 1⟩) (first | ((with_reducible refine (hF _).mono ?_); rintro e w2 ⟨rfl, hb2⟩; have hS2 := KS.out _ _ (by assumption) hb2))
        clear e1 e2
        go_wp2
        go_roundw
        case rel => exact ⟨k + 1, by go_num, by omega, by omega, HR, hS2.2.2⟩
        case measure => simp [intOf]; omega
    · have hd : Hid (r = cmpI ((n : Int) - m) 0) := Lib.hid (by
        have hl : (xs.reverse.drop k).length = n - k := by have := HN.out; simp; omega
        have hl2 : (ys.reverse.drop k).length = m - k := by have := HN2.out; simp; omega
        rw [HC.out, cmpR_end _ _ (by
          by_cases e : k < n
          · right; exact List.eq_nil_of_length_eq_zero (by omega)
          · left; exact List.eq_nil_of_length_eq_zero (by omega)), hl, hl2]
        congr 1; omega)
      have hb : (n : Int) < (k : Int) + 1 ∨ ((k : Int) + 1 ≤ n ∧ (m : Int) < (k : Int) + 1) := by omega
      rcases hb with hb | ⟨hb1, hb⟩
      all_goals
        go_wp2_with (go_at_call 63; refine (hSg _ _).mono ?_; rintro e w2 ⟨rfl, rfl⟩)
        go_ret
        exact ⟨by rw [hd.out]; rfl, hB⟩
end Go.Proofs.Ytnpnfajgphpabaa

