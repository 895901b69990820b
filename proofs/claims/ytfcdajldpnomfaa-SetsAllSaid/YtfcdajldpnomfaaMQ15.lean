/-
  The document's names (package toponymref6): Compare.
-/
import Derived.Test.YtfcdajldpnomfaaMQ14
import Derived.IntWalk
import Derived.Test.YtfcdajldpnomfaaMQ29
import Derived.Test.YtfcdajldpnomfaaMQ33
namespace Go.Proofs.Ytfcdajldpnomfaa
set_option maxRecDepth 20000
open Go.RowKit Go.Shelf

theorem rev_cons {xs : Nm} {k p : Nat} (h : xs.length = p + k + 1) (hp : p < xs.length) : xs.reverse.drop k = xs[p] :: xs.reverse.drop (k + 1) := by
  rw [List.drop_eq_getElem_cons (by simp; omega)]
  congr 1
  simp only [List.getElem_reverse]
  congr 1; omega
theorem cmpR_end (p q : Nm) (h : p = [] ∨ q = []) : cmpR p q = cmpI ((p.length : Int) - q.length) 0 := by
  cases p with
  | nil =>
    cases q with
    | nil => rfl
    | cons y t => simp only [cmpR]; unfold cmpI; rw [if_pos (by simp only [List.length_nil, List.length_cons]; omega)]
  | cons x r =>
    cases q with
    | nil => simp only [cmpR]; unfold cmpI; rw [if_neg (by simp only [List.length_nil, List.length_cons]; omega), if_pos (by simp only [List.length_nil, List.length_cons]; omega)]
    | cons y t => rcases h with h | h <;> cases h

set_option maxHeartbeats 8000000 in
theorem ref_Compare (v u : Value) (xs ys : Nm) (w : World) (hA : StrsAt w v xs) (hU : StrsAt w u ys) (hk : NmOK xs) (hk2 : NmOK ys) :
    Calls Try.prog 59 #[v, u] w fun e w' => e = .returned (.int .i64 (compareN xs ys)) ∧ Below w.heap.size w w' := by
  obtain ⟨a, c, rfl, _⟩ := id hA
  obtain ⟨a2, c2, rfl, _⟩ := id hU
  have hm := hk.1
  have hm2 := hk2.1
  have hcell := fun W' (hb : Below w.heap.size w W') j hj => hA.cell hb j hj
  have hcell2 := fun W' (hb : Below w.heap.size w W') j hj => hU.cell hb j hj
  have hSg := fun (d : Int) W => ref_sign d W
  have hE := Lib.hid (show compareN xs ys = cmpR (xs.reverse.drop 0) (ys.reverse.drop 0) from rfl)
  generalize compareN xs ys = r at *
  obtain ⟨n, hn⟩ : ∃ n, xs.length = n := ⟨_, rfl⟩
  obtain ⟨m, hn2⟩ : ∃ m, ys.length = m := ⟨_, rfl⟩
  rw [hn] at hm ⊢
  rw [hn2] at hm2 ⊢
  have HN := Lib.hid hn; have HN2 := Lib.hid hn2
  clear hA hU hn hn2
  go_enter Try.func59, Try.ntmps59
  go_wp2
  go_loopw [5] (fun i wr => ∃ k : Nat, i = .int .i64 ((k : Int) + 1) ∧ k ≤ n ∧ k ≤ m ∧ Hid (r = cmpR (xs.reverse.drop k) (ys.reverse.drop k)) ∧ Below w.heap.size w wr) (fun i _ => n + 1 - (intOf i).toNat)
  case atStart => exact ⟨0, rfl, Nat.zero_le _, Nat.zero_le _, hE, Below.refl _ _⟩
  case round =>
    obtain ⟨k, rfl, hkn, hkm, HC, hB⟩ := hrel
    by_cases hlt : k < n ∧ k < m
    · obtain ⟨h1, h2⟩ := hlt
      obtain ⟨p, hp⟩ : ∃ p, n = p + k + 1 := ⟨n - k - 1, by omega⟩
      obtain ⟨q, hq⟩ : ∃ q, m = q + k + 1 := ⟨m - k - 1, by omega⟩
      have hkp : p < xs.length := by rw [HN.out]; omega
      have hkq : q < ys.length := by rw [HN2.out]; omega
      obtain ⟨g, off, rfl, hg, hc⟩ := hcell wr hB p hkp
      obtain ⟨g2, off2, rfl, hg2, hc2⟩ := hcell2 wr hB q hkq
      obtain ⟨s, hs0, hsz, hsv⟩ := str_of xs[p]
      obtain ⟨t, ht0, htz, htv⟩ := str_of ys[q]
      rw [hsv] at hc
      rw [htv] at hc2
      have hs1 := hk.get p hkp
      have ht1 := hk2.get q hkq
      have hF := fun W => ref_CompareLabel s t W (by omega) (by omega)
      have hBz := hB.size
      have hS0 : wr.cell? ⟨g, off + p, none⟩ = some (.string s) ∧ wr.cell? ⟨g2, off2 + q, none⟩ = some (.string t) ∧ Below w.heap.size w wr := ⟨hc, hc2, hB⟩
      have hr : Hid (r = if compareM xs[p] ys[q] = 0 then cmpR (xs.reverse.drop (k + 1)) (ys.reverse.drop (k + 1)) else compareM xs[p] ys[q]) := Lib.hid (by
        rw [HC.out, rev_cons (p := p) (by rw [HN.out]; exact hp) hkp, rev_cons (p := q) (by rw [HN2.out]; exact hq) hkq]; rfl)
      rw [hs0, ht0] at hF
      clear hs0 hsz hsv ht0 htz htv hs1 ht1 hcell hcell2 hk hk2 hc hc2 hB HC
      generalize compareM xs[p] ys[q] = x at *
      have w1 : IntKind.i64.wrap ((n : Int) - ((k : Int) + 1)) = (p : Int) := by rw [IntWalk.i64_in _ (by omega)]; omega
      have w2 : IntKind.i64.wrap ((m : Int) - ((k : Int) + 1)) = (q : Int) := by rw [IntWalk.i64_in _ (by omega)]; omega
      have p0 : (0 : Int) ≤ (p : Int) := by omega
      have p1 : (p : Int) < (n : Int) := by omega
      have q0 : (0 : Int) ≤ (q : Int) := by omega
      have q1 : (q : Int) < (m : Int) := by omega
      have HP := Lib.hid hp; have HQ := Lib.hid hq
      have W1 := Lib.hid w1; have W2 := Lib.hid w2
      clear hp hq w1 w2
      have KS := Lib.hid (fun (W W' : World) (h : W.cell? ⟨g, off + p, none⟩ = some (.string s) ∧ W.cell? ⟨g2, off2 + q, none⟩ = some (.string t) ∧ Below w.heap.size w W) (hb : Below W.heap.size W W') => keepS2 h hb hg hg2 (Nat.le_refl _))
      by_cases hx : (x != 0) = true
      · go_wp2
        have e1 := W1.out; have e2 := W2.out
        go_region_held3 (fun W' => W'.cell? ⟨g, off + p, none⟩ = some (.string s) ∧ W'.cell? ⟨g2, off2 + q, none⟩ = some (.string t) ∧ Below w.heap.size w W') (first | assumption | exact ⟨hS0.1, hS0.2.1, below_drewQ hS0.2.2 1⟩) (first | ((with_reducible refine (hF _).mono ?_); rintro e w2 ⟨rfl, hb2⟩; have hS2 := KS.out _ _ (by assumption) hb2))
        clear e1 e2
        have HR : Hid (r = x) := Lib.hid (by rw [hr.out, if_neg (by simpa using hx)])
        go_wp2
        go_ret
        exact ⟨by rw [HR.out]; rfl, hS2.2.2⟩
      · have hx0 : (x != 0) = false := by simpa using hx
        have HR : Hid (r = cmpR (xs.reverse.drop (k + 1)) (ys.reverse.drop (k + 1))) := Lib.hid (by rw [hr.out, if_pos (by simpa using hx0)])
        clear hx hr
        go_wp2
        have e1 := W1.out; have e2 := W2.out
        go_region_held3 (fun W' => W'.cell? ⟨g, off + p, none⟩ = some (.string s) ∧ W'.cell? ⟨g2, off2 + q, none⟩ = some (.string t) ∧ Below w.heap.size w W') (first | assumption | exact ⟨hS0.1, hS0.2.1, below_drewQ hS0.2.2 1⟩) (first | ((with_reducible refine (hF _).mono ?_); rintro e w2 ⟨rfl, hb2⟩; have hS2 := KS.out _ _ (by assumption) hb2))
        clear e1 e2
        go_wp2
        go_roundw
        case rel => exact ⟨k + 1, by go_num, by omega, by omega, HR, hS2.2.2⟩
        case measure => simp [intOf]; omega
    · have hd : Hid (r = cmpI ((n : Int) - m) 0) := Lib.hid (by
        have hl : (xs.reverse.drop k).length = n - k := by have := HN.out; simp; omega
        have hl2 : (ys.reverse.drop k).length = m - k := by have := HN2.out; simp; omega
        rw [HC.out, cmpR_end _ _ (by
          by_cases e : k < n
          · right; exact List.eq_nil_of_length_eq_zero (by omega)
          · left; exact List.eq_nil_of_length_eq_zero (by omega)), hl, hl2]
        congr 1; omega)
      have hb : (n : Int) < (k : Int) + 1 ∨ ((k : Int) + 1 ≤ n ∧ (m : Int) < (k : Int) + 1) := by omega
      rcases hb with hb | ⟨hb1, hb⟩
      all_goals
        go_wp2_with (go_at_call 60; refine (hSg _ _).mono ?_; rintro e w2 ⟨rfl, rfl⟩)
        go_ret
        exact ⟨by rw [hd.out]; rfl, hB⟩
end Go.Proofs.Ytfcdajldpnomfaa

/-
  The document's names (package toponymref6): Swap.
-/
namespace Go.Proofs.Ytfcdajldpnomfaa
set_option maxRecDepth 20000
open Go.RowKit Go.Shelf

theorem elemS : ElemT 9 28 16 := ⟨Try.underlying28, _, _, rfl, rfl, rfl, rfl, rfl⟩

end Go.Proofs.Ytfcdajldpnomfaa

/-
  The document's names (package toponymref6): ParseName.
-/
namespace Go.Proofs.Ytfcdajldpnomfaa
set_option maxRecDepth 20000
open Go.RowKit Go.Shelf

def partsK (ps : Nm) (k : Nat) : Nm := if k = ps.length then partsN ps else ps.take k
def wholeK (ps : Nm) (k : Nat) : Bool := decide (k = ps.length) && wholeN ps
theorem partsK_lt {ps : Nm} {k : Nat} (h : k < ps.length) : partsK ps k = ps.take k := by unfold partsK; rw [if_neg (by omega)]
theorem partsK_end (ps : Nm) : partsK ps ps.length = partsN ps := by unfold partsK; rw [if_pos rfl]
/-- The last piece, empty. -/
theorem partsK_dot {ps : Nm} {k : Nat} (h : ps.length = k + 1) (h2 : ps[k]'(by omega) = []) : partsK ps (k + 1) = ps.take k ∧ wholeK ps (k + 1) = true := by
  have hw : wholeN ps = true := by rw [wholeN_eq h]; exact decide_eq_true h2
  unfold partsK wholeK partsN
  rw [if_pos h.symm, hw, if_pos rfl, List.dropLast_eq_take, h]
  simp
/-- A piece that is not the last one, or not empty. -/
theorem partsK_next {ps : Nm} {k : Nat} (h : k < ps.length) (h2 : ¬ (ps.length = k + 1 ∧ ps[k] = [])) : partsK ps (k + 1) = ps.take k ++ [ps[k]] ∧ wholeK ps (k + 1) = false ∧ ps.take k ++ [ps[k]] <+: partsN ps := by
  have ht : ps.take k ++ [ps[k]] = ps.take (k + 1) := (List.take_succ_eq_append_getElem h).symm
  rw [ht]
  by_cases e : ps.length = k + 1
  · have hw : wholeN ps = false := by rw [wholeN_eq e]; exact decide_eq_false (fun q => h2 ⟨e, q⟩)
    have hp : partsN ps = ps := by unfold partsN; rw [hw]; rfl
    have hk : ps.take (k + 1) = ps := List.take_of_length_le (by omega)
    unfold partsK wholeK
    rw [if_pos e.symm, hw, hp, hk, Bool.and_false]
    exact ⟨rfl, rfl, List.prefix_rfl⟩
  · refine ⟨partsK_lt (by omega), by unfold wholeK; rw [decide_eq_false (by omega)]; rfl, ?_⟩
    unfold partsN
    split
    · rw [List.dropLast_eq_take]
      exact List.take_prefix_take_left (by omega)
    · exact List.take_prefix _ _

end Go.Proofs.Ytfcdajldpnomfaa

/-
  The document's names in the same spelling as package name's (XNamX); the statements' helpers.
-/
namespace Go.Proofs.Ytfcdajldpnomfaa
set_option maxRecDepth 20000
open Go.RowKit Go.Shelf

theorem kn_RCompare (v u : Value) (n z : Nm) (r : Int) (h : compareN n z = r) (w : World) (hA : NmAt w v n) (hU : NmAt w u z) (h1 : NmOK n) (h2 : NmOK z) :
    Calls Try.prog 59 #[v, u] w fun e w' => e = .returned (.int .i64 r) ∧ Below w.heap.size w w' := by
  subst h; exact ref_Compare v u n z w hA.1 hU.1 h1 h2
/-- An argument of a law, a name or labels. -/
def NmArg (W : World) (v : Value) (xs : Nm) : Prop := NmAt W v xs ∧ xs.length ≤ maxLen ∧ ∀ x ∈ xs, x.length ≤ maxLen
theorem nmArg_nil (W : World) : NmArg W (.slice none 0 0) [] := ⟨nm_nil W, Nat.zero_le _, by simp⟩
theorem nmArg_row {W : World} {x : Addr} {l c : Nat} {zs : List ByteArray} (hl : l ≤ c) (hm : c ≤ maxLen) (hz : zs.length = c)
    (hcell : ∀ i, i < zs.length → W.cell? (x.add i) = some (.string (zs.getD i ByteArray.empty))) (hws : ∀ s ∈ zs, s.size ≤ maxLen) :
    NmArg W (.slice (some x) l c) ((zs.take l).map (·.data.toList)) := by
  have h := strsArg_row hl hm hz hcell hws
  exact ⟨⟨h.1, _, _, _, rfl, hl, fun e => by cases e⟩, h.2⟩
theorem kn_Few (v : Value) (n : Nm) (r : Bool) (h : fewN n = r) (w0 w : World) (hA : NmArg w0 v n) (hA2 : NmAt w v n) :
    Calls Try.prog 17 #[v] w fun e w' => e = .returned (.bool r) ∧ Below w.heap.size w w' := by
  subst h; refine (law2_Few v n w hA2.1 hA.2.1 hA.2.2).mono ?_
  rintro e w' ⟨rfl, rfl⟩; exact ⟨rfl, Below.refl _ _⟩
end Go.Proofs.Ytfcdajldpnomfaa

/-
  The law's Few for data.
-/
namespace Go.Proofs.Ytfcdajldpnomfaa
set_option maxRecDepth 20000
open Go.RowKit Go.Shelf

def fewD (d : Dat) : Bool := decide (d.names.length ≤ 8 ∧ d.nums.length ≤ 12 ∧ d.texts.length ≤ 40 ∧ d.raw.length ≤ 1100) && (decide (∀ n ∈ d.names, fewN n = true) && decide (∀ x ∈ d.texts, x.length ≤ 300))
/-- An argument of a law. -/
def DatArg (W : World) (v : Value) (d : Dat) : Prop := DatAt W v d ∧ (-(2 ^ 63) ≤ d.ty ∧ d.ty < 2 ^ 63) ∧ (∀ n ∈ d.names, n.length ≤ maxLen ∧ ∀ x ∈ n, x.length ≤ maxLen) ∧ (∀ n ∈ d.nums, n < 2 ^ 32) ∧ (∀ x ∈ d.texts, x.length ≤ maxLen)

theorem fewD_ok {W : World} {v : Value} {d : Dat} (h : DatArg W v d) (hf : fewD d = true) : DatOK d := by
  simp only [fewD, Bool.and_eq_true, decide_eq_true_eq] at hf
  obtain ⟨⟨f1, f2, f3, f4⟩, f5, f6⟩ := hf
  exact ⟨h.2.1, by omega, fun n hn => fewN_ok (f5 n hn), by omega, h.2.2.2.1, ⟨by omega, fun x hx => by have := f6 x hx; omega⟩, by omega⟩
end Go.Proofs.Ytfcdajldpnomfaa

/-
  rdata.counted, whatever the type.
-/
namespace Go.Proofs.Ytfcdajldpnomfaa
set_option maxRecDepth 20000
open Go.RowKit Go.Shelf

theorem countedM_lit (d : Dat) (a b r : Nat) (h : countsM d.ty = ((a : Int), (b : Int), (r : Int))) (h16 : d.ty ≠ 16) : countedM d = decide (d.names.length = a ∧ d.nums.length = b ∧ d.texts.length = 0 ∧ d.raw.length = r) := by
  unfold countedM
  rw [h]
  apply decide_eq_decide.2
  rw [if_neg h16]
  show (d.names.length : Int) = (a : Int) ∧ (d.nums.length : Int) = (b : Int) ∧ _ ∧ ((0 : Int) ≤ (r : Int) → (d.raw.length : Int) = (r : Int)) ↔ _
  constructor
  · rintro ⟨h1, h2, h3, h4⟩
    have := h4 (by omega)
    exact ⟨by omega, by omega, h3, by omega⟩
  · rintro ⟨h1, h2, h3, h4⟩
    exact ⟨by omega, by omega, h3, fun _ => by omega⟩
end Go.Proofs.Ytfcdajldpnomfaa

