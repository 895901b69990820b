/-
  The document's names (package toponymref6): Same, Under.
-/
import Derived.Test.YtbnkecmhmcligaaMQ28
import Derived.Deep.RegionHeld3
namespace Go.Proofs.Ytbnkecmhmcligaa
set_option linter.unusedVariables false
set_option linter.unusedSimpArgs false
set_option maxRecDepth 20000
open Go.RowKit Go.Shelf

theorem keepS2 {n : Nat} {w W W' : World} {p q : Addr} {u v : Value} (h : W.cell? p = some u ∧ W.cell? q = some v ∧ Below n w W) (hb : Below W.heap.size W W') (hp : p.block < n) (hq : q.block < n) (hn : n ≤ w.heap.size) :
    W'.cell? p = some u ∧ W'.cell? q = some v ∧ Below n w W' := by
  have hz := h.2.2.size
  exact ⟨(hb.cell (by omega)).trans h.1, (hb.cell (by omega)).trans h.2.1, h.2.2.trans (hb.mono (by omega))⟩

theorem nm_nil (W : World) : NmAt W (.slice none 0 0) [] := ⟨⟨_, _, rfl, .inl rfl⟩, SlOK.nil⟩
theorem foldN_cons (x : List UInt8) (r : Nm) : foldN (x :: r) = foldL x :: foldN r := rfl
theorem foldL_size (l : List UInt8) : (foldL l).length = l.length := by simp [foldL]

set_option maxHeartbeats 8000000 in
theorem ref_Same (v u : Value) (xs ys : Nm) (w : World) (hA : StrsAt w v xs) (hU : StrsAt w u ys) (hk : NmOK xs) (hk2 : NmOK ys) :
    Calls Try.prog 10 #[v, u] w fun e w' => e = .returned (.bool (sameN xs ys)) ∧ Below w.heap.size w w' := by
  obtain ⟨a, c, rfl, _⟩ := id hA
  obtain ⟨a2, c2, rfl, _⟩ := id hU
  have hm := hk.1
  by_cases hne : ((xs.length : Int) != (ys.length : Int)) = true
  · have H0 : Hid (sameN xs ys = false) := Lib.hid (sameN_len (by intro e; rw [e] at hne; simp at hne))
    go_enter Try.func10, Try.ntmps10
    go_wp2
    go_ret
    exact ⟨by rw [H0.out]; rfl, Below.refl _ _⟩
  have hlen : ((xs.length : Int) != (ys.length : Int)) = false := by simpa using hne
  have hel : xs.length = ys.length := by simp at hlen; omega
  have hcell := fun W' (hb : Below w.heap.size w W') j hj => hA.cell hb j hj
  have hcell2 := fun W' (hb : Below w.heap.size w W') j hj => hU.cell hb j hj
  obtain ⟨n, hn⟩ : ∃ n, xs.length = n := ⟨_, rfl⟩
  have hn2 : ys.length = n := by omega
  rw [hn] at hm ⊢
  rw [hn2]
  have HN := Lib.hid hn; have HN2 := Lib.hid hn2
  clear hA hU hel hne hlen hn hn2
  have hnn : ((n : Int) != (n : Int)) = false := by simp
  go_enter Try.func10, Try.ntmps10
  go_wp2
  go_loopw [5] (fun i wr => ∃ k : Nat, i = .int .i64 k ∧ k ≤ n ∧ Hid (foldN (xs.take k) = foldN (ys.take k)) ∧ Below w.heap.size w wr) (fun i _ => n - (intOf i).toNat)
  case atStart => exact ⟨0, rfl, Nat.zero_le _, Lib.hid rfl, Below.refl _ _⟩
  case round =>
    obtain ⟨k, rfl, hkn, HC, hB⟩ := hrel
    by_cases hlt : k < n
    · have hkp : k < xs.length := by rw [HN.out]; exact hlt
      have hkq : k < ys.length := by rw [HN2.out]; exact hlt
      obtain ⟨g, off, rfl, hg, hc⟩ := hcell wr hB k hkp
      obtain ⟨g2, off2, rfl, hg2, hc2⟩ := hcell2 wr hB k hkq
      obtain ⟨s, hs0, hsz, hsv⟩ := str_of xs[k]
      obtain ⟨t, ht0, htz, htv⟩ := str_of ys[k]
      rw [hsv] at hc
      rw [htv] at hc2
      have h1 := hk.get k hkp
      have h2 := hk2.get k hkq
      have hF1 := fun W => ref_FoldLabel s W (by omega)
      have hF2 := fun W => ref_FoldLabel t W (by omega)
      have hz1 : (foldL xs[k]).length ≤ 1048576 := by rw [foldL_size]; omega
      have hz2 : (foldL ys[k]).length ≤ 1048576 := by rw [foldL_size]; omega
      have hBz := hB.size
      have hS0 : wr.cell? ⟨g, off + k, none⟩ = some (.string s) ∧ wr.cell? ⟨g2, off2 + k, none⟩ = some (.string t) ∧ Below w.heap.size w wr := ⟨hc, hc2, hB⟩
      have hkn1 : (0 : Int) ≤ (k : Int) := by omega
      have hkn2 : (k : Int) < (n : Int) := by omega
      rw [hs0] at hF1; rw [ht0] at hF2
      by_cases hq : foldL xs[k] = foldL ys[k]
      · have HC2 : Hid (foldN (xs.take (k + 1)) = foldN (ys.take (k + 1))) := Lib.hid (by
          rw [List.take_succ_eq_append_getElem hkp, List.take_succ_eq_append_getElem hkq, foldN_snoc, foldN_snoc, HC.out, hq])
        clear hs0 hsz hsv ht0 htz htv h1 h2 hcell hcell2 hk hk2 hc hc2 hB
        rw [hq] at hF1
        clear hq hz1
        generalize (⟨(foldL ys[k]).toArray⟩ : ByteArray) = q at *
        have KS := Lib.hid (fun (W W' : World) (h : W.cell? ⟨g, off + k, none⟩ = some (.string s) ∧ W.cell? ⟨g2, off2 + k, none⟩ = some (.string t) ∧ Below w.heap.size w W) (hb : Below W.heap.size W W') => keepS2 h hb hg hg2 (Nat.le_refl _))
        go_wp2
        go_region_held3 (fun W' => W'.cell? ⟨g, off + k, none⟩ = some (.string s) ∧ W'.cell? ⟨g2, off2 + k, none⟩ = some (.string t) ∧ Below w.heap.size w W') (first | assumption | exact ⟨hS0.1, hS0.2.1, below_drewQ hS0.2.2 _⟩ | exact ⟨hS0.1, hS0.2.1, below_drewQ hS0.2.2 1⟩) (first | ((with_reducible refine (hF1 _).mono ?_); rintro e w2 ⟨rfl, hb2⟩; have hS2 := KS.out _ _ (by assumption) hb2) | ((with_reducible refine (hF2 _).mono ?_); rintro e w2 ⟨rfl, hb2⟩; have hS2 := KS.out _ _ (by assumption) hb2))
        all_goals
          go_wp2
          go_roundw
          case rel => exact ⟨k + 1, by go_num, by omega, HC2, hS2.2.2⟩
          case measure => simp [intOf]; omega
      · have H0 : Hid (sameN xs ys = false) := Lib.hid (by
          cases h : sameN xs ys with
          | false => rfl
          | true =>
            exfalso; apply hq
            have e := congrArg (fun l : Nm => l[k]?) ((sameN_iff xs ys).1 h)
            simpa [foldN, hkp, hkq] using e)
        have hqq : ((⟨(foldL xs[k]).toArray⟩ : ByteArray).toList == (⟨(foldL ys[k]).toArray⟩ : ByteArray).toList) = false := by
          rw [toList_data, toList_data]; simpa using hq
        clear hs0 hsz hsv ht0 htz htv h1 h2 hcell hcell2 hk hk2 hc hc2 hB hz1 hz2 hq
        generalize (⟨(foldL xs[k]).toArray⟩ : ByteArray) = p at *
        generalize (⟨(foldL ys[k]).toArray⟩ : ByteArray) = q at *
        have KS := Lib.hid (fun (W W' : World) (h : W.cell? ⟨g, off + k, none⟩ = some (.string s) ∧ W.cell? ⟨g2, off2 + k, none⟩ = some (.string t) ∧ Below w.heap.size w W) (hb : Below W.heap.size W W') => keepS2 h hb hg hg2 (Nat.le_refl _))
        go_wp2
        go_region_held3 (fun W' => W'.cell? ⟨g, off + k, none⟩ = some (.string s) ∧ W'.cell? ⟨g2, off2 + k, none⟩ = some (.string t) ∧ Below w.heap.size w W') (first | assumption | exact ⟨hS0.1, hS0.2.1, below_drewQ hS0.2.2 _⟩ | exact ⟨hS0.1, hS0.2.1, below_drewQ hS0.2.2 1⟩) (first | ((with_reducible refine (hF1 _).mono ?_); rintro e w2 ⟨rfl, hb2⟩; have hS2 := KS.out _ _ (by assumption) hb2) | ((with_reducible refine (hF2 _).mono ?_); rintro e w2 ⟨rfl, hb2⟩; have hS2 := KS.out _ _ (by assumption) hb2))
        all_goals
          go_wp2
          go_ret
          exact ⟨by rw [H0.out]; rfl, hS2.2.2⟩
    · obtain rfl : k = n := by omega
      have H0 : Hid (sameN xs ys = true) := Lib.hid ((sameN_iff _ _).2 (by
        have h := HC.out
        rwa [List.take_of_length_le (by rw [HN.out]; exact Nat.le_refl _), List.take_of_length_le (by rw [HN2.out]; exact Nat.le_refl _)] at h))
      go_wp2
      go_ret
      exact ⟨by rw [H0.out]; rfl, hB⟩
end Go.Proofs.Ytbnkecmhmcligaa

