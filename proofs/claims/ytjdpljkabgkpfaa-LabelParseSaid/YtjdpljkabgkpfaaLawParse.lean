/-
  LabelParse: any text as a label, or why it is none; parted at its dots: as the document's own reading says.
-/
import Derived.Test.YtjdpljkabgkpfaaLawSplit
import Derived.Test.YtjdpljkabgkpfaaRefC
import Derived.BigQuiet
namespace Go.Proofs.Ytjdpljkabgkpfaa
open Go.RowKit Go.Shelf

theorem OwnG.len_le {α : Type} {T : TypeId} {enc : α → Value} {W : World} {base : Nat} {v : Value} {xs : List α} (h : OwnG T enc W base v xs) : xs.length ≤ maxLen := by
  rcases h.2 with e | ⟨g', cap, cur, e, hb, hg, hc, hm, _⟩
  · have := e.2; simp at this; rw [this]; exact Nat.zero_le _
  · omega

set_option maxHeartbeats 4000000 in
theorem law1_Parse (s : ByteArray) (w : World) (hs : s.size ≤ maxLen) : Calls Try.prog 4 #[.string s] w fun e w' => e = .returned (.bool true) ∧ Below w.heap.size w w' := by
  unfold maxLen at hs
  by_cases hlen : 300 < (s.size : Int)
  · go_enter Try.func4, Try.ntmps4
    go_wp2_with (go_at_call 8; refine (law1_known _).mono ?_; rintro e w1 ⟨rfl, hb1⟩)
    go_ret
    exact ⟨rfl, hb1⟩
  have hlen' : (s.size : Int) ≤ 300 := by omega
  clear hlen
  have hz : s.size ≤ 300 := by omega
  obtain ⟨⟨m, er⟩, hq⟩ : ∃ q, parseM s.data.toList = q := ⟨_, rfl⟩
  obtain ⟨⟨ps, e2⟩, hq2⟩ : ∃ q, splitM s.data.toList = q := ⟨_, rfl⟩
  obtain ⟨n, hn⟩ : ∃ n, ps.length = n := ⟨_, rfl⟩
  have hP : ∀ W, Calls Try.prog 15 #[.string s] W fun e w' => e = .returned (.tuple #[.string ⟨m.toArray⟩, .int .i64 er]) ∧ Below W.heap.size W w' := fun W => by
    refine (label_Parse s W (by omega)).mono ?_
    intro e w' h; unfold ParsePost at h; rw [hq] at h; exact h
  have hR : ∀ W, Calls Try.prog 16 #[.string s] W fun e w' => e = .returned (.tuple #[.string ⟨m.toArray⟩, .int .i64 er]) ∧ Below W.heap.size W w' := fun W => by
    refine (ref_ParseLabel s W (by omega)).mono ?_
    intro e w' h; unfold ParsePost at h; rw [hq] at h; exact h
  have hS : ∀ W, Calls Try.prog 17 #[.string s] W fun e w' => ∃ v, e = .returned (.tuple #[v, .int .i64 e2]) ∧ StrsAt w' v ps ∧ Below W.heap.size W w' ∧ ps.length ≤ maxLen := fun W => by
    refine (label_Split s W (by omega)).mono ?_
    intro e w' h; unfold SplitPost at h; rw [hq2] at h; obtain ⟨v, he, ho, hb⟩ := h; exact ⟨v, he, StrsAt.of_own ho, hb, ho.len_le⟩
  have hT : ∀ W, Calls Try.prog 18 #[.string s] W fun e w' => ∃ v, e = .returned (.tuple #[v, .int .i64 e2]) ∧ StrsAt w' v ps ∧ Below W.heap.size W w' := fun W => by
    refine (ref_Split s W (by omega)).mono ?_
    intro e w' h; unfold RSplitPost at h; rw [hq2] at h; obtain ⟨v, he, ho, hb⟩ := h; exact ⟨v, he, StrsAt.of_own ho, hb⟩
  have HN := Lib.hid hn
  clear hq hq2 hn hz
  generalize (⟨m.toArray⟩ : ByteArray) = lm at *
  clear m
  go_enter Try.func4, Try.ntmps4
  go_wp2_with (go_at_call 8; refine (law1_known _).mono ?_; rintro e w1 ⟨rfl, hb1⟩)
  go_wp2_with (go_at_call 15; refine (hP _).mono ?_; rintro e w2 ⟨rfl, hb2⟩)
  go_wp2_with (go_at_call 16; refine (hR _).mono ?_; rintro e w3 ⟨rfl, hb3⟩)
  go_wp2_with fail
  refine (hS _).mono ?_
  rintro e w4 ⟨v, rfl, ⟨a, c, rfl, hs4⟩, hb4, hnm⟩
  go_wp2_with fail
  refine (hT _).mono ?_
  rintro e w5 ⟨v, rfl, ⟨a', c', rfl, hs5⟩, hb5⟩
  rw [HN.out] at hnm ⊢
  unfold maxLen at hnm
  have hB4 : Below w.heap.size w w4 := hb1.trans ((hb2.trans ((hb3.trans (hb4.mono hb3.size)).mono hb2.size)).mono hb1.size)
  have hB5 : Below w.heap.size w w5 := hB4.trans (hb5.mono hB4.size)
  have hbig : n = 0 ∨ ∃ b off b' off', a = some ⟨b, off, none⟩ ∧ a' = some ⟨b', off', none⟩ ∧ b < w5.heap.size ∧ b' < w5.heap.size ∧ ∀ j, j < n → ∃ t, w5.cell? ⟨b, off + j, none⟩ = some (.string t) ∧ w5.cell? ⟨b', off' + j, none⟩ = some (.string t) := by
    have hl := HN.out
    rcases hs4 with e | ⟨b, off, ea, hlt, hc⟩
    · left; rw [← hl, e]; rfl
    rcases hs5 with e | ⟨b', off', ea', hlt', hc'⟩
    · left; rw [← hl, e]; rfl
    right
    refine ⟨b, off, b', off', ea, ea', Nat.lt_of_lt_of_le hlt hb5.size, hlt', fun j hj => ?_⟩
    have hj' : j < ps.length := by rw [hl]; exact hj
    exact ⟨⟨ps[j].toArray⟩, (hb5.cell (p := ⟨b, off + j, none⟩) hlt).trans (hc j hj'), hc' j hj'⟩
  clear hs4 hs5 hS hT hP hR hb4 hb5
  rcases hbig with e | ⟨b, off, b', off', ea, ea', hlt, hlt', hc⟩
  · subst e
    go_wp2
    go_loopw [11] (fun i wr => i = .int .i64 0 ∧ wr = w5) (fun i _ => 0)
    case atStart => exact ⟨rfl, rfl⟩
    case round =>
      obtain ⟨rfl, rfl⟩ := hrel
      go_wp2
      go_ret
      exact ⟨rfl, hB5⟩
  · subst ea ea'
    have HC := Lib.hid hc; clear hc
    go_wp2
    go_loopw [11] (fun i wr => ∃ j : Nat, i = .int .i64 j ∧ j ≤ n ∧ Below w.heap.size w wr ∧ Below w5.heap.size w5 wr) (fun i _ => n - (intOf i).toNat)
    case atStart => exact ⟨0, rfl, Nat.zero_le _, hB5, Below.refl _ _⟩
    case round =>
      obtain ⟨j, rfl, hj, hbr, hbr5⟩ := hrel
      by_cases hjlt : j < n
      · obtain ⟨t, hc1, hc2⟩ := HC.out j hjlt
        have hcl := (hbr5.cell (p := ⟨b, off + j, none⟩) hlt).trans hc1
        have hcm := (hbr5.cell (p := ⟨b', off' + j, none⟩) hlt').trans hc2
        clear hc1 hc2
        go_wp2
        go_quiet (fail)
        go_wp2
        go_roundw
        case rel => exact ⟨j + 1, by go_num, by omega, hbr.trans ⟨rfl, rfl, rfl, Nat.le_refl _, fun _ _ => rfl⟩, hbr5.trans ⟨rfl, rfl, rfl, Nat.le_refl _, fun _ _ => rfl⟩⟩
        case measure => simp [intOf]; omega
      · obtain rfl : j = n := by omega
        go_wp2
        go_ret
        exact ⟨rfl, hbr⟩

end Go.Proofs.Ytjdpljkabgkpfaa
