/-
  The document's names (package toponymref6): Parent, Child, Wild, sign.
-/
import Derived.Test.YtoohhoillblaoaaRefN
namespace Go.Proofs.Ytoohhoillblaoaa
open Go.RowKit Go.Shelf

/-- A slice of strings, for reading. -/
def NmAt (W : World) (v : Value) (xs : Nm) : Prop := StrsAt W v xs ∧ SlOK v
theorem NmAt.below {W W' : World} {v : Value} {xs : Nm} (h : NmAt W v xs) (hb : Below W.heap.size W W') : NmAt W' v xs := ⟨h.1.below hb, h.2⟩
theorem OwnG.nmAt {W : World} {base : Nat} {v : Value} {xs : Nm} (h : OwnG 9 strV W base v xs) : NmAt W v xs := ⟨StrsAt.of_own h, h.slOK⟩

set_option maxHeartbeats 2000000 in
theorem ref_Parent (v : Value) (xs : Nm) (w : World) (hA : NmAt w v xs) (hk : NmOK xs) :
    Calls Try.prog 35 #[v] w fun e w' => ∃ v', e = .returned v' ∧ NmAt w v' (parentN xs) ∧ w' = w := by
  obtain ⟨hA, hO⟩ := hA
  obtain ⟨a, c, rfl, hx⟩ := id hA
  have hl := hk.1
  obtain ⟨a', n', c', e, hcap, _⟩ := hO
  cases e
  unfold parentN
  by_cases h0 : xs = []
  · subst h0
    go_enter Try.func35, Try.ntmps35
    go_wp2
    go_ret
    exact ⟨_, rfl, ⟨⟨_, _, rfl, .inl rfl⟩, SlOK.nil⟩, rfl⟩
  · rcases hx with e | ⟨g, off, rfl, hg, hc⟩
    · exact absurd e h0
    have hn : xs.length ≠ 0 := fun e => h0 (List.eq_nil_of_length_eq_zero e)
    have hne : ((xs.length : Int) == 0) = false := by simp; omega
    have hD : NmAt w (.slice (if c = 1 then some ⟨g, off, none⟩ else some ⟨g, off + 1, none⟩) (xs.length - 1) (c - 1)) (xs.drop 1) := ⟨strs_drop hA hcap 1 (by omega) _, drop_ok hcap⟩
    generalize xs.drop 1 = ps at *
    clear hc
    by_cases hc1 : c = 1
    · rw [if_pos hc1, hc1] at hD
      go_enter Try.func35, Try.ntmps35
      go_wp2
      go_ret
      exact ⟨_, rfl, hD, rfl⟩
    · rw [if_neg hc1] at hD
      go_enter Try.func35, Try.ntmps35
      go_wp2
      go_ret
      exact ⟨_, rfl, hD, rfl⟩

set_option maxHeartbeats 2000000 in
theorem ref_sign (n : Int) (w : World) : Calls Try.prog 54 #[.int .i64 n] w fun e w' => e = .returned (.int .i64 (cmpI n 0)) ∧ w' = w := by
  unfold cmpI
  by_cases h1 : n < 0
  · rw [if_pos h1]
    go_enter Try.func54, Try.ntmps54
    go_wp2
    go_ret
    exact ⟨rfl, rfl⟩
  · rw [if_neg h1]
    by_cases h2 : 0 < n
    · rw [if_pos h2]
      go_enter Try.func54, Try.ntmps54
      go_wp2
      go_ret
      exact ⟨rfl, rfl⟩
    · rw [if_neg h2]
      go_enter Try.func54, Try.ntmps54
      go_wp2
      go_ret
      exact ⟨rfl, rfl⟩

set_option maxHeartbeats 2000000 in
theorem ref_Child (s : ByteArray) (v : Value) (xs : Nm) (w : World) (hA : NmAt w v xs) (hk : NmOK xs) :
    Calls Try.prog 39 #[.string s, v] w (CopyPost (s.data.toList :: xs) w) := by
  obtain ⟨hA, hO⟩ := hA
  obtain ⟨a, c, rfl, hx⟩ := id hA
  have hl := hk.1
  have hlit : OwnG 9 strV (w.alloc (.cells #[.string s] 9)) w.heap.size (.slice (some ⟨w.heap.size, 0, none⟩) 1 1) [s.data.toList] := by
    have := OwnG.lit (T := 9) (enc := strV) w w.heap.size (Nat.le_refl _) [s.data.toList] (by unfold maxLen; simp)
    simp only [List.map_cons, List.map_nil, strV_of] at this
    exact this
  have hbl : Below w.heap.size w (w.alloc (.cells #[.string s] 9)) := (Below.refl _ _).alloc (Nat.le_refl _) _
  go_enter Try.func39, Try.ntmps39
  go_wp2_with (at_builtin; refine wpl_append_s (w.alloc (.cells #[.string s] 9)) rfl (.tmp 6) (.tmp 7) elemStr rfl w.heap.size (.slice (some ⟨w.heap.size, 0, none⟩) 1 1) [s.data.toList] rfl hlit (.slice a xs.length c) xs rfl (hA.below hbl) hO hbl.size (by unfold maxLen; simp; omega) (by simp; omega) ?_; intro v2 w2 hown2 hg2)
  go_ret
  exact ⟨v2, rfl, hown2, hbl.grown hg2 hbl.size hlit.base_le⟩
set_option maxHeartbeats 2000000 in
theorem ref_Wild (v : Value) (xs : Nm) (w : World) (hA : StrsAt w v xs) (hk : NmOK xs) :
    Calls Try.prog 23 #[v] w fun e w' => e = .returned (.bool (wildN xs)) ∧ w' = w := by
  obtain ⟨a, c, rfl, hx⟩ := id hA
  have hl := hk.1
  by_cases h0 : xs = []
  · subst h0
    go_enter Try.func23, Try.ntmps23
    go_wp2
    go_ret
    exact ⟨rfl, rfl⟩
  · have hn : 0 < xs.length := by cases xs with | nil => exact absurd rfl h0 | cons x r => simp
    obtain ⟨g, off, rfl, hg, hcell⟩ := hA.cell (Below.refl _ w) 0 hn
    obtain ⟨s, hs, hsz, hsv⟩ := str_of xs[0]
    rw [hsv, Nat.add_zero] at hcell
    have hw : wildN xs = (s.toList == [42]) := by
      unfold wildN
      rw [List.head?_eq_getElem?, List.getElem?_eq_getElem hn, toList_data, hs, Bool.eq_iff_iff]
      simp
    have HW := Lib.hid hw
    clear hx hs hsz hsv hw
    have hn' : (0 : Int) < (xs.length : Int) := by omega
    go_enter Try.func23, Try.ntmps23
    go_wp2
    go_ret
    exact ⟨by rw [HW.out]; rfl, rfl⟩
end Go.Proofs.Ytoohhoillblaoaa
