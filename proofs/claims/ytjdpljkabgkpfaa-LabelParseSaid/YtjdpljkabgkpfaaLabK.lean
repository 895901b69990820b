/-
  The law's own example of layer 1 ('known') answers true.
-/
import Derived.Test.YtjdpljkabgkpfaaLabG
namespace Go.Proofs.Ytjdpljkabgkpfaa
open Go.RowKit Go.Shelf

theorem kn_parse (s : ByteArray) (l : List UInt8) (er : Int) (h : parseM s.data.toList = (l, er)) (hs : s.size ≤ 35184372088000) (w : World) :
    Calls Try.prog 15 #[.string s] w fun e w' => e = .returned (.tuple #[.string ⟨l.toArray⟩, .int .i64 er]) ∧ Below w.heap.size w w' := by
  refine (label_Parse s w hs).mono ?_
  rintro e w' ⟨he, hb⟩
  rw [h] at he; exact ⟨he, hb⟩
theorem kn_text (s : ByteArray) (l : List UInt8) (h : textL s.data.toList = l) (hs : s.size ≤ 35184372088000) (w : World) :
    Calls Try.prog 10 #[.string s] w fun e w' => e = .returned (.string ⟨l.toArray⟩) ∧ Below w.heap.size w w' := by
  subst h; exact label_Text s w hs
theorem kn_fold (s : ByteArray) (l : List UInt8) (h : foldL s.data.toList = l) (hs : s.size ≤ 35184372088000) (w : World) :
    Calls Try.prog 13 #[.string s] w fun e w' => e = .returned (.string ⟨l.toArray⟩) ∧ Below w.heap.size w w' := by
  subst h; exact label_Fold s w hs
theorem kn_same (a b : ByteArray) (r : Bool) (h : sameM a.data.toList b.data.toList = r) (ha : a.size ≤ maxLen) (hb : b.size ≤ maxLen) (w : World) :
    Calls Try.prog 21 #[.string a, .string b] w fun e w' => e = .returned (.bool r) ∧ Below w.heap.size w w' := by
  subst h; refine (label_Same a b w ha hb).mono ?_
  rintro e w' ⟨he, n, hn⟩; exact ⟨he, by rw [hn]; exact below_drewN (Below.refl _ _) n⟩
theorem kn_compare (a b : ByteArray) (r : Int) (h : compareM a.data.toList b.data.toList = r) (ha : a.size ≤ maxLen) (hb : b.size ≤ maxLen) (w : World) :
    Calls Try.prog 19 #[.string a, .string b] w fun e w' => e = .returned (.int .i64 r) ∧ Below w.heap.size w w' := by
  subst h; refine (label_Compare a b w ha hb).mono ?_
  rintro e w' ⟨he, n, hn⟩; exact ⟨he, by rw [hn]; exact below_drewN (Below.refl _ _) n⟩
theorem kn_check (s : ByteArray) (r : Int) (h : checkLabelM s.data.toList = r) (hs : s.size ≤ maxLen) (w : World) :
    Calls Try.prog 11 #[.string s] w fun e w' => e = .returned (.int .i64 r) ∧ Below w.heap.size w w' := by
  subst h; refine (label_Check s w hs).mono ?_
  rintro e w' ⟨he, rfl⟩; exact ⟨he, Below.refl _ _⟩
theorem kn_split (s : ByteArray) (x : List UInt8) (l : List (List UInt8)) (h : splitM s.data.toList = (x :: l, 0)) (hs : s.size ≤ 8796093022000) (w : World) :
    Calls Try.prog 17 #[.string s] w fun e w' => ∃ g c, e = .returned (.tuple #[.slice (some ⟨g, 0, none⟩) (l.length + 1) c, .int .i64 0]) ∧ w'.cell? ⟨g, 0, none⟩ = some (.string ⟨x.toArray⟩) ∧ g < w'.heap.size ∧ Below w.heap.size w w' := by
  refine (label_Split s w hs).mono ?_
  rintro e w' ⟨v, he, ho, hb⟩
  rw [h] at he ho
  obtain ⟨a, c, rfl⟩ := ho.shape
  obtain ⟨g, rfl, _, hlt, hc⟩ := ho.cells (by simp)
  exact ⟨g, c, he, hc 0 (by simp), hlt, hb⟩

set_option maxHeartbeats 2000000 in
theorem law1_known (w : World) : Calls Try.prog 8 #[] w fun e w' => e = .returned (.bool true) ∧ Below w.heap.size w w' := by
  go_enter Try.func8, Try.ntmps8
  go_wp2_with fail
  refine (kn_parse _ [97, 46, 98, 0, 67] 0 (by decide) (by decide) _).mono ?_
  rintro e w1 ⟨rfl, b1⟩
  go_wp2_with fail
  refine (kn_parse _ [] 2 (by decide) (by decide) _).mono ?_
  rintro e w2 ⟨rfl, b2⟩
  go_wp2_with fail
  refine (kn_parse _ [] 7 (by decide) (by decide) _).mono ?_
  rintro e w3 ⟨rfl, b3⟩
  go_wp2_with fail
  refine (kn_split _ [97, 92, 46, 98] [[99]] (by decide) (by decide) _).mono ?_
  rintro e w4 ⟨g, c, rfl, hc4, hg4, b4⟩
  go_wp2_with fail
  refine (kn_text _ [97, 92, 46, 98, 92, 48, 48, 48, 67] (by decide) (by decide) _).mono ?_
  rintro e w5 ⟨rfl, b5⟩
  have hc5 : w5.cell? ⟨g, 0, none⟩ = some (.string ⟨#[97, 92, 46, 98]⟩) := (b5.cell (p := ⟨g, 0, none⟩) hg4).trans hc4
  go_wp2_with fail
  refine (kn_fold _ [97, 98, 91] (by decide) (by decide) _).mono ?_
  rintro e w6 ⟨rfl, b6⟩
  go_wp2_with fail
  refine (kn_same _ _ true (by decide) (by decide) (by decide) _).mono ?_
  rintro e w7 ⟨rfl, b7⟩
  go_wp2_with fail
  refine (kn_compare _ _ 1 (by decide) (by decide) (by decide) _).mono ?_
  rintro e w8 ⟨rfl, b8⟩
  go_wp2_with fail
  refine (kn_check _ 8 (by decide) (by decide) _).mono ?_
  rintro e w9 ⟨rfl, b9⟩
  go_wp2_with fail
  go_ret
  refine ⟨rfl, ?_⟩
  have s1 := b1.size
  have s2 := b2.size
  have s3 := b3.size
  have s4 := b4.size
  have s5 := b5.size
  have s6 := b6.size
  have s7 := b7.size
  have s8 := b8.size
  exact b1.trans ((b2.mono s1).trans ((b3.mono (by omega)).trans ((b4.mono (by omega)).trans ((b5.mono (by omega)).trans ((b6.mono (by omega)).trans ((b7.mono (by omega)).trans ((b8.mono (by omega)).trans (b9.mono (by omega)))))))))

end Go.Proofs.Ytjdpljkabgkpfaa
