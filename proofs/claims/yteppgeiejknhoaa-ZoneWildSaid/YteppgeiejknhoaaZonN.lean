/-
  name.Child at a name of any length that an argument can have.
-/
import Derived.Test.YteppgeiejknhoaaMQ24
namespace Go.Proofs.Yteppgeiejknhoaa
open Go.RowKit Go.Shelf
set_option maxHeartbeats 2000000 in
theorem name_ChildW (s : ByteArray) (v : Value) (xs : Nm) (w : World) (hA : StrsAt w v xs) (hO : SlOK v) (hl : xs.length < 8796093022208) :
    Calls Try.prog 17 #[.string s, v] w (CopyPost (s.data.toList :: xs) w) := by
  obtain ⟨a, c, rfl, hx⟩ := id hA
  have hcell : [Value.string s] = [s.data.toList].map strV := by simp only [List.map_cons, List.map_nil, strV_of]
  have HC := Lib.hid hcell; clear hcell
  go_enter Try.func17, Try.ntmps17
  go_wp2_with (first | (at_make; refine wpl_make_g (α := List UInt8) (enc := strV) w rfl _ _ elemNm rfl w.heap.size .i64 .i64 _ (xs.length + 1) rfl rfl (by simp) (by omega) (by unfold maxLen; omega) (Nat.le_refl _) ?_; intro w0 hown0 hg0; have hA0 := hA.below ((Below.refl _ w).grown hg0 (Nat.le_refl _) (by simp))) | (at_builtin; refine wpl_append_g w0 rfl (.tmp 10) (.tmp 12) elemNm rfl strV_one w.heap.size (.slice (some ⟨w.heap.size, 0, none⟩) 0 (xs.length + 1)) [] rfl hown0 [.string s] [s.data.toList] HC.out 1 1 rfl rfl hg0.size (by unfold maxLen; simp) (by simp) ?_; intro v1 w1 hown1 hg1; have hB1 : Below w.heap.size w w1 := ((Below.refl _ w).grown hg0 (Nat.le_refl _) (by simp)).grown hg1 hg0.size hown0.base_le) | (at_builtin; refine wpl_append_s w1 rfl (.tmp 13) (.tmp 14) elemNm rfl w.heap.size v1 _ rfl hown1 (.slice a xs.length c) xs rfl (hA.below hB1) hO hB1.size (by unfold maxLen; simp; omega) (by simp; omega) ?_; intro v2 w2 hown2 hg2))
  go_ret
  exact ⟨v2, rfl, hown2, hB1.grown hg2 hB1.size hown1.base_le⟩

theorem kn_NChildW (s : ByteArray) (v : Value) (n l : Nm) (k : Nat) (h : s.data.toList :: n = l) (hk : l.length = k) (w : World) (hA : NmAt w v n) (h1 : n.length < 8796093022208) :
    Calls Try.prog 17 #[.string s, v] w (NmRes l k w) := by
  subst h; refine (name_ChildW s v n w hA.1 hA.2 h1).mono ?_
  rintro e w' ⟨v', rfl, ho, hb⟩; exact nmRes_of hk ho hb
end Go.Proofs.Yteppgeiejknhoaa
