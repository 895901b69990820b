/-
  The law's known examples.
-/
import Derived.Test.YtgalihmmlcnahaaDoorGenJ
namespace Go.Proofs.YtgalihmmlcnahaaDoor
open Go.RowKit Go.Shelf Go.Sort
set_option maxRecDepth 20000
set_option linter.unusedVariables false
set_option linter.unusedSimpArgs false

theorem kn_Parse1 (W : World) (h : TG W) : Calls Tryd.prog 7 #[.string ⟨#[49, 45, 55, 47, 51]⟩] W fun e w' => e = .returned (.tuple #[.agg #[.int .i64 1, .int .i64 7, .int .i64 3], .int .i64 0]) ∧ Below W.heap.size W w' := by
  have e : parseR (⟨#[49, 45, 55, 47, 51]⟩ : ByteArray).data.toList = ((1, 7, 3), 0) := by decide +kernel
  have h := gen_Parse ⟨#[49, 45, 55, 47, 51]⟩ W (by decide) h.1
  rw [e] at h
  exact h
theorem kn_Parse2 (W : World) (h : TG W) : Calls Tryd.prog 7 #[.string ⟨#[53, 45, 50]⟩] W fun e w' => e = .returned (.tuple #[.agg #[.int .i64 0, .int .i64 0, .int .i64 0], .int .i64 1]) ∧ Below W.heap.size W w' := by
  have e : parseR (⟨#[53, 45, 50]⟩ : ByteArray).data.toList = ((0, 0, 0), 1) := by decide +kernel
  have h := gen_Parse ⟨#[53, 45, 50]⟩ W (by decide) h.1
  rw [e] at h
  exact h
theorem kn_Numbers (W : World) : Calls Tryd.prog 9 #[.agg #[.int .i64 1, .int .i64 7, .int .i64 3]] W fun e w' => ∃ g c, e = .returned (.tuple #[.slice (some ⟨g, 0, none⟩) 3 c, .int .i64 0]) ∧ w'.cell? ⟨g, 2, none⟩ = some (.int .i64 7) ∧ g < w'.heap.size ∧ Below W.heap.size W w' := by
  have e : numsM 1 7 3 = ([1, 4, 7], 0) := by decide +kernel
  have h := gen_Numbers 1 7 3 W (by omega) (by omega) (by omega)
  rw [e] at h
  refine h.mono ?_
  rintro e w' ⟨v, rfl, ⟨a, c, rfl, _, hh⟩, hb⟩
  rcases hh with hh | ⟨g, rfl, hg, hc⟩
  · cases hh
  · exact ⟨g, c, rfl, hc 2 (by decide), hg, hb⟩
set_option maxHeartbeats 4000000 in
theorem law8_known (w : World) (hw : TG w) :
    Calls Tryd.prog 6 #[] w fun e w' => e = .returned (.bool true) ∧ Below w.heap.size w w' := by
  have KP1 := Lib.hid kn_Parse1
  have KP2 := Lib.hid kn_Parse2
  have KK := Lib.hid put_K
  have KQ := Lib.hid put_Q
  have hS0 : TG w ∧ Below w.heap.size w w := ⟨hw, Below.refl _ w⟩
  have KS := Lib.hid (fun (W W' : World) (h : TG W ∧ Below w.heap.size w W) (hb : Below W.heap.size W W') => (⟨h.1.below hb, h.2.trans (hb.mono h.2.size)⟩ : TG W' ∧ Below w.heap.size w W'))
  clear hw
  go_enter Tryd.func6, Tryd.ntmps6
  go_wp2_with (go_at_call 7; refine (KP1.out _ hS0.1).mono ?_; rintro e w2 ⟨rfl, hb2⟩; have hS2 := KS.out _ _ hS0 hb2)
  have hk := Lib.hid (knew w2 (.cells #[.int .i64 1, .int .i64 7, .int .i64 3] 23))
  have hSa := KS.out _ _ hS2 ((Below.refl _ w2).alloc (Nat.le_refl _) (.cells #[.int .i64 1, .int .i64 7, .int .i64 3] 23))
  refine (kn_Numbers _).mono ?_
  rintro e w3 ⟨g, c, rfl, hg2, hgl, hb3⟩
  have hS3 := KS.out _ _ hSa hb3
  have hk3 := Lib.hid ((hb3.block w2.heap.size (kblock_lt hk.out)).trans hk.out)
  clear hb3 hS2 hSa
  go_wp2_with fail
  refine (KK.out _ hS3.1).mono ?_
  rintro e w4 ⟨rfl, hb4⟩
  have hS4 := KS.out _ _ hS3 hb4
  have hk4 := Lib.hid ((hb4.block w2.heap.size (kblock_lt hk3.out)).trans hk3.out)
  have hg4 := (hb4.cell (p := ⟨g, 2, none⟩) hgl).trans hg2
  have hgl4 := Nat.lt_of_lt_of_le hgl hb4.size
  clear hb4 hS3 hg2 hgl hk3
  go_wp2_with fail
  refine (KP2.out _ hS4.1).mono ?_
  rintro e w5 ⟨rfl, hb5⟩
  have hS5 := KS.out _ _ hS4 hb5
  have hk5 := Lib.hid ((hb5.block w2.heap.size (kblock_lt hk4.out)).trans hk4.out)
  have hg5 := (hb5.cell (p := ⟨g, 2, none⟩) hgl4).trans hg4
  have hgl5 := Nat.lt_of_lt_of_le hgl4 hb5.size
  clear hb5 hS4 hg4 hgl4 hk4
  go_wp2_with fail
  have hSb := KS.out _ _ hS5 ((Below.refl _ w5).alloc (Nat.le_refl _) (.cells #[.int .i64 0, .int .i64 0, .int .i64 0] 23))
  have hkb := Lib.hid ((Below.heap_alloc w5 (.cells #[.int .i64 0, .int .i64 0, .int .i64 0] 23) w2.heap.size (kblock_lt hk5.out)).trans hk5.out)
  have hgb := (((Below.refl w5.heap.size w5).alloc (Nat.le_refl _) (.cells #[.int .i64 0, .int .i64 0, .int .i64 0] 23)).cell (p := ⟨g, 2, none⟩) hgl5).trans hg5
  have hglb : g < (w5.alloc (.cells #[.int .i64 0, .int .i64 0, .int .i64 0] 23)).heap.size := by simp; omega
  refine (KQ.out _ hSb.1).mono ?_
  rintro e w6 ⟨rfl, hb6⟩
  have hS6 := KS.out _ _ hSb hb6
  have hk6 := (hb6.block w2.heap.size (kblock_lt hkb.out)).trans hkb.out
  have hc3 := kcell hk6 2 (.int .i64 3) rfl
  have hg6 := (hb6.cell (p := ⟨g, 2, none⟩) hglb).trans hgb
  clear hb6 hSb hgb hglb hkb hk6 hS5 hg5 hgl5 hk5 KS KP1 KP2 KK KQ
  go_wp2_with fail
  go_ret
  exact ⟨rfl, hS6.2⟩
end Go.Proofs.YtgalihmmlcnahaaDoor
