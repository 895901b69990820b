/-
  The law's own example of layer 3 ('known') answers true.
-/
import Derived.Test.YtoohhoillblaoaaDoorTyJ
namespace Go.Proofs.YtoohhoillblaoaaDoor
open Go.RowKit Go.Shelf

theorem kt_parse (s : ByteArray) (v er : Int) (h : parseTypeM s.data.toList = (v, er)) (w : World) (hs : s.size ≤ 35184372088000) :
    Calls Tryd.prog 6 #[.string s] w fun e w' => e = .returned (.tuple #[.int .i64 v, .int .i64 er]) ∧ Below w.heap.size w w' := by
  refine (rtype_Parse s w hs).mono ?_
  intro e w' hp; unfold ParseTPost at hp; rw [h] at hp; exact hp
theorem kt_rparse (s : ByteArray) (v er : Int) (h : parseTypeM s.data.toList = (v, er)) (w : World) (hs : s.size ≤ 35184372088000) :
    Calls Tryd.prog 7 #[.string s] w fun e w' => e = .returned (.tuple #[.int .i64 v, .int .i64 er]) ∧ Below w.heap.size w w' := by
  refine (ref_ParseType s w hs).mono ?_
  intro e w' hp; unfold ParseTPost at hp; rw [h] at hp; exact hp
theorem kt_text (t : Int) (l : List UInt8) (h : typeTextM t = l) (h0 : -9223372036854775808 ≤ t) (h1 : t ≤ 9223372036854775807) (w : World) (hT : Tab w) :
    Calls Tryd.prog 10 #[.int .i64 t] w fun e w' => e = .returned (.string ⟨l.toArray⟩) ∧ Below w.heap.size w w' := by
  subst h; exact rtype_Text t h0 h1 w hT
theorem kt_known (t : Int) (b : Bool) (h : knownM t = b) (w : World) :
    Calls Tryd.prog 8 #[.int .i64 t] w fun e w' => e = .returned (.bool b) ∧ Below w.heap.size w w' := by
  subst h; exact rtype_Known t w
theorem text99 : typeTextM 99 = [84, 89, 80, 69, 57, 57] := by
  have h : rowOfT 99 = none := by decide
  unfold typeTextM; rw [h]
  show [84, 89, 80, 69] ++ Lib.itoa ((99 : Nat) : Int) = _
  rw [Lib.itoa_nonneg, Lib.decDigits_two (by omega) (by omega)]; rfl

set_option maxRecDepth 100000 in
set_option maxHeartbeats 4000000 in
theorem law3_known (w : World) (hT : Tab w) : Calls Tryd.prog 5 #[] w fun e w' => e = .returned (.bool true) ∧ Below w.heap.size w w' := by
  go_enter Tryd.func5, Tryd.ntmps5
  have b0 := Below.refl w.heap.size w
  go_wp2_with fail
  refine (kt_parse _ 5 0 (by decide) _ (by decide)).mono ?_
  rintro e w1 ⟨rfl, d1⟩
  have qw1 := (b0).trans (d1.mono (b0).size)
  have T_w1 := hT.below d1
  clear b0 hT d1
  go_wp2_with fail
  refine (kt_parse _ 5 0 (by decide) _ (by decide)).mono ?_
  rintro e w2 ⟨rfl, d2⟩
  have qw2 := (qw1).trans (d2.mono (qw1).size)
  have T_w2 := T_w1.below d2
  clear qw1 T_w1 d2
  go_wp2_with fail
  refine (kt_parse _ 0 7 (by decide) _ (by decide)).mono ?_
  rintro e w3 ⟨rfl, d3⟩
  have qw3 := (qw2).trans (d3.mono (qw2).size)
  have T_w3 := T_w2.below d3
  clear qw2 T_w2 d3
  go_wp2_with fail
  refine (kt_parse _ 0 6 (by decide) _ (by decide)).mono ?_
  rintro e w4 ⟨rfl, d4⟩
  have qw4 := (qw3).trans (d4.mono (qw3).size)
  have T_w4 := T_w3.below d4
  clear qw3 T_w3 d4
  go_wp2_with fail
  refine (kt_text 5 [67, 78, 65, 77, 69] (by decide) (by decide) (by decide) _ T_w4).mono ?_
  rintro e w5 ⟨rfl, d5⟩
  have qw5 := (qw4).trans (d5.mono (qw4).size)
  have T_w5 := T_w4.below d5
  clear qw4 T_w4 d5
  go_wp2_with fail
  refine (kt_text 99 _ text99 (by decide) (by decide) _ T_w5).mono ?_
  rintro e w6 ⟨rfl, d6⟩
  have qw6 := (qw5).trans (d6.mono (qw5).size)
  have T_w6 := T_w5.below d6
  clear qw5 T_w5 d6
  go_wp2_with fail
  refine (kt_known 39 true (by decide) _).mono ?_
  rintro e w7 ⟨rfl, d7⟩
  have qw7 := (qw6).trans (d7.mono (qw6).size)
  have T_w7 := T_w6.below d7
  clear qw6 T_w6 d7
  go_wp2_with fail
  refine (kt_known 3 false (by decide) _).mono ?_
  rintro e w8 ⟨rfl, d8⟩
  have qw8 := (qw7).trans (d8.mono (qw7).size)
  have T_w8 := T_w7.below d8
  clear qw7 T_w7 d8
  go_wp2_with fail
  refine (rtype_All _).mono ?_
  rintro e w9 ⟨a9, c9, rfl, h9, d9⟩
  have qw9 := (qw8).trans (d9.mono (qw8).size)
  have T_w9 := T_w8.below d9
  clear qw8 T_w8 h9 d9
  go_wp2_with fail
  go_ret
  exact ⟨rfl, qw9⟩
end Go.Proofs.YtoohhoillblaoaaDoor
