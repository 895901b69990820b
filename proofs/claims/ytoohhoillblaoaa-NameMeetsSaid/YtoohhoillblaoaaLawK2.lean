/-
  The law's own example of layer 2 ('known') answers true.
-/
import Derived.Test.YtoohhoillblaoaaNamX
namespace Go.Proofs.Ytoohhoillblaoaa
open Go.RowKit Go.Shelf

set_option maxRecDepth 100000 in
set_option maxHeartbeats 8000000 in
theorem law2_known (w : World) : Calls Try.prog 11 #[] w fun e w' => e = .returned (.bool true) ∧ Below w.heap.size w w' := by
  go_enter Try.func11, Try.ntmps11
  have b0 := Below.refl w.heap.size w
  go_wp2_with fail
  refine (kn_NParse _ _ [[99]] [[97], [66], [99]] 0 3 (by decide) rfl _ (nm_lit _ [[99]] [.string ⟨#[99]⟩] 1 _ rfl rfl (by decide) (by simp)) (by decide) ⟨by decide, by decide⟩ (by decide)).mono ?_
  rintro e w1 ⟨a1, c1, rfl, h1, d1⟩
  have b1 := ((b0.alloc (b0).size _)).trans (d1.mono ((b0.alloc (b0).size _)).size)
  have n1 := h1
  clear b0 d1 h1
  go_wp2_with fail
  refine (kn_NParse _ _ [] [[120]] 0 1 (by decide) rfl _ (nm_nil _) (by decide) ⟨by decide, by decide⟩ (by decide)).mono ?_
  rintro e w2 ⟨a2, c2, rfl, h2, d2⟩
  have b2 := (b1).trans (d2.mono (b1).size)
  have n2 := n1.below d2
  have m2 := h2
  clear n1 b1 d2 h2
  go_wp2_with fail
  refine (kn_NParse _ _ [] [] 8 0 (by decide) rfl _ (nm_nil _) (by decide) ⟨by decide, by decide⟩ (by decide)).mono ?_
  rintro e w3 ⟨a3, c3, rfl, h3, d3⟩
  have b3 := (b2).trans (d3.mono (b2).size)
  have n3 := n2.below d3
  have m3 := m2.below d3
  clear n2 m2 b2 d3 h3
  go_wp2_with fail
  refine (kn_NSwap _ _ _ [[97], [66], [99]] [[67]] [[100], [101]] [[97], [66], [100], [101]] 0 4 (by decide) rfl _ ((n3.alloc _).alloc _) ((nm_lit _ [[67]] [.string ⟨#[67]⟩] 1 _ rfl rfl (by decide) (by simp)).alloc _) (nm_lit _ [[100], [101]] [.string ⟨#[100]⟩, .string ⟨#[101]⟩] 2 _ rfl rfl (by decide) (by simp)) ⟨by decide, by decide⟩ ⟨by decide, by decide⟩ ⟨by decide, by decide⟩ ⟨by decide, by decide⟩).mono ?_
  rintro e w4 ⟨a4, c4, rfl, h4, d4⟩
  have b4 := (((b3.alloc (b3).size _).alloc ((b3.alloc (b3).size _)).size _)).trans (d4.mono (((b3.alloc (b3).size _).alloc ((b3.alloc (b3).size _)).size _)).size)
  have n4 := ((n3.alloc _).alloc _).below d4
  have m4 := ((m3.alloc _).alloc _).below d4
  have s4 := h4
  clear n3 m3 b3 d4 h4
  go_wp2_with fail
  refine (kn_NSwap _ _ _ [[97], [66], [99]] [[120]] [] [] 12 0 (by decide) rfl _ n4 m4 (nm_nil _) ⟨by decide, by decide⟩ ⟨by decide, by decide⟩ ⟨by decide, by decide⟩ ⟨by decide, by decide⟩).mono ?_
  rintro e w5 ⟨a5, c5, rfl, h5, d5⟩
  have b5 := (b4).trans (d5.mono (b4).size)
  have n5 := n4.below d5
  have m5 := m4.below d5
  have s5 := s4.below d5
  clear n4 m4 s4 b4 d5 h5
  go_wp2_with fail
  refine (kn_NText _ [[97], [66], [99]] [97, 46, 66, 46, 99, 46] (by decide) _ n5 ⟨by decide, by decide⟩).mono ?_
  rintro e w6 ⟨rfl, d6⟩
  have b6 := (b5).trans (d6.mono (b5).size)
  have n6 := n5.below d6
  have m6 := m5.below d6
  have s6 := s5.below d6
  clear n5 m5 s5 b5 d6
  go_wp2_with fail
  refine (kn_NText _ [] [46] (by decide) _ (nm_nil _) ⟨by decide, by decide⟩).mono ?_
  rintro e w7 ⟨rfl, d7⟩
  have b7 := (b6).trans (d7.mono (b6).size)
  have n7 := n6.below d7
  have m7 := m6.below d7
  have s7 := s6.below d7
  clear n6 m6 s6 b6 d7
  go_wp2_with fail
  refine (kn_NUnder _ _ [[97], [66], [99]] [[98], [67]] true (by decide) _ (n7.alloc _) (nm_lit _ [[98], [67]] [.string ⟨#[98]⟩, .string ⟨#[67]⟩] 2 _ rfl rfl (by decide) (by simp)) ⟨by decide, by decide⟩ ⟨by decide, by decide⟩).mono ?_
  rintro e w8 ⟨rfl, d8⟩
  have b8 := ((b7.alloc (b7).size _)).trans (d8.mono ((b7.alloc (b7).size _)).size)
  have n8 := (n7.alloc _).below d8
  have m8 := (m7.alloc _).below d8
  have s8 := (s7.alloc _).below d8
  clear n7 m7 s7 b7 d8
  go_wp2_with fail
  refine (kn_NUnder _ _ [[97], [66], [99]] [[120]] false (by decide) _ n8 m8 ⟨by decide, by decide⟩ ⟨by decide, by decide⟩).mono ?_
  rintro e w9 ⟨rfl, d9⟩
  have b9 := (b8).trans (d9.mono (b8).size)
  have n9 := n8.below d9
  have m9 := m8.below d9
  have s9 := s8.below d9
  clear n8 m8 s8 b8 d9
  go_wp2_with fail
  refine (kn_NText _ [[97], [66], [100], [101]] [97, 46, 66, 46, 100, 46, 101, 46] (by decide) _ s9 ⟨by decide, by decide⟩).mono ?_
  rintro e w10 ⟨rfl, d10⟩
  have b10 := (b9).trans (d10.mono (b9).size)
  have n10 := n9.below d10
  have m10 := m9.below d10
  have s10 := s9.below d10
  clear n9 m9 s9 b9 d10
  go_wp2_with fail
  refine (kn_NLen _ [[97], [66], [99]] 7 (by decide) _ n10 ⟨by decide, by decide⟩).mono ?_
  rintro e w11 ⟨rfl, d11⟩
  have b11 := (b10).trans (d11.mono (b10).size)
  have n11 := n10.below d11
  have m11 := m10.below d11
  have s11 := s10.below d11
  clear n10 m10 s10 b10 d11
  go_wp2_with fail
  refine (kn_NCompare _ _ [[120]] [[97], [66], [99]] 1 (by decide) _ m11 n11 ⟨by decide, by decide⟩ ⟨by decide, by decide⟩).mono ?_
  rintro e w12 ⟨rfl, d12⟩
  have b12 := (b11).trans (d12.mono (b11).size)
  have n12 := n11.below d12
  have m12 := m11.below d12
  have s12 := s11.below d12
  clear n11 m11 s11 b11 d12
  go_wp2_with fail
  refine (kn_NParent _ [[97], [66], [99]] [[66], [99]] 2 (by decide) rfl _ n12 ⟨by decide, by decide⟩).mono ?_
  rintro e w13 ⟨a13, c13, rfl, h13, d13⟩
  have b13 := (b12).trans (d13.mono (b12).size)
  have n13 := n12.below d13
  have m13 := m12.below d13
  have s13 := s12.below d13
  clear n12 m12 s12 b12 d13 h13
  go_wp2_with fail
  refine (kn_NChild _ _ [[97], [66], [99]] [[122], [97], [66], [99]] 4 (by decide) rfl _ n13 ⟨by decide, by decide⟩).mono ?_
  rintro e w14 ⟨a14, c14, rfl, h14, d14⟩
  have b14 := (b13).trans (d14.mono (b13).size)
  have n14 := n13.below d14
  have m14 := m13.below d14
  have s14 := s13.below d14
  clear n13 m13 s13 b13 d14 h14
  go_wp2_with fail
  refine (kn_NFold _ [[97], [66], [99]] [[97], [98], [99]] 3 (by decide) rfl _ n14 ⟨by decide, by decide⟩).mono ?_
  rintro e w15 ⟨a15, c15, rfl, h15, d15⟩
  have b15 := (b14).trans (d15.mono (b14).size)
  have n15 := n14.below d15
  have m15 := m14.below d15
  have s15 := s14.below d15
  have f15 := h15
  clear n14 m14 s14 b14 d15 h15
  go_wp2_with fail
  refine (kn_NSame _ _ [[97], [66], [99]] [[97], [98], [99]] true (by decide) _ n15 f15 ⟨by decide, by decide⟩ ⟨by decide, by decide⟩).mono ?_
  rintro e w16 ⟨rfl, d16⟩
  have b16 := (b15).trans (d16.mono (b15).size)
  have n16 := n15.below d16
  have m16 := m15.below d16
  have s16 := s15.below d16
  have f16 := f15.below d16
  clear n15 m15 s15 f15 b15 d16
  go_wp2_with fail
  refine (kn_NCommon _ _ [[97], [66], [99]] [[113], [99]] [[99]] 1 (by decide) rfl _ (n16.alloc _) (nm_lit _ [[113], [99]] [.string ⟨#[113]⟩, .string ⟨#[99]⟩] 2 _ rfl rfl (by decide) (by simp)) ⟨by decide, by decide⟩ ⟨by decide, by decide⟩).mono ?_
  rintro e w17 ⟨a17, c17, rfl, h17, d17⟩
  have b17 := ((b16.alloc (b16).size _)).trans (d17.mono ((b16.alloc (b16).size _)).size)
  have n17 := (n16.alloc _).below d17
  have m17 := (m16.alloc _).below d17
  have s17 := (s16.alloc _).below d17
  have f17 := (f16.alloc _).below d17
  clear n16 m16 s16 f16 b16 d17 h17
  go_wp2_with fail
  refine (kn_NWild _ [[42]] true (by decide) _ (nm_lit _ [[42]] [.string ⟨#[42]⟩] 1 _ rfl rfl (by decide) (by simp)) ⟨by decide, by decide⟩).mono ?_
  rintro e w18 ⟨rfl, d18⟩
  have b18 := ((b17.alloc (b17).size _)).trans (d18.mono ((b17.alloc (b17).size _)).size)
  have n18 := (n17.alloc _).below d18
  have m18 := (m17.alloc _).below d18
  have s18 := (s17.alloc _).below d18
  have f18 := (f17.alloc _).below d18
  clear n17 m17 s17 f17 b17 d18
  go_wp2_with fail
  refine (kn_NCheck _ [[97], [66], [99]] 0 (by decide) _ n18 ⟨by decide, by decide⟩).mono ?_
  rintro e w19 ⟨rfl, d19⟩
  have b19 := (b18).trans (d19.mono (b18).size)
  have n19 := n18.below d19
  have m19 := m18.below d19
  have s19 := s18.below d19
  have f19 := f18.below d19
  clear n18 m18 s18 f18 b18 d19
  go_wp2
  go_ret
  exact ⟨rfl, b19⟩
end Go.Proofs.Ytoohhoillblaoaa
