/-
  NameChild: what is put ahead of a name is below it, its parent is that name; what is handed stays.
-/
import Derived.Test.YtoohhoillblaoaaLawK2
import Derived.Test.YtoohhoillblaoaaNamY
import Derived.Test.YtoohhoillblaoaaApp2
namespace Go.Proofs.Ytoohhoillblaoaa
open Go.RowKit Go.Shelf

set_option maxRecDepth 100000 in
set_option maxHeartbeats 8000000 in
theorem law2_NameChild (s0 : ByteArray) (v1 : Value) (x1 : Nm)  (w : World) (h0 : s0.size ≤ maxLen) (h1 : NmArg w v1 x1) :
    Calls Try.prog 7 #[.string s0, v1] w fun e w' => e = .returned (.bool true) ∧ Below w.heap.size w w' := by
  obtain ⟨k1, r1, rfl, _⟩ := id h1.1.1
  have n1 := h1.1
  unfold maxLen at h0
  by_cases hz : 100 < (s0.size : Int)
  · go_enter Try.func7, Try.ntmps7
    have b0 := Below.refl w.heap.size w
    go_wp2_with fail
    refine (law2_known _).mono ?_
    rintro e w1 ⟨rfl, d1⟩
    have qw1 := (b0).trans (d1.mono (b0).size)
    have n1_w1 := n1.below d1
    clear b0 n1 d1
    go_wp2_with fail
    go_ret
    exact ⟨rfl, qw1⟩
  have hz1 : (s0.size : Int) ≤ 100 := by omega
  clear hz
  obtain ⟨f1, hf1⟩ : ∃ r, fewN x1 = r := ⟨_, rfl⟩
  cases f1 with
  | false =>
    go_enter Try.func7, Try.ntmps7
    have b0 := Below.refl w.heap.size w
    go_wp2_with fail
    refine (law2_known _).mono ?_
    rintro e w1 ⟨rfl, d1⟩
    have qw1 := (b0).trans (d1.mono (b0).size)
    have n1_w1 := n1.below d1
    clear b0 n1 d1
    go_wp2_with fail
    refine (kn_Few _ x1 false hf1 w _ h1 n1_w1).mono ?_
    rintro e w2 ⟨rfl, d2⟩
    have qw2 := (qw1).trans (d2.mono (qw1).size)
    have n1_w2 := n1_w1.below d2
    clear qw1 n1_w1 d2
    go_wp2_with fail
    go_ret
    exact ⟨rfl, qw2⟩
  | true =>
    have g1 := fewN_ok hf1
    have z1 : x1.length ≤ 140 := (of_decide_eq_true hf1).1
    obtain ⟨ch, hch⟩ : ∃ q, s0.data.toList :: x1 = q := ⟨_, rfl⟩
    have hcl : ch.length = x1.length + 1 := by rw [← hch]; rfl
    have hco : NmOK ch := ⟨by omega, fun x hx => by rw [← hch] at hx; rcases List.mem_cons.1 hx with h | h; (rw [h, size_data]; omega); exact g1.2 x h⟩
    have hpar : parentN ch = x1 := by rw [← hch]; rfl
    have hu1 : underN ch x1 = true := by rw [← hch]; exact under_child _ _
    have hu2 : underN x1 ch = false := by rw [← hch]; exact not_under_child _ _
    have hcm : compareN x1 ch = -1 := by rw [← hch]; exact compare_child _ _
    have hln : (lenN ch : Int) = (lenN x1 : Int) + 1 + (s0.size : Int) := by rw [← hch, lenN_cons, size_data]; omega
    have hlb : (lenN x1 : Int) ≤ 200000000 := by have := lenN_take_le g1 x1.length (Nat.le_refl _); rw [List.take_length] at this; omega
    have hlb0 : (0 : Int) ≤ (lenN x1 : Int) := by omega
    have hCa := fun W h => kn_NChild s0 (.slice k1 x1.length r1) x1 ch _ hch hcl W h g1
    have hCb := fun W h => kn_RChild s0 (.slice k1 x1.length r1) x1 ch _ hch hcl W h g1
    have hPa := fun W v h => kn_NParent v ch x1 _ hpar rfl W h hco
    have hUa := fun W v h k => kn_NUnder v (.slice k1 x1.length r1) ch x1 true hu1 W h k hco g1
    have hUb := fun W v h k => kn_NUnder (.slice k1 x1.length r1) v x1 ch false hu2 W h k g1 hco
    have hCm := fun W v h k => kn_NCompare (.slice k1 x1.length r1) v x1 ch (-1) hcm W h k g1 hco
    have hLa := fun W v h => kn_NLen v ch _ hln W h hco
    have hLb := fun W h => kn_NLen (.slice k1 x1.length r1) x1 _ rfl W h g1
    have hsl := n1.2
    have HF1 := Lib.hid hf1
    clear hf1 hch hcl hpar hu1 hu2 hcm hln
    generalize (lenN x1 : Int) = ln at *
    go_enter Try.func7, Try.ntmps7
    have b0 := Below.refl w.heap.size w
    go_wp2_with fail
    refine (law2_known _).mono ?_
    rintro e w1 ⟨rfl, d1⟩
    have qw1 := (b0).trans (d1.mono (b0).size)
    have n1_w1 := n1.below d1
    clear b0 n1 d1
    go_wp2_with fail
    refine (kn_Few _ x1 true HF1.out w _ h1 n1_w1).mono ?_
    rintro e w2 ⟨rfl, d2⟩
    have qw2 := (qw1).trans (d2.mono (qw1).size)
    have n1_w2 := n1_w1.below d2
    clear qw1 n1_w1 d2
    have hlit := OwnG.lit (T := 9) (enc := strV) w2 w.heap.size (qw2).size [] (by simp)
    have qb : Below w.heap.size w (w2.alloc (.cells #[] 9)) := (qw2).alloc (qw2).size _
    go_wp2_with (first | (at_builtin; refine wpl_append_s2 (w2.alloc (.cells #[] 9)) rfl (.tmp 17) (.tmp 18) elemS elemNm rfl w.heap.size (.slice (some ⟨w2.heap.size, 0, none⟩) 0 0) [] rfl hlit (.slice k1 x1.length r1) x1 rfl (n1_w2.alloc _).1 hsl qb.size (by unfold maxLen; simp; omega) (by simp; omega) ?_; intro va wa hown hga; have qa : Below w.heap.size w wa := qb.grown hga qb.size hlit.base_le; have n1_a : NmAt wa (.slice k1 x1.length r1) x1 := h1.1.below qa; obtain ⟨aw, cw, rfl⟩ := hown.shape; have was := hown.nmAt; clear hown hga qb hlit) | fail)
    simp only [List.nil_append] at was
    clear qw2
    refine (hCa _ n1_a).mono ?_
    rintro e u3 ⟨a3, c3, rfl, h3, d3⟩
    have qu3 := (qa).trans (d3.mono (qa).size)
    have n1_u3 := n1_a.below d3
    have was_u3 := was.below d3
    have c_u3 := h3
    clear qa n1_a was h3 d3
    go_wp2_with fail
    refine (hCb _ n1_u3).mono ?_
    rintro e u4 ⟨a4, c4, rfl, h4, d4⟩
    have qu4 := (qu3).trans (d4.mono (qu3).size)
    have n1_u4 := n1_u3.below d4
    have was_u4 := was_u3.below d4
    have c_u4 := c_u3.below d4
    have r_u4 := h4
    clear qu3 n1_u3 was_u3 c_u3 h4 d4
    go_wp2_with fail
    refine (kn_Is _ _ ch ch true (decide_eq_true rfl) _ c_u4 r_u4 hco).mono ?_
    rintro e u5 ⟨rfl, d5⟩
    have qu5 := (qu4).trans (d5.mono (qu4).size)
    have n1_u5 := n1_u4.below d5
    have was_u5 := was_u4.below d5
    have c_u5 := c_u4.below d5
    clear qu4 n1_u4 was_u4 c_u4 r_u4 d5
    go_wp2_with fail
    refine (hPa _ _ c_u5).mono ?_
    rintro e u6 ⟨a6, c6, rfl, h6, d6⟩
    have qu6 := (qu5).trans (d6.mono (qu5).size)
    have n1_u6 := n1_u5.below d6
    have was_u6 := was_u5.below d6
    have c_u6 := c_u5.below d6
    have p_u6 := h6
    clear qu5 n1_u5 was_u5 c_u5 h6 d6
    go_wp2_with fail
    refine (kn_Is _ _ x1 x1 true (decide_eq_true rfl) _ p_u6 n1_u6 g1).mono ?_
    rintro e u7 ⟨rfl, d7⟩
    have qu7 := (qu6).trans (d7.mono (qu6).size)
    have n1_u7 := n1_u6.below d7
    have was_u7 := was_u6.below d7
    have c_u7 := c_u6.below d7
    clear qu6 n1_u6 was_u6 c_u6 p_u6 d7
    go_wp2_with fail
    refine (hUa _ _ c_u7 n1_u7).mono ?_
    rintro e u8 ⟨rfl, d8⟩
    have qu8 := (qu7).trans (d8.mono (qu7).size)
    have n1_u8 := n1_u7.below d8
    have was_u8 := was_u7.below d8
    have c_u8 := c_u7.below d8
    clear qu7 n1_u7 was_u7 c_u7 d8
    go_wp2_with fail
    refine (hUb _ _ n1_u8 c_u8).mono ?_
    rintro e u9 ⟨rfl, d9⟩
    have qu9 := (qu8).trans (d9.mono (qu8).size)
    have n1_u9 := n1_u8.below d9
    have was_u9 := was_u8.below d9
    have c_u9 := c_u8.below d9
    clear qu8 n1_u8 was_u8 c_u8 d9
    go_wp2_with fail
    refine (hCm _ _ n1_u9 c_u9).mono ?_
    rintro e u10 ⟨rfl, d10⟩
    have qu10 := (qu9).trans (d10.mono (qu9).size)
    have n1_u10 := n1_u9.below d10
    have was_u10 := was_u9.below d10
    have c_u10 := c_u9.below d10
    clear qu9 n1_u9 was_u9 c_u9 d10
    go_wp2_with fail
    refine (kn_Is _ _ x1 x1 true (decide_eq_true rfl) _ n1_u10 was_u10 g1).mono ?_
    rintro e u11 ⟨rfl, d11⟩
    have qu11 := (qu10).trans (d11.mono (qu10).size)
    have n1_u11 := n1_u10.below d11
    have c_u11 := c_u10.below d11
    clear qu10 n1_u10 was_u10 c_u10 d11
    go_wp2_with fail
    refine (hLa _ _ c_u11).mono ?_
    rintro e u12 ⟨rfl, d12⟩
    have qu12 := (qu11).trans (d12.mono (qu11).size)
    have n1_u12 := n1_u11.below d12
    have c_u12 := c_u11.below d12
    clear qu11 n1_u11 c_u11 d12
    go_wp2_with fail
    refine (hLb _ n1_u12).mono ?_
    rintro e u13 ⟨rfl, d13⟩
    have qu13 := (qu12).trans (d13.mono (qu12).size)
    have n1_u13 := n1_u12.below d13
    have c_u13 := c_u12.below d13
    clear qu12 n1_u12 c_u12 d13
    go_wp2_with fail
    go_ret
    exact ⟨rfl, qu13⟩
end Go.Proofs.Ytoohhoillblaoaa
