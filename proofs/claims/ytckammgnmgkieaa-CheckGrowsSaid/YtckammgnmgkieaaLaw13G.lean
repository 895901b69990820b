/-
  law13.CheckGrows: true for any zone, any name.
-/
import Derived.Test.YtckammgnmgkieaaLaw13S
import Derived.Test.YtckammgnmgkieaaMQ13
import Derived.Deep.RegionHeld3
import Derived.Deep.CutRange
import Derived.Deep.DeepCutAuto
namespace Go.Proofs.Ytckammgnmgkieaa
open Go.RowKit Go.Shelf
set_option maxRecDepth 20000
set_option linter.unusedVariables false
set_option linter.unusedSimpArgs false
def moreT : List UInt8 := [111, 110, 101, 32, 109, 111, 114, 101]
def moreR (n : Nm) : Rc := ⟨n, 5, ⟨16, [], [], [moreT], []⟩⟩
theorem NmArg.below {W W' : World} {v : Value} {n : Nm} (h : NmArg W v n) (hb : Below W.heap.size W W') : NmArg W' v n := ⟨h.1.below hb, h.2⟩
theorem nmArg_ok {W : World} {v : Value} {n : Nm} (h : NmArg W v n) : True := trivial
theorem more_arg {W : World} {vn : Value} {n : Nm} {t : Nat} (h : NmArg W vn n) (ht : W.heap[t]? = some (.cells #[.string ⟨#[111, 110, 101, 32, 109, 111, 114, 101]⟩] 9)) : RcArg W [vn, .int .u32 ((5 : Nat) : Int), .int .i64 16, .slice none 0 0, .slice none 0 0, .slice (some ⟨t, 0, none⟩) 1 1, .slice none 0 0] (moreR n) := by
  refine ⟨vn, _, _, _, _, rfl, h, ⟨⟨_, _, _, _, rfl, NmsAt.nil _, SlAt.nil _, nm_lit' (l := [.string ⟨#[111, 110, 101, 32, 109, 111, 114, 101]⟩]) (n := [moreT]) ht rfl, SlAt.nil _⟩, ⟨by show -(2 ^ 63) ≤ (16 : Int); decide, by show (16 : Int) < 2 ^ 63; decide⟩, ?_, ?_, ?_⟩, by simp [moreR]⟩
  · intro x hx; cases hx
  · intro x hx; cases hx
  · intro x hx
    simp only [moreR, List.mem_singleton] at hx
    subst hx; decide
theorem RcArg.belowG {W W' : World} {cs : List Value} {r : Rc} (h : RcArg W cs r) (hb : Below W.heap.size W W') : RcArg W' cs r := by
  obtain ⟨vo, vn, vu, vt, vr, e, h1, h2, h3⟩ := h
  exact ⟨vo, vn, vu, vt, vr, e, ⟨h1.1.below hb, h1.2⟩, ⟨h2.1.below hb, h2.2⟩, h3⟩
theorem any_take1 {α : Type} {p : α → Bool} {l : List α} {k : Nat} (h : k < l.length) : (l.take (k + 1)).any p = ((l.take k).any p || p l[k]) := by
  rw [List.take_succ_eq_append_getElem h, List.any_append]; simp
def GrB (w6 : World) (o : Nm) (C : List Rc) (v : Value) (W : World) : Prop := ∃ (fs : List Fl) (css : List (List Value)) (a : Option Addr) (c : Nat), v = .slice a fs.length c ∧ SlK W (.slice a fs.length c) css ∧ Fls' W css fs ∧ fs.Perm (allF o C) ∧ Below w6.heap.size w6 W
set_option maxRecDepth 100000 in
set_option maxHeartbeats 16000000 in
theorem law13_CheckGrows {w : World} (vo vl vn : Value) (o : Nm) (l : List Rc) (n : Nm) (hO : NmArg w vo o) (hL : RowArg w vl l) (hN : NmArg w vn n) :
    Calls Try.prog 3 #[vo, vl, vn] w fun e w' => e = .returned (.bool true) ∧ Below w.heap.size w w' := by
  have hkn := law13_known w
  have HG1 := Lib.hid (fun (W : World) (hb : Below w.heap.size w W) => law12_Good vo vl o l w W hO hL hb)
  have HNO := Lib.hid hO.1
  have HLR := Lib.hid hL.row
  have HLOK := Lib.hid hL.ok
  have HN := Lib.hid hN
  obtain ⟨css, hLA, hLR⟩ := hL
  have hrcs : Rcs w css l := ⟨hLR.1, fun i h1 h2 => (hLR.2 i h1 h2).rcAt⟩
  obtain ⟨al, cl, rfl, -, -, -⟩ := id hLA
  obtain ⟨an, cn, rfl, -⟩ := nmAt_sl.1 hN.1
  obtain ⟨qn, hqn⟩ : ∃ q, (List.map strV n).length = q := ⟨_, rfl⟩
  obtain ⟨m, hm⟩ : ∃ m, css.length = m := ⟨_, rfl⟩
  rw [hm] at hLA HG1 HLR ⊢
  rw [hqn] at HN ⊢
  have HLA := Lib.hid hLA; have HRC := Lib.hid hrcs; have HM := Lib.hid hm
  clear hO hN hLA hLR hrcs hqn hm
  go_enter Try.func3, Try.ntmps3
  go_wp2_with fail
  refine hkn.mono ?_
  rintro e w1 ⟨rfl, hb1⟩
  have HB1 := Lib.hid hb1
  obtain ⟨W2, hW2⟩ : ∃ W2, (w1.alloc (.cells #[.string ⟨#[111, 110, 101, 32, 109, 111, 114, 101]⟩] 9)).alloc (.cells #[.slice an qn cn, .int .u32 5, .int .i64 16, .slice none 0 0, .slice none 0 0, .slice (some ⟨w1.heap.size, 0, none⟩) 1 1, .slice none 0 0] 33) = W2 := ⟨_, rfl⟩
  have hb2 : Below w1.heap.size w1 W2 := by rw [← hW2]; exact ((Below.refl w1.heap.size w1).alloc (Nat.le_refl _) _).alloc (by simp) _
  have ht2 : W2.heap[w1.heap.size]? = some (.cells #[.string ⟨#[111, 110, 101, 32, 109, 111, 114, 101]⟩] 9) := by
    rw [← hW2]; exact (Below.heap_alloc _ _ _ (by simp)).trans (knew w1 _)
  have hx2 : W2.heap[w1.heap.size + 1]? = some (.cells #[.slice an qn cn, .int .u32 5, .int .i64 16, .slice none 0 0, .slice none 0 0, .slice (some ⟨w1.heap.size, 0, none⟩) 1 1, .slice none 0 0] 33) := by
    have h := knew (w1.alloc (.cells #[.string ⟨#[111, 110, 101, 32, 109, 111, 114, 101]⟩] 9)) (.cells #[.slice an qn cn, .int .u32 5, .int .i64 16, .slice none 0 0, .slice none 0 0, .slice (some ⟨w1.heap.size, 0, none⟩) 1 1, .slice none 0 0] 33)
    rw [World.size_alloc] at h
    rw [← hW2]; exact h
  have HB2 := Lib.hid (HB1.out.trans (hb2.mono HB1.out.size))
  have HXA := Lib.hid (more_arg (HN.out.below (HB1.out.trans (hb2.mono HB1.out.size))) ht2)
  have HX2 := Lib.hid hx2
  have hc := HG1.out W2 HB2.out
  have HW2 := Lib.hid hW2
  clear hkn hb1 hb2 ht2 hx2 HG1 hW2
  go_wp2_with fail
  rw [HW2.out]
  clear HW2
  refine hc.mono ?_
  rintro e w3 ⟨rfl, hb3⟩
  have HB3 := Lib.hid (HB2.out.trans (hb3.mono HB2.out.size))
  have HB23 := Lib.hid hb3
  have hx3 := (hb3.block _ (kblock_lt HX2.out)).trans HX2.out
  have HX3 := Lib.hid hx3
  clear hb3 hc
  obtain ⟨g1, hg1⟩ : ∃ g, (goodN o && goodRs l) = g := ⟨_, rfl⟩
  have HGG1 := Lib.hid hg1
  rw [hg1]
  clear hg1
  have x0 := kcell hx3 0 (.slice an qn cn) rfl; have x1 := kcell hx3 1 (.int .u32 5) rfl; have x2 := kcell hx3 2 (.int .i64 16) rfl; have x3 := kcell hx3 3 (.slice none 0 0) rfl; have x4 := kcell hx3 4 (.slice none 0 0) rfl; have x5 := kcell hx3 5 (.slice (some ⟨w1.heap.size, 0, none⟩) 1 1) rfl; have x6 := kcell hx3 6 (.slice none 0 0) rfl
  clear hx3
  cases g1
  · clear x0 x1 x2 x3 x4 x5 x6
    go_wp2
    go_ret
    exact ⟨rfl, HB3.out⟩
  have hg := HGG1.out
  simp only [Bool.and_eq_true] at hg
  have hko : NmOK o := fewN_ok (by have := hg.1; unfold goodN at this; simp only [Bool.and_eq_true] at this; exact this.1)
  have hfr : fewRs l = true := by
    have := hg.2
    unfold goodRs at this; simp only [Bool.and_eq_true] at this; exact this.1
  obtain ⟨hl60, hokl⟩ := HLOK.out hfr
  have HKO := Lib.hid hko; have HOKL := Lib.hid hokl; have HL60 := Lib.hid hl60
  obtain ⟨W4, hW4⟩ : ∃ W4, w3.alloc (.cells #[.slice an qn cn, .int .u32 5, .int .i64 16, .slice none 0 0, .slice none 0 0, .slice (some ⟨w1.heap.size, 0, none⟩) 1 1, .slice none 0 0] 33) = W4 := ⟨_, rfl⟩
  have hb4 : Below w3.heap.size w3 W4 := by rw [← hW4]; exact (Below.refl w3.heap.size w3).alloc (Nat.le_refl _) _
  have hx4 : W4.heap[w3.heap.size]? = some (.cells #[.slice an qn cn, .int .u32 5, .int .i64 16, .slice none 0 0, .slice none 0 0, .slice (some ⟨w1.heap.size, 0, none⟩) 1 1, .slice none 0 0] 33) := by rw [← hW4]; exact knew w3 _
  have hxa4 : RcArg W4 [.slice an qn cn, .int .u32 ((5 : Nat) : Int), .int .i64 16, .slice none 0 0, .slice none 0 0, .slice (some ⟨w1.heap.size, 0, none⟩) 1 1, .slice none 0 0] (moreR n) := RcArg.belowG (RcArg.belowG HXA.out HB23.out) hb4
  have hra : RowArg W4 (.slice (some ⟨w3.heap.size, 0, none⟩) 1 1) [moreR n] := ⟨[[.slice an qn cn, .int .u32 5, .int .i64 16, .slice none 0 0, .slice none 0 0, .slice (some ⟨w1.heap.size, 0, none⟩) 1 1, .slice none 0 0]], slK_blk (css := [[.slice an qn cn, .int .u32 5, .int .i64 16, .slice none 0 0, .slice none 0 0, .slice (some ⟨w1.heap.size, 0, none⟩) 1 1, .slice none 0 0]]) hx4, rfl, fun i h1 h2 => by
    match i, h1 with
    | 0, _ => exact hxa4⟩
  have hc := law5_Good (.slice (some ⟨w3.heap.size, 0, none⟩) 1 1) [moreR n] W4 W4 hra (Below.refl _ _)
  have HXO := Lib.hid (fun (h : goodRs [moreR n] = true) => (show RcOK (moreR n) from hxa4.ok (by
    unfold goodRs fewRs at h
    simp only [Bool.and_eq_true, List.all_cons, List.all_nil, Bool.and_true] at h
    exact h.1.2)))
  have HB4 := Lib.hid (HB3.out.trans (hb4.mono HB3.out.size))
  have HX4 := Lib.hid ((hb4.block _ (kblock_lt HX3.out)).trans HX3.out)
  have HXR := Lib.hid hxa4.rcAt
  have HW4 := Lib.hid hW4
  clear hg hko hfr hl60 hokl hb4 hx4 hxa4 hra hW4 HGG1 HLOK
  go_wp2_with fail
  rw [HW4.out]
  clear HW4 x0 x1 x2 x3 x4 x5 x6
  refine hc.mono ?_
  rintro e w5 ⟨rfl, hb5⟩
  obtain ⟨g2, hg2⟩ : ∃ g, goodRs [moreR n] = g := ⟨_, rfl⟩
  rw [hg2] at HXO ⊢
  have HB5 := Lib.hid (HB4.out.trans (hb5.mono HB4.out.size))
  have HX5 := Lib.hid ((hb5.block _ (kblock_lt HX4.out)).trans HX4.out)
  have HXR5 := Lib.hid (HXR.out.below hb5)
  clear hc hb5 hg2
  cases g2
  · go_wp2
    go_ret
    exact ⟨rfl, HB5.out⟩
  have hxok := HXO.out rfl
  have hc := zone_New vo (.slice al m cl) o l (HNO.out.below HB5.out) HKO.out (HLR.out.below HB5.out) HOKL.out (by have := HL60.out; omega)
  have HXOK := Lib.hid hxok
  clear hxok HXO
  go_wp2_with fail
  refine hc.mono ?_
  rintro e w6 ⟨za, zn, zc, v1, mz, cz, rfl, hZ, hb6⟩
  have HB6 := Lib.hid (HB5.out.trans (hb6.mono HB5.out.size))
  have hc2 := check_Zone hZ (canonM_again l)
  have HX6 := Lib.hid ((hb6.block _ (kblock_lt HX5.out)).trans HX5.out)
  have HXR6 := Lib.hid (HXR5.out.below hb6)
  clear hc hZ hb6
  go_wp2_with fail
  refine hc2.mono ?_
  rintro e w7 ⟨va, cssa, fa, rfl, hs7, hf7, hp7, ho7, hb7⟩
  have HB7 := Lib.hid (HB6.out.trans (hb7.mono HB6.out.size))
  have HX7 := Lib.hid ((hb7.block _ (kblock_lt HX6.out)).trans HX6.out)
  have HXR7 := Lib.hid (HXR6.out.below hb7)
  obtain ⟨aa, ca, rfl⟩ : ∃ a c, va = .slice a fa.length c := by
    obtain ⟨a, c, e, _⟩ := id hs7
    exact ⟨a, c, by rw [e, hf7.1]⟩
  have HS7 := Lib.hid hs7; have HF7 := Lib.hid hf7; have HP7 := Lib.hid hp7
  clear hc2 hs7 hf7 hp7 ho7 hb7
  go_upto_region 7 with (fail)
  go_cut [9] (fun v wx => Hid (GrB w7 o (insR (canonM l) (moreR n)) v wx))
  case first =>
    have hKB : ∀ W, Below w7.heap.size w7 W → W.cell? ⟨w1.heap.size + 1, 0, none⟩ = some (.slice an qn cn) ∧ W.cell? ⟨w1.heap.size + 1, 1, none⟩ = some (.int .u32 5) ∧ W.cell? ⟨w1.heap.size + 1, 2, none⟩ = some (.int .i64 16) ∧ W.cell? ⟨w1.heap.size + 1, 3, none⟩ = some (.slice none 0 0) ∧ W.cell? ⟨w1.heap.size + 1, 4, none⟩ = some (.slice none 0 0) ∧ W.cell? ⟨w1.heap.size + 1, 5, none⟩ = some (.slice (some ⟨w1.heap.size, 0, none⟩) 1 1) ∧ W.cell? ⟨w1.heap.size + 1, 6, none⟩ = some (.slice none 0 0) ∧ Below w7.heap.size w7 W := fun W hb => by
      have h := (hb.block _ (kblock_lt HX7.out)).trans HX7.out
      exact ⟨kcell h 0 _ rfl, kcell h 1 _ rfl, kcell h 2 _ rfl, kcell h 3 _ rfl, kcell h 4 _ rfl, kcell h 5 _ rfl, kcell h 6 _ rfl, hb⟩
    have KB := Lib.hid hKB
    have KA := Lib.hid (fun (W : World) (ob : Obj) (h : W.cell? ⟨w1.heap.size + 1, 0, none⟩ = some (.slice an qn cn) ∧ W.cell? ⟨w1.heap.size + 1, 1, none⟩ = some (.int .u32 5) ∧ W.cell? ⟨w1.heap.size + 1, 2, none⟩ = some (.int .i64 16) ∧ W.cell? ⟨w1.heap.size + 1, 3, none⟩ = some (.slice none 0 0) ∧ W.cell? ⟨w1.heap.size + 1, 4, none⟩ = some (.slice none 0 0) ∧ W.cell? ⟨w1.heap.size + 1, 5, none⟩ = some (.slice (some ⟨w1.heap.size, 0, none⟩) 1 1) ∧ W.cell? ⟨w1.heap.size + 1, 6, none⟩ = some (.slice none 0 0) ∧ Below w7.heap.size w7 W) => KB.out _ (h.2.2.2.2.2.2.2.alloc h.2.2.2.2.2.2.2.size ob))
    have KR := Lib.hid (fun (W : World) (h : W.cell? ⟨w1.heap.size + 1, 0, none⟩ = some (.slice an qn cn) ∧ W.cell? ⟨w1.heap.size + 1, 1, none⟩ = some (.int .u32 5) ∧ W.cell? ⟨w1.heap.size + 1, 2, none⟩ = some (.int .i64 16) ∧ W.cell? ⟨w1.heap.size + 1, 3, none⟩ = some (.slice none 0 0) ∧ W.cell? ⟨w1.heap.size + 1, 4, none⟩ = some (.slice none 0 0) ∧ W.cell? ⟨w1.heap.size + 1, 5, none⟩ = some (.slice (some ⟨w1.heap.size, 0, none⟩) 1 1) ∧ W.cell? ⟨w1.heap.size + 1, 6, none⟩ = some (.slice none 0 0) ∧ Below w7.heap.size w7 W) => KB.out W.drew (kdrew h.2.2.2.2.2.2.2))
    have hS0 := hKB w7 (Below.refl _ _)
    have hck : ∀ cs ∈ css, cs.length = 7 := HRC.out.ck
    have hc1 : ∀ cs ∈ css, ∀ u ∈ cs, u.oneCell' = true := fun cs hc => by
      obtain ⟨i, hi, rfl⟩ := List.mem_iff_getElem.1 hc
      exact (HRC.out.2 i hi (by have := HRC.out.1; omega)).one
    have hcx : ∀ cs ∈ ([[.slice an qn cn, .int .u32 5, .int .i64 16, .slice none 0 0, .slice none 0 0, .slice (some ⟨w1.heap.size, 0, none⟩) 1 1, .slice none 0 0]] : List (List Value)), cs.length = 7 := fun cs hc => by rw [List.mem_singleton] at hc; subst hc; rfl
    have hcx1 : ∀ cs ∈ ([[.slice an qn cn, .int .u32 5, .int .i64 16, .slice none 0 0, .slice none 0 0, .slice (some ⟨w1.heap.size, 0, none⟩) 1 1, .slice none 0 0]] : List (List Value)), ∀ u ∈ cs, u.oneCell' = true := fun cs hc u hu => by
      rw [List.mem_singleton] at hc; subst hc
      simp only [List.mem_cons, List.not_mem_nil, or_false] at hu
      rcases hu with rfl | rfl | rfl | rfl | rfl | rfl | rfl <;> rfl
    have HCK := Lib.hid hck; have HC1 := Lib.hid hc1; have HCX := Lib.hid hcx; have HCX1 := Lib.hid hcx1
    have hm60 : css.length ≤ 60 := by rw [HRC.out.1]; exact HL60.out
    have HM60 := Lib.hid hm60
    have hbB0 : Below w7.heap.size w7 w7 := Below.refl _ _
    have hsz : ∀ ob : Obj, (w7.alloc ob).heap.size = w7.heap.size + 1 := fun ob => World.size_alloc _ _
    have HOa := Lib.hid (show OwnC 7 33 ((w7.alloc (.cells #[] 33)).drew) w7.heap.size (.slice (some ⟨w7.heap.size, 0, none⟩) 0 0) [] from ownC_lit 7 33 w7.drew)
    have HXa := Lib.hid (show Below w7.heap.size w7 ((w7.alloc (.cells #[] 33)).drew) from kdrew (hbB0.alloc (Nat.le_refl _) _))
    have HOb := Lib.hid (show OwnC 7 33 (((w7.alloc (.cells #[] 33)).alloc (.cells #[.slice an qn cn, .int .u32 5, .int .i64 16, .slice none 0 0, .slice none 0 0, .slice (some ⟨w1.heap.size, 0, none⟩) 1 1, .slice none 0 0] 33)).drew) w7.heap.size (.slice (some ⟨w7.heap.size, 0, none⟩) 0 0) [] from OwnK.below (ownC_lit 7 33 w7.drew) ((Below.refl _ _).alloc (Nat.le_refl _) _))
    have HXb := Lib.hid (show Below w7.heap.size w7 (((w7.alloc (.cells #[] 33)).alloc (.cells #[.slice an qn cn, .int .u32 5, .int .i64 16, .slice none 0 0, .slice none 0 0, .slice (some ⟨w1.heap.size, 0, none⟩) 1 1, .slice none 0 0] 33)).drew) from kdrew ((hbB0.alloc (Nat.le_refl _) _).alloc (by rw [hsz]; omega) _))
    have HOc := Lib.hid (show OwnC 7 33 (((w7.alloc (.cells #[.slice an qn cn, .int .u32 5, .int .i64 16, .slice none 0 0, .slice none 0 0, .slice (some ⟨w1.heap.size, 0, none⟩) 1 1, .slice none 0 0] 33)).alloc (.cells #[] 33)).drew) w7.heap.size (.slice (some ⟨w7.heap.size + 1, 0, none⟩) 0 0) [] from by
      have h := ownC_lit 7 33 (w7.alloc (.cells #[.slice an qn cn, .int .u32 5, .int .i64 16, .slice none 0 0, .slice none 0 0, .slice (some ⟨w1.heap.size, 0, none⟩) 1 1, .slice none 0 0] 33)).drew
      have e : (w7.alloc (.cells #[.slice an qn cn, .int .u32 5, .int .i64 16, .slice none 0 0, .slice none 0 0, .slice (some ⟨w1.heap.size, 0, none⟩) 1 1, .slice none 0 0] 33)).drew.heap.size = w7.heap.size + 1 := hsz _
      rw [e] at h
      exact OwnK.weaken h (Nat.le_succ _))
    have HXc := Lib.hid (show Below w7.heap.size w7 (((w7.alloc (.cells #[.slice an qn cn, .int .u32 5, .int .i64 16, .slice none 0 0, .slice none 0 0, .slice (some ⟨w1.heap.size, 0, none⟩) 1 1, .slice none 0 0] 33)).alloc (.cells #[] 33)).drew) from kdrew ((hbB0.alloc (Nat.le_refl _) _).alloc (by rw [hsz]; omega) _))
    have HGb := Lib.hid (show (((w7.alloc (.cells #[] 33)).alloc (.cells #[.slice an qn cn, .int .u32 5, .int .i64 16, .slice none 0 0, .slice none 0 0, .slice (some ⟨w1.heap.size, 0, none⟩) 1 1, .slice none 0 0] 33)).drew).heap[w7.heap.size + 1]? = some (.cells #[.slice an qn cn, .int .u32 5, .int .i64 16, .slice none 0 0, .slice none 0 0, .slice (some ⟨w1.heap.size, 0, none⟩) 1 1, .slice none 0 0] 33) from by
      have h := knew (w7.alloc (.cells #[] 33)) (.cells #[.slice an qn cn, .int .u32 5, .int .i64 16, .slice none 0 0, .slice none 0 0, .slice (some ⟨w1.heap.size, 0, none⟩) 1 1, .slice none 0 0] 33)
      rw [hsz] at h
      exact h)
    have HGc := Lib.hid (show (((w7.alloc (.cells #[.slice an qn cn, .int .u32 5, .int .i64 16, .slice none 0 0, .slice none 0 0, .slice (some ⟨w1.heap.size, 0, none⟩) 1 1, .slice none 0 0] 33)).alloc (.cells #[] 33)).drew).heap[w7.heap.size]? = some (.cells #[.slice an qn cn, .int .u32 5, .int .i64 16, .slice none 0 0, .slice none 0 0, .slice (some ⟨w1.heap.size, 0, none⟩) 1 1, .slice none 0 0] 33) from (((Below.refl _ (w7.alloc (.cells #[.slice an qn cn, .int .u32 5, .int .i64 16, .slice none 0 0, .slice none 0 0, .slice (some ⟨w1.heap.size, 0, none⟩) 1 1, .slice none 0 0] 33))).alloc (Nat.le_refl _) (.cells #[] 33)).block w7.heap.size (by rw [hsz]; omega)).trans (knew w7 _))
    have HPa := Lib.hid (fun (ops : Array Oper) (oo : Oper) (a : Act) (K : Act → World → Prop) (Q : Exit → Act → World → Prop) (E : Prop) (h1 : oo.guard = none) (h2 : oo.op = .call { callee := .builtin .append, args := #[.tmp 34, .tmp 35], argTypes := #[24, 24] }) (h3 : a.eval (.tmp 34) = .slice (some ⟨w7.heap.size, 0, none⟩) 0 0) (h4 : a.eval (.tmp 35) = .slice al m cl) h => step_append_slk (ops := ops) (a := a) (K := K) (Q := Q) (E := E) ((w7.alloc (.cells #[] 33)).drew) h1 (.tmp 34) (.tmp 35) elem_rec (by decide) h2 w7.heap.size _ [] h3 HOa.out _ css h4 (HLA.out.below (HB7.out.trans (HXa.out.mono HB7.out.size))) HCK.out HC1.out HXa.out.size (by have := HM60.out; unfold maxLen; simp only [List.length_nil]; omega) (by have := HM60.out; simp only [List.length_nil]; omega) h)
    have HPb := Lib.hid (fun (ops : Array Oper) (oo : Oper) (a : Act) (K : Act → World → Prop) (Q : Exit → Act → World → Prop) (E : Prop) (h1 : oo.guard = none) (h2 : oo.op = .call { callee := .builtin .append, args := #[.tmp 34, .tmp 35], argTypes := #[24, 24] }) (h3 : a.eval (.tmp 34) = .slice (some ⟨w7.heap.size, 0, none⟩) 0 0) (h4 : a.eval (.tmp 35) = .slice al m cl) h => step_append_slk (ops := ops) (a := a) (K := K) (Q := Q) (E := E) (((w7.alloc (.cells #[] 33)).alloc (.cells #[.slice an qn cn, .int .u32 5, .int .i64 16, .slice none 0 0, .slice none 0 0, .slice (some ⟨w1.heap.size, 0, none⟩) 1 1, .slice none 0 0] 33)).drew) h1 (.tmp 34) (.tmp 35) elem_rec (by decide) h2 w7.heap.size _ [] h3 HOb.out _ css h4 (HLA.out.below (HB7.out.trans (HXb.out.mono HB7.out.size))) HCK.out HC1.out HXb.out.size (by have := HM60.out; unfold maxLen; simp only [List.length_nil]; omega) (by have := HM60.out; simp only [List.length_nil]; omega) h)
    have HPc := Lib.hid (fun (ops : Array Oper) (oo : Oper) (a : Act) (K : Act → World → Prop) (Q : Exit → Act → World → Prop) (E : Prop) (h1 : oo.guard = none) (h2 : oo.op = .call { callee := .builtin .append, args := #[.tmp 34, .tmp 35], argTypes := #[24, 24] }) (h3 : a.eval (.tmp 34) = .slice (some ⟨w7.heap.size + 1, 0, none⟩) 0 0) (h4 : a.eval (.tmp 35) = .slice al m cl) h => step_append_slk (ops := ops) (a := a) (K := K) (Q := Q) (E := E) (((w7.alloc (.cells #[.slice an qn cn, .int .u32 5, .int .i64 16, .slice none 0 0, .slice none 0 0, .slice (some ⟨w1.heap.size, 0, none⟩) 1 1, .slice none 0 0] 33)).alloc (.cells #[] 33)).drew) h1 (.tmp 34) (.tmp 35) elem_rec (by decide) h2 w7.heap.size _ [] h3 HOc.out _ css h4 (HLA.out.below (HB7.out.trans (HXc.out.mono HB7.out.size))) HCK.out HC1.out HXc.out.size (by have := HM60.out; unfold maxLen; simp only [List.length_nil]; omega) (by have := HM60.out; simp only [List.length_nil]; omega) h)
    have HQ := Lib.hid (fun (X : World) (g : Nat) (v4 : Value) (hX : Below w7.heap.size w7 X) (hown : OwnC 7 33 X w7.heap.size v4 css) (hg : X.heap[g]? = some (.cells #[.slice an qn cn, .int .u32 5, .int .i64 16, .slice none 0 0, .slice none 0 0, .slice (some ⟨w1.heap.size, 0, none⟩) 1 1, .slice none 0 0] 33)) (ops : Array Oper) (oo : Oper) (a : Act) (K : Act → World → Prop) (Q : Exit → Act → World → Prop) (E : Prop) (h1 : oo.guard = none) (h2 : oo.op = .call { callee := .builtin .append, args := #[.tmp 36, .tmp 38], argTypes := #[24, 24] }) (h3 : a.eval (.tmp 36) = v4) (h4 : a.eval (.tmp 38) = .slice (some ⟨g, 0, none⟩) 1 1) h => step_append_slk (ops := ops) (a := a) (K := K) (Q := Q) (E := E) X h1 (.tmp 36) (.tmp 38) elem_rec (by decide) h2 w7.heap.size _ css h3 hown _ [[.slice an qn cn, .int .u32 5, .int .i64 16, .slice none 0 0, .slice none 0 0, .slice (some ⟨w1.heap.size, 0, none⟩) 1 1, .slice none 0 0]] h4 (slK_blk (css := [[.slice an qn cn, .int .u32 5, .int .i64 16, .slice none 0 0, .slice none 0 0, .slice (some ⟨w1.heap.size, 0, none⟩) 1 1, .slice none 0 0]]) hg) HCX.out HCX1.out hX.size (by have := HM60.out; unfold maxLen; simp only [List.length_cons, List.length_nil]; omega) (by have := HM60.out; simp only [List.length_cons, List.length_nil]; omega) h)
    have HNC := Lib.hid (fun (X : World) (v5 : Value) (hX : Below w7.heap.size w7 X) (hown : OwnC 7 33 X w7.heap.size v5 (css ++ [[.slice an qn cn, .int .u32 5, .int .i64 16, .slice none 0 0, .slice none 0 0, .slice (some ⟨w1.heap.size, 0, none⟩) 1 1, .slice none 0 0]])) => zone_New vo v5 o (l ++ [moreR n]) (HNO.out.below (HB7.out.trans (hX.mono HB7.out.size))) HKO.out (by
      have hr : Rcs X (css ++ [[.slice an qn cn, .int .u32 5, .int .i64 16, .slice none 0 0, .slice none 0 0, .slice (some ⟨w1.heap.size, 0, none⟩) 1 1, .slice none 0 0]]) (l ++ [moreR n]) := Rcs.snoc (HRC.out.below (HB7.out.trans (hX.mono HB7.out.size))) (HXR7.out.below hX)
      exact ⟨_, SlK.of_own hown hr.ck, hr⟩) (fun r hr => by
      rcases List.mem_append.1 hr with h | h
      · exact HOKL.out r h
      · rw [List.mem_singleton] at h; subst h; exact HXOK.out) (by rw [List.length_append]; have := HL60.out; simp; omega))
    clear hKB hck hc1 hcx hcx1 hm60 hbB0 hsz
    go_region_held3 (fun W => W.cell? ⟨w1.heap.size + 1, 0, none⟩ = some (.slice an qn cn) ∧ W.cell? ⟨w1.heap.size + 1, 1, none⟩ = some (.int .u32 5) ∧ W.cell? ⟨w1.heap.size + 1, 2, none⟩ = some (.int .i64 16) ∧ W.cell? ⟨w1.heap.size + 1, 3, none⟩ = some (.slice none 0 0) ∧ W.cell? ⟨w1.heap.size + 1, 4, none⟩ = some (.slice none 0 0) ∧ W.cell? ⟨w1.heap.size + 1, 5, none⟩ = some (.slice (some ⟨w1.heap.size, 0, none⟩) 1 1) ∧ W.cell? ⟨w1.heap.size + 1, 6, none⟩ = some (.slice none 0 0) ∧ Below w7.heap.size w7 W)
      (first | with_reducible assumption | (with_reducible exact KA.out _ _ (by with_reducible assumption)) | (with_reducible exact KR.out _ (by with_reducible assumption)) | (with_reducible exact KA.out _ _ (KR.out _ (by with_reducible assumption))) | (with_reducible exact KR.out _ (KA.out _ _ (by with_reducible assumption))) | (with_reducible exact KR.out _ (KA.out _ _ (KA.out _ _ (by with_reducible assumption)))))
      (first
        | ((with_reducible refine HPa.out _ _ _ _ _ _ ?_ ?_ ?_ ?_ ?_); exact rfl; exact rfl; exact rfl; exact rfl; intro v4 w4 ho4 hg4; rw [List.nil_append] at ho4; have hB4 := HXa.out.grown hg4 HXa.out.size (OwnK.base_le HOa.out); have hS4 := KB.out _ hB4; have HO4 := Lib.hid ho4; have HB4 := Lib.hid hB4; clear ho4 hg4 hB4)
        | ((with_reducible refine HPb.out _ _ _ _ _ _ ?_ ?_ ?_ ?_ ?_); exact rfl; exact rfl; exact rfl; exact rfl; intro v4 w4 ho4 hg4; rw [List.nil_append] at ho4; have hB4 := HXb.out.grown hg4 HXb.out.size (OwnK.base_le HOb.out); have hS4 := KB.out _ hB4; have HO4 := Lib.hid ho4; have HB4 := Lib.hid hB4; have HG4 := Lib.hid ((hg4.block (w7.heap.size + 1) (kblock_lt HGb.out) (fun e => by simp only [Value.ownBlock] at e; injection e with e; omega)).trans HGb.out); clear ho4 hg4 hB4)
        | ((with_reducible refine HPc.out _ _ _ _ _ _ ?_ ?_ ?_ ?_ ?_); exact rfl; exact rfl; exact rfl; exact rfl; intro v4 w4 ho4 hg4; rw [List.nil_append] at ho4; have hB4 := HXc.out.grown hg4 HXc.out.size (OwnK.base_le HOc.out); have hS4 := KB.out _ hB4; have HO4 := Lib.hid ho4; have HB4 := Lib.hid hB4; have HG4 := Lib.hid ((hg4.block (w7.heap.size) (kblock_lt HGc.out) (fun e => by simp only [Value.ownBlock] at e; injection e with e; omega)).trans HGc.out); clear ho4 hg4 hB4)
        | ((with_reducible refine HQ.out w4 (w7.heap.size + 1) v4 HB4.out HO4.out HG4.out _ _ _ _ _ _ ?_ ?_ ?_ ?_ ?_); exact rfl; exact rfl; exact rfl; exact rfl; intro v5 w5 ho5 hg5; have hB5 := (HB4.out).grown hg5 (HB4.out).size (OwnK.base_le (HO4.out)); have hS5 := KB.out _ hB5; have HO5 := Lib.hid ho5; have HB5' := Lib.hid hB5; clear ho5 hg5 hB5)
        | ((with_reducible refine HQ.out w4 w7.heap.size v4 HB4.out HO4.out HG4.out _ _ _ _ _ _ ?_ ?_ ?_ ?_ ?_); exact rfl; exact rfl; exact rfl; exact rfl; intro v5 w5 ho5 hg5; have hB5 := (HB4.out).grown hg5 (HB4.out).size (OwnK.base_le (HO4.out)); have hS5 := KB.out _ hB5; have HO5 := Lib.hid ho5; have HB5' := Lib.hid hB5; clear ho5 hg5 hB5)
        | ((with_reducible refine HQ.out (w4.alloc (.cells #[.slice an qn cn, .int .u32 5, .int .i64 16, .slice none 0 0, .slice none 0 0, .slice (some ⟨w1.heap.size, 0, none⟩) 1 1, .slice none 0 0] 33)) w4.heap.size v4 (HB4.out.alloc HB4.out.size _) (OwnK.below HO4.out ((Below.refl _ w4).alloc (Nat.le_refl _) _)) (knew w4 _) _ _ _ _ _ _ ?_ ?_ ?_ ?_ ?_); exact rfl; exact rfl; exact rfl; exact rfl; intro v5 w5 ho5 hg5; have hB5 := ((HB4.out.alloc HB4.out.size (.cells #[.slice an qn cn, .int .u32 5, .int .i64 16, .slice none 0 0, .slice none 0 0, .slice (some ⟨w1.heap.size, 0, none⟩) 1 1, .slice none 0 0] 33))).grown hg5 ((HB4.out.alloc HB4.out.size (.cells #[.slice an qn cn, .int .u32 5, .int .i64 16, .slice none 0 0, .slice none 0 0, .slice (some ⟨w1.heap.size, 0, none⟩) 1 1, .slice none 0 0] 33))).size (OwnK.base_le ((OwnK.below HO4.out ((Below.refl _ w4).alloc (Nat.le_refl _) (.cells #[.slice an qn cn, .int .u32 5, .int .i64 16, .slice none 0 0, .slice none 0 0, .slice (some ⟨w1.heap.size, 0, none⟩) 1 1, .slice none 0 0] 33))))); have hS5 := KB.out _ hB5; have HO5 := Lib.hid ho5; have HB5' := Lib.hid hB5; clear ho5 hg5 hB5)
        | ((with_reducible refine (HNC.out w5 v5 HB5'.out HO5.out).mono ?_); rintro e w10 ⟨ya, yn, yc, y1, my, cy, rfl, hzy, hb10⟩; have hB10 := HB5'.out.trans (hb10.mono HB5'.out.size); have hS10 := KB.out _ hB10; have HB10 := Lib.hid hB10; have HCZ := Lib.hid (check_Zone hzy (canonM_again (l ++ [moreR n]))); clear hzy hb10 hB10)
        | ((with_reducible refine (HCZ.out).mono ?_); rintro e w11 ⟨vb, cssb, fb, rfl, hs11, hf11, hp11, ho11, hb11⟩; have hB11 := HB10.out.trans (hb11.mono HB10.out.size); have hS11 := KB.out _ hB11; have HF11 := Lib.hid (And.intro hs11 (And.intro hf11 (And.intro hp11 hB11))); clear hs11 hf11 hp11 ho11 hb11 hB11))
    all_goals
      go_wp2_with fail
      go_meet
      obtain ⟨q1, q2, q3, q4⟩ := HF11.out
      obtain ⟨a9, c9, e9, _⟩ := id q1
      have e9' : vb = .slice a9 fb.length c9 := by rw [e9, q2.1]
      rw [canonM_snoc] at q3
      exact Lib.hid ⟨fb, cssb, a9, c9, e9', by rw [← e9']; exact q1, q2, q3, q4⟩
  case rest =>
  rename World => w8
  obtain ⟨fb, cssb, ab, cb, rfl, hsb, hfb, hpb, hbb⟩ := hcut.out
  have hstr := (canonM_can l).up
  have hup : ∀ f ∈ fa, ∃ g ∈ fb, compareF f g = 0 := fun f hf => by
    obtain ⟨g, hg, e⟩ := grow_up hstr (x := moreR n) rfl o f (HP7.out.subset hf)
    exact ⟨g, hpb.symm.subset hg, e⟩
  have hokf : ∀ C : List Rc, (∀ r ∈ C, RcOK r) → StrictR C → ∀ f ∈ allF o C, NmOK f.owner := fun C hC hS f h => by
    unfold allF flawsM at h
    rcases List.mem_append.1 h with h | h
    · rw [(at0_apart o C).2.2.2 f h]; exact HKO.out
    · obtain ⟨s, hs, h⟩ := List.mem_flatMap.1 h
      obtain ⟨k, _, rfl⟩ := List.mem_map.1 h
      exact (sets_ok hC (by rw [canonM_strict C hS]; exact hs)).1
  have hoka : ∀ f ∈ fa, NmOK f.owner := fun f hf => hokf _ (canonM_ok' l HOKL.out) hstr f (HP7.out.subset hf)
  have hokb : ∀ f ∈ fb, NmOK f.owner := fun f hf => hokf _ (insR_ok' HXOK.out _ (canonM_ok' l HOKL.out)) (insR_strict _ _ hstr) f (hpb.subset hf)
  have hla : fa.length ≤ 400 := by
    rw [HP7.out.length_eq]
    have h1 := allF_len o (canonM l); have h2 := canonM_length l; have h3 := HL60.out
    omega
  have hlb : fb.length ≤ fa.length + 2 := by
    rw [HP7.out.length_eq, hpb.length_eq]
    exact grow_len hstr rfl o
  have hs8 := HS7.out.below hbb
  have hf8 := HF7.out.below hbb
  have hel : ∀ (fs : List Fl) (css : List (List Value)) (a : Option Addr) (c : Nat), SlK w8 (.slice a fs.length c) css → Fls' w8 css fs → ∀ k (hk : k < fs.length), ∃ b off, a = some ⟨b, off, none⟩ ∧ ∀ j (hj : j < fs.length), ∃ x : Option Addr × Nat × Nat, NmAt w8 (slV x) fs[j].owner ∧ ∀ W', Below w8.heap.size w8 W' → W'.cell? ⟨b, off + j * 3, none⟩ = some (.int .i64 fs[j].kind) ∧ W'.cell? ⟨b, off + j * 3 + 1, none⟩ = some (slV x) ∧ W'.cell? ⟨b, off + j * 3 + 2, none⟩ = some (.int .i64 fs[j].ty) := fun fs css a c h1 h2 k hk => by
    obtain ⟨b, off, e, _, _, h⟩ := fls_elem h1 h2 (by omega)
    exact ⟨b, off, e, h⟩
  have HEA := Lib.hid (hel fa cssa aa ca hs8 hf8)
  have HEB := Lib.hid (hel fb cssb ab cb hsb hfb)
  have HUP := Lib.hid hup; have HOA := Lib.hid hoka; have HOB := Lib.hid hokb
  have HB8 := Lib.hid (HB7.out.trans (hbb.mono HB7.out.size))
  obtain ⟨qa, hqa⟩ : ∃ q, fa.length = q := ⟨_, rfl⟩
  obtain ⟨qb, hqb⟩ : ∃ q, fb.length = q := ⟨_, rfl⟩
  rw [hqa] at hla hlb ⊢
  rw [hqb] at hlb ⊢
  have HQA := Lib.hid hqa; have HQB := Lib.hid hqb
  clear hcut hsb hfb hpb hbb hstr hup hokf hoka hokb hs8 hf8 hel hqa hqb HS7 HF7 HP7 HB7 HX7 HXR7 HX6 HXR6 HX5 HXR5 HX4 HXR HX3 HX2
  go_wp2
  go_loopw [10] (fun vi wr => ∃ k : Nat, vi = .int .i64 k ∧ k ≤ qa ∧ Hid (Below w8.heap.size w8 wr)) (fun vi _ => qa - (intOf vi).toNat)
  case atStart => exact ⟨0, rfl, Nat.zero_le _, Lib.hid (Below.refl _ _)⟩
  case round =>
    obtain ⟨k, rfl, hk, HB⟩ := hrel
    by_cases hlt : k < qa
    · have hltz : (k : Int) < (qa : Int) := by omega
      have hk2 : k < fa.length := by have := HQA.out; omega
      obtain ⟨ba, offa, rfl, hcs⟩ := HEA.out k hk2
      obtain ⟨⟨y0, y1, y2⟩, hny, hcy⟩ := hcs k hk2
      have hoy := HOA.out _ (List.getElem_mem hk2)
      obtain ⟨ff, hff⟩ : ∃ f, fa[k] = f := ⟨_, rfl⟩
      have hupk := HUP.out fa[k] (List.getElem_mem hk2)
      simp only [hff] at hny hcy hoy hupk
      have HNY := Lib.hid hny; have HCY := Lib.hid hcy; have HOY := Lib.hid hoy; have HUK := Lib.hid hupk
      clear hcs hny hcy hoy hupk hff hk2
      obtain ⟨w9, hw9⟩ : ∃ w9 : World, w9 = wr := ⟨_, rfl⟩
      have HB9 : Hid (Below w8.heap.size w8 w9) := Lib.hid (by rw [hw9]; exact HB.out)
      subst hw9
      go_wp2
      go_loopw [11, 12] (fun von vj wr => ∃ j : Nat, vj = .int .i64 j ∧ von = .bool ((fb.take j).any fun g => decide (compareF ff g = 0)) ∧ j ≤ qb ∧ Hid (Below w8.heap.size w8 wr)) (fun _ vj _ => qb - (intOf vj).toNat)
      case atStart => exact ⟨0, rfl, by simp, Nat.zero_le _, HB9⟩
      case round =>
        obtain ⟨j, rfl, rfl, hj, HBJ⟩ := hrel
        by_cases hjt : j < qb
        · have hjz : (j : Int) < (qb : Int) := by omega
          have hj2 : j < fb.length := by have := HQB.out; omega
          obtain ⟨bb, offb, rfl, hcs⟩ := HEB.out j hj2
          obtain ⟨⟨x0, x1, x2⟩, hnx, hcx⟩ := hcs j hj2
          have hox := HOB.out _ (List.getElem_mem hj2)
          have hob := any_take1 (p := fun g => decide (compareF ff g = 0)) hj2
          obtain ⟨gg, hgg⟩ : ∃ g, fb[j] = g := ⟨_, rfl⟩
          simp only [hgg] at hnx hcx hox hob
          have hne : Nonempty (WIn (fun W => Below wr.heap.size wr W)) := ⟨⟨wr, Below.refl _ _⟩⟩
          have hcl : Below wr.heap.size wr wr.drew := ⟨rfl, rfl, rfl, Nat.le_refl _, fun _ _ => rfl⟩
          have hC := fun p : WIn (fun W => Below wr.heap.size wr W) => HCY.out p.w (HBJ.out.trans (p.ok.mono HBJ.out.size))
          have hD := fun p : WIn (fun W => Below wr.heap.size wr W) => hcx p.w (HBJ.out.trans (p.ok.mono HBJ.out.size))
          have hqc : ∀ p : WIn (fun W => Below wr.heap.size wr W), Calls Try.prog 10 #[.agg #[.int .i64 ff.kind, .slice y0 y1 y2, .int .i64 ff.ty], .agg #[.int .i64 gg.kind, .slice x0 x1 x2, .int .i64 gg.ty]] p.w fun e w' => e = .returned (.int .i64 (compareF ff gg)) ∧ ∃ q : WIn (fun W => Below wr.heap.size wr W), w' = q.w := fun p =>
            Calls.cls (C := fun W => Below wr.heap.size wr W) ((check_Compare [.int .i64 ff.kind, .slice y0 y1 y2, .int .i64 ff.ty] [.int .i64 gg.kind, .slice x0 x1 x2, .int .i64 gg.ty] ff gg p.w ⟨_, rfl, HNY.out.below (HBJ.out.trans (p.ok.mono HBJ.out.size))⟩ ⟨_, rfl, hnx.below (HBJ.out.trans (p.ok.mono HBJ.out.size))⟩ HOY.out hox).mono fun _ _ ⟨hq, hb⟩ => ⟨hq, p.ok.trans (hb.mono p.ok.size)⟩)
          have g0 := fun p => (hC p).1; have g1 := fun p => (hC p).2.1; have g2 := fun p => (hC p).2.2
          have i0 := fun p => (hD p).1; have i1 := fun p => (hD p).2.1; have i2 := fun p => (hD p).2.2
          simp only [slV] at g1 i1
          have HOBB := Lib.hid hob
          generalize ((fb.take j).any fun g => decide (compareF ff g = 0)) = ob at *
          obtain ⟨cf, hcf⟩ : ∃ c, compareF ff gg = c := ⟨_, rfl⟩
          rw [hcf] at HOBB hqc
          generalize gg.kind = kg at *
          generalize gg.ty = tg at *
          generalize ff.kind = kf at *
          generalize ff.ty = tf at *
          clear hC hD hcs hcx hnx hox hgg hob hcf hj2
          cases ob with
          | true =>
            have HO2 : Hid ((fb.take (j + 1)).any (fun g => decide (compareF ff g = 0)) = true) := Lib.hid (by rw [HOBB.out]; rfl)
            go_wp2_with fail
            refine wp_region_cls (fun W => Below wr.heap.size wr W) follows_mixed (by kernel_rfl) hcl ?_
            repeat (go_big_quiet_step (first | with_reducible exact hqc _))
            refine wpQuiet_nil ?_
            rintro W9 ⟨p9, hp9⟩
            have hok := p9.ok
            rw [← hp9] at hok
            have HF := Lib.hid (HBJ.out.trans (hok.mono HBJ.out.size))
            clear hp9 p9 hok g0 g1 g2 i0 i1 i2 hqc hne hcl
            go_wp2
            go_roundw
            case measure => simp [intOf]; omega
            case rel => exact ⟨j + 1, by go_num, by rw [HO2.out], by omega, HF⟩
          | false =>
            by_cases hz : cf = 0
            · subst hz
              have HO2 : Hid ((fb.take (j + 1)).any (fun g => decide (compareF ff g = 0)) = true) := Lib.hid (by rw [HOBB.out]; rfl)
              go_wp2_with fail
              refine wp_region_cls (fun W => Below wr.heap.size wr W) follows_mixed (by kernel_rfl) hcl ?_
              repeat (go_big_quiet_step (first | with_reducible exact hqc _))
              refine wpQuiet_nil ?_
              rintro W9 ⟨p9, hp9⟩
              have hok := p9.ok
              rw [← hp9] at hok
              have HF := Lib.hid (HBJ.out.trans (hok.mono HBJ.out.size))
              clear hp9 p9 hok g0 g1 g2 i0 i1 i2 hqc hne hcl
              go_wp2
              go_roundw
              case measure => simp [intOf]; omega
              case rel => exact ⟨j + 1, by go_num, by rw [HO2.out], by omega, HF⟩
            · have hzb : (cf == 0) = false := by simpa using hz
              have HO2 : Hid ((fb.take (j + 1)).any (fun g => decide (compareF ff g = 0)) = false) := Lib.hid (by rw [HOBB.out]; simp [hz])
              go_wp2_with fail
              refine wp_region_cls (fun W => Below wr.heap.size wr W) follows_mixed (by kernel_rfl) hcl ?_
              repeat (go_big_quiet_step (first | with_reducible exact hqc _))
              refine wpQuiet_nil ?_
              rintro W9 ⟨p9, hp9⟩
              have hok := p9.ok
              rw [← hp9] at hok
              have HF := Lib.hid (HBJ.out.trans (hok.mono HBJ.out.size))
              clear hp9 p9 hok g0 g1 g2 i0 i1 i2 hqc hne hcl
              go_wp2
              go_roundw
              case measure => simp [intOf]; omega
              case rel => exact ⟨j + 1, by go_num, by rw [HO2.out], by omega, HF⟩
        · obtain rfl : j = qb := by omega
          have hone : ((fb.take j).any fun g => decide (compareF ff g = 0)) = true := by
            rw [List.take_of_length_le (by have := HQB.out; omega), List.any_eq_true]
            obtain ⟨g, hg, e⟩ := HUK.out
            exact ⟨g, hg, by simpa using e⟩
          rw [hone]
          clear hone
          go_wp2
          go_roundw
          case measure => simp [intOf]; omega
          case rel => exact ⟨k + 1, by go_num, by omega, HBJ⟩
    · obtain rfl : k = qa := by omega
      have hle : (qb : Int) ≤ (k : Int) + 3 := by omega
      have hled : decide ((qb : Int) ≤ (k : Int) + 3) = true := decide_eq_true hle
      go_wp2
      go_ret
      first
      | exact ⟨rfl, HB8.out.trans (HB.out.mono HB8.out.size)⟩
      | (refine ⟨?_, HB8.out.trans (HB.out.mono HB8.out.size)⟩
         simp [hle])
end Go.Proofs.Ytckammgnmgkieaa
