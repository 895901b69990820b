/-
  law4.DataAny: true for any data. (Written by wip/tools/gen16.py.)
-/
import Derived.Test.YtkjmghnbcnbdbaaGreatDoorMQ10
import Derived.Test.YtkjmghnbcnbdbaaGreatDoorRefDT
import Derived.Test.YtkjmghnbcnbdbaaGreatDoorRefZ
namespace Go.Proofs.YtkjmghnbcnbdbaaGreatDoor
open Go.RowKit Go.Shelf
set_option maxRecDepth 20000
theorem fewD_few {d : Dat} (hk : DatOK d) (hf : fewD d = true) : DatFew d := by
  simp only [fewD, Bool.and_eq_true, decide_eq_true_eq] at hf
  obtain ⟨⟨f1, f2, f3, f4⟩, f5, f6⟩ := hf
  refine ⟨hk, by omega, fun n hn => ?_, by omega, by omega⟩
  have h := of_decide_eq_true (f5 n hn)
  exact ⟨by omega, fun x hx => by have := h.2 x hx; omega⟩
theorem checkL_vals : ∀ n : Nm, checkL n = 0 ∨ checkL n = 3 ∨ checkL n = 8
  | [] => .inl rfl
  | x :: r => by
    have ih := checkL_vals r
    unfold checkL checkLabelM
    repeat' split
    all_goals first | exact ih | simp
theorem checkN_vals (n : Nm) : checkN n = 0 ∨ checkN n = 3 ∨ checkN n = 8 := by
  have h := checkL_vals n
  unfold checkN
  split
  · split <;> simp
  · exact h
theorem checkNs_vals : ∀ l : List Nm, checkNs l = 0 ∨ checkNs l = 3 ∨ checkNs l = 8
  | [] => .inl rfl
  | x :: r => by
    have ih := checkNs_vals r
    have h := checkN_vals x
    unfold checkNs
    split
    · exact ih
    · exact h
theorem checkD_vals (d : Dat) : checkD d = 0 ∨ checkD d = 2 ∨ checkD d = 3 ∨ checkD d = 6 ∨ checkD d = 7 ∨ checkD d = 8 := by
  have h := checkNs_vals d.names
  unfold checkD
  repeat' split
  all_goals first | omega | simp
theorem checked_counted {d : Dat} (h : checkD d = 0) : countedM d = true := by
  unfold checkD at h
  by_cases h1 : d.ty < 1 ∨ 65535 < d.ty
  · rw [if_pos h1] at h; cases h
  · rw [if_neg h1] at h
    cases hc : countedM d with
    | true => rfl
    | false => rw [if_pos hc] at h; cases h

set_option maxRecDepth 100000 in
set_option maxHeartbeats 16000000 in
theorem law4_DataAny (va : Value) (d : Dat) (w : World) (hA : DatArg w va d) (hT : Tab w) (hM : MaxC w) (hZ : TabZ w) :
    Calls Tryz.prog 3 #[va] w fun e w' => e = .returned (.bool true) ∧ Below w.heap.size w w' := by
  obtain ⟨a1, c1, a2, c2, a3, c3, a4, c4, rfl, hdA, _⟩ := datV_of _ _ _ _ hA.1 rfl rfl rfl rfl
  obtain ⟨p1, e1⟩ : ∃ n, d.names.length = n := ⟨_, rfl⟩
  obtain ⟨p2, e2⟩ : ∃ n, d.nums.length = n := ⟨_, rfl⟩
  obtain ⟨p3, e3⟩ : ∃ n, d.texts.length = n := ⟨_, rfl⟩
  obtain ⟨p4, e4⟩ : ∃ n, d.raw.length = n := ⟨_, rfl⟩
  rw [e1, e2, e3, e4] at hA hdA ⊢
  have HPA := Lib.hid hA.2
  have HT := Lib.hid hT; have HMx := Lib.hid hM; have HZ := Lib.hid hZ
  have HOA := Lib.hid (show fewD d = true → DatOK d from fewD_ok hA)
  have Bz : Below w.heap.size w (w.alloc (.cells #[.int .i64 d.ty, .slice a1 p1 c1, .slice a2 p2 c2, .slice a3 p3 c3, .slice a4 p4 c4] 27)) := (Below.refl _ w).alloc (Nat.le_refl _) _
  have E1 := hdA.alloc (.cells #[.int .i64 d.ty, .slice a1 p1 c1, .slice a2 p2 c2, .slice a3 p3 c3, .slice a4 p4 c4] 27)
  have X1 := Box.new w #[.int .i64 d.ty, .slice a1 p1 c1, .slice a2 p2 c2, .slice a3 p3 c3, .slice a4 p4 c4]
  clear e1 e2 e3 e4 hA hT hM hdA hZ
  go_enter Tryz.func3, Tryz.ntmps3
  go_wp2_with fail
  generalize (w.alloc (.cells #[.int .i64 d.ty, .slice a1 p1 c1, .slice a2 p2 c2, .slice a3 p3 c3, .slice a4 p4 c4] 27)) = W0 at *
  refine (law4_known _ (HT.out.below Bz) (HMx.out.below Bz)).mono ?_
  rintro e wr ⟨rfl, hb⟩
  replace Bz := Bz.trans (hb.mono Bz.size)
  replace X1 := X1.below hb
  replace E1 := E1.below hb
  clear hb
  obtain ⟨x0, x1, x2, x3, x4⟩ := cells5 X1
  go_wp2_with fail
  refine (law4_Few _ d _ ⟨E1, HPA.out⟩).mono ?_
  clear x0 x1 x2 x3 x4
  rintro e wr ⟨rfl, hb⟩
  replace Bz := Bz.trans (hb.mono Bz.size)
  replace X1 := X1.below hb
  replace E1 := E1.below hb
  clear hb
  by_cases hf : fewD d = true
  case neg =>
    have hg : fewD d = false := by simpa using hf
    rw [hg]
    clear hg hf
    obtain ⟨x0, x1, x2, x3, x4⟩ := cells5 X1
    go_wp2_with fail
    go_ret
    exact ⟨rfl, Bz⟩
  rw [hf]
  have HK := Lib.hid (HOA.out hf)
  have HF := Lib.hid (fewD_few HK.out hf)
  clear hf
  obtain ⟨x0, x1, x2, x3, x4⟩ := cells5 X1
  go_wp2_with fail
  refine (law4_Of (.agg #[.int .i64 d.ty, .slice a1 p1 c1, .slice a2 p2 c2, .slice a3 p3 c3, .slice a4 p4 c4]) d _ E1 HK.out.2.1).mono ?_
  clear x0 x1 x2 x3 x4
  rintro e w2 ⟨u1, rfl, g1, hb⟩
  obtain ⟨t1, z1, t2, z2, t3, z3, t4, z4, rfl, g1, _⟩ := datV_of _ _ _ _ g1 rfl rfl rfl rfl
  replace Bz := Bz.trans (hb.mono Bz.size)
  replace X1 := X1.below hb
  replace E1 := E1.below hb
  clear hb
  go_wp2_with fail
  refine (ref_CheckData _ d _ g1 HK.out).mono ?_
  unfold CheckPost
  obtain ⟨er, her⟩ : ∃ er, checkD d = er := ⟨_, rfl⟩
  rw [her]
  have HER := Lib.hid her
  clear her
  rintro e wr ⟨rfl, hb⟩
  replace Bz := Bz.trans (hb.mono Bz.size)
  replace X1 := X1.below hb
  replace E1 := E1.below hb
  clear hb
  obtain ⟨x0, x1, x2, x3, x4⟩ := cells5 X1
  clear g1
  have KD : ∀ W : World, Below wr.heap.size wr W → (W.cell? ⟨w.heap.size, 0, none⟩ = some (.int .i64 d.ty) ∧ W.cell? ⟨w.heap.size, 1, none⟩ = some (.slice a1 p1 c1) ∧ W.cell? ⟨w.heap.size, 2, none⟩ = some (.slice a2 p2 c2) ∧ W.cell? ⟨w.heap.size, 3, none⟩ = some (.slice a3 p3 c3) ∧ W.cell? ⟨w.heap.size, 4, none⟩ = some (.slice a4 p4 c4) ∧ Below wr.heap.size wr W) := fun W hb => by
    obtain ⟨y0, y1, y2, y3, y4⟩ := cells5 (X1.below hb)
    exact ⟨y0, y1, y2, y3, y4, hb⟩
  have KS := Lib.hid (fun (W W' : World) (h : (W.cell? ⟨w.heap.size, 0, none⟩ = some (.int .i64 d.ty) ∧ W.cell? ⟨w.heap.size, 1, none⟩ = some (.slice a1 p1 c1) ∧ W.cell? ⟨w.heap.size, 2, none⟩ = some (.slice a2 p2 c2) ∧ W.cell? ⟨w.heap.size, 3, none⟩ = some (.slice a3 p3 c3) ∧ W.cell? ⟨w.heap.size, 4, none⟩ = some (.slice a4 p4 c4) ∧ Below wr.heap.size wr W)) (hb : Below W.heap.size W W') => KD W' (h.2.2.2.2.2.trans (hb.mono h.2.2.2.2.2.size)))
  have KR := Lib.hid (fun (W : World) (h : (W.cell? ⟨w.heap.size, 0, none⟩ = some (.int .i64 d.ty) ∧ W.cell? ⟨w.heap.size, 1, none⟩ = some (.slice a1 p1 c1) ∧ W.cell? ⟨w.heap.size, 2, none⟩ = some (.slice a2 p2 c2) ∧ W.cell? ⟨w.heap.size, 3, none⟩ = some (.slice a3 p3 c3) ∧ W.cell? ⟨w.heap.size, 4, none⟩ = some (.slice a4 p4 c4) ∧ Below wr.heap.size wr W)) => KD W.drew (below_drew1 h.2.2.2.2.2))
  have HCk := Lib.hid (fun (W : World) (h : (W.cell? ⟨w.heap.size, 0, none⟩ = some (.int .i64 d.ty) ∧ W.cell? ⟨w.heap.size, 1, none⟩ = some (.slice a1 p1 c1) ∧ W.cell? ⟨w.heap.size, 2, none⟩ = some (.slice a2 p2 c2) ∧ W.cell? ⟨w.heap.size, 3, none⟩ = some (.slice a3 p3 c3) ∧ W.cell? ⟨w.heap.size, 4, none⟩ = some (.slice a4 p4 c4) ∧ Below wr.heap.size wr W)) => kn_Check d er HER.out HK.out W (.agg #[.int .i64 d.ty, .slice a1 p1 c1, .slice a2 p2 c2, .slice a3 p3 c3, .slice a4 p4 c4]) (E1.below h.2.2.2.2.2))
  have hS := KD wr (Below.refl _ _)
  have HE1 := Lib.hid E1
  have HBE := Lib.hid (fun (W : World) (h : (W.cell? ⟨w.heap.size, 0, none⟩ = some (.int .i64 d.ty) ∧ W.cell? ⟨w.heap.size, 1, none⟩ = some (.slice a1 p1 c1) ∧ W.cell? ⟨w.heap.size, 2, none⟩ = some (.slice a2 p2 c2) ∧ W.cell? ⟨w.heap.size, 3, none⟩ = some (.slice a3 p3 c3) ∧ W.cell? ⟨w.heap.size, 4, none⟩ = some (.slice a4 p4 c4) ∧ Below wr.heap.size wr W)) => Bz.trans (h.2.2.2.2.2.mono Bz.size))
  have hv := checkD_vals d
  rw [HER.out] at hv
  rcases hv with rfl | hv
  case inr =>
    clear KD X1 E1 Bz x0 x1 x2 x3 x4
    rcases hv with rfl | rfl | rfl | rfl | rfl
    all_goals
      have hSd := KR.out _ hS
      have HSd := Lib.hid hSd
      obtain ⟨q0, q1, q2, q3, q4, -⟩ := hSd
      have HC2 := Lib.hid (HCk.out _ HSd.out)
      clear hS
      go_wp2_with fail
      go_region_law (go_simp; (with_reducible refine (HC2.out).mono ?_); rintro e w3 ⟨rfl, hb2⟩; have HB3 := Lib.hid (HBE.out _ (KS.out _ _ HSd.out hb2)))
      all_goals
        go_wp2_with fail
        go_ret
        exact ⟨rfl, HB3.out⟩
  case inl =>
    have HTx := Lib.hid (fun (W : World) (h : (W.cell? ⟨w.heap.size, 0, none⟩ = some (.int .i64 d.ty) ∧ W.cell? ⟨w.heap.size, 1, none⟩ = some (.slice a1 p1 c1) ∧ W.cell? ⟨w.heap.size, 2, none⟩ = some (.slice a2 p2 c2) ∧ W.cell? ⟨w.heap.size, 3, none⟩ = some (.slice a3 p3 c3) ∧ W.cell? ⟨w.heap.size, 4, none⟩ = some (.slice a4 p4 c4) ∧ Below wr.heap.size wr W)) => rdata_TextZ (.agg #[.int .i64 d.ty, .slice a1 p1 c1, .slice a2 p2 c2, .slice a3 p3 c3, .slice a4 p4 c4]) d W (HE1.out.below h.2.2.2.2.2) HF.out (HT.out.below (HBE.out W h)) (HZ.out.below (HBE.out W h)))
    have HOf := Lib.hid (fun (W : World) (h : (W.cell? ⟨w.heap.size, 0, none⟩ = some (.int .i64 d.ty) ∧ W.cell? ⟨w.heap.size, 1, none⟩ = some (.slice a1 p1 c1) ∧ W.cell? ⟨w.heap.size, 2, none⟩ = some (.slice a2 p2 c2) ∧ W.cell? ⟨w.heap.size, 3, none⟩ = some (.slice a3 p3 c3) ∧ W.cell? ⟨w.heap.size, 4, none⟩ = some (.slice a4 p4 c4) ∧ Below wr.heap.size wr W)) => law4_Of (.agg #[.int .i64 d.ty, .slice a1 p1 c1, .slice a2 p2 c2, .slice a3 p3 c3, .slice a4 p4 c4]) d W (HE1.out.below h.2.2.2.2.2) HK.out.2.1)
    have HDT := Lib.hid (fun (W : World) (u : Value) (h : DatAt W u d) => ref_DataText u d W h HF.out (checked_counted HER.out))
    obtain ⟨tx, htx⟩ : ∃ tx, textD d = tx := ⟨_, rfl⟩
    rw [htx] at HTx HDT
    clear htx KD X1 E1 Bz x0 x1 x2 x3 x4
    go_wp2_with fail
    go_region_held3 (fun W => (W.cell? ⟨w.heap.size, 0, none⟩ = some (.int .i64 d.ty) ∧ W.cell? ⟨w.heap.size, 1, none⟩ = some (.slice a1 p1 c1) ∧ W.cell? ⟨w.heap.size, 2, none⟩ = some (.slice a2 p2 c2) ∧ W.cell? ⟨w.heap.size, 3, none⟩ = some (.slice a3 p3 c3) ∧ W.cell? ⟨w.heap.size, 4, none⟩ = some (.slice a4 p4 c4) ∧ Below wr.heap.size wr W)) (first | assumption | exact KR.out _ (by assumption)) (first
      | ((with_reducible refine (HCk.out _ (by assumption)).mono ?_); rintro e w3 ⟨rfl, hb2⟩; have hS2 := KS.out _ _ (by assumption) hb2; try have g2b := DatAt.below g2 hb2)
      | ((with_reducible refine (HTx.out _ (by assumption)).mono ?_); rintro e w3 ⟨rfl, hb2⟩; have hS2 := KS.out _ _ (by assumption) hb2; try have g2b := DatAt.below g2 hb2)
      | ((with_reducible refine (HOf.out _ (by assumption)).mono ?_); rintro e w3 ⟨u2, rfl, g2, hb2⟩; obtain ⟨s1, y1, s2, y2, s3, y3, s4, y4, rfl, g2, _⟩ := datV_of _ _ _ _ g2 rfl rfl rfl rfl; have hS2 := KS.out _ _ (by assumption) hb2)
      | ((with_reducible refine (HDT.out _ _ (by assumption)).mono ?_); rintro e w3 ⟨rfl, hb2⟩; have hS2 := KS.out _ _ (by assumption) hb2))
    all_goals
      rename_i hSe
      go_wp2_with fail
      go_ret
      exact ⟨by simp, HBE.out _ hSe⟩
theorem law4_DataAny' {W : World} (va : Value) (a : Dat) (hA : DatArg W va a) (w : World) (e : w = W) (hT : Tab w) (hM : MaxC w) (hZ : TabZ w) :
    Calls Tryz.prog 3 #[va] w fun e w' => e = .returned (.bool true) ∧ Below w.heap.size w w' := by
  subst e; exact law4_DataAny va a w hA hT hM hZ
end Go.Proofs.YtkjmghnbcnbdbaaGreatDoor
