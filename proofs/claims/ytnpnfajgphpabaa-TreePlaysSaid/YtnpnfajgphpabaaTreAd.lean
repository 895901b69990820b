/-
  The document's rows of names: toponymref24.Add. (Written by wip/tools/gentadd.py.)
-/
import Derived.Test.YtnpnfajgphpabaaTreT
import Derived.Test.YtnpnfajgphpabaaRowN
import Derived.Deep.RegionLaw
import Derived.Deep.DeepCutAuto
namespace Go.Proofs.Ytnpnfajgphpabaa
open Go.RowKit Go.Shelf Go.Maps Go.WideMaps
set_option maxRecDepth 20000
set_option linter.unusedVariables false
set_option linter.unusedSimpArgs false
theorem elem_nm1 : ElemK 1 23 29 24 := ⟨Try.underlying29, _, _, rfl, rfl, rfl, rfl, rfl⟩
def oneV (vs : List Value) : List (List Value) := vs.map fun x => [x]
theorem oneV_len (vs : List Value) : (oneV vs).length = vs.length := List.length_map _
theorem oneV_one {vs : List Value} : ∀ cs ∈ oneV vs, cs.length = 1 := by
  intro cs hc; obtain ⟨x, _, rfl⟩ := List.mem_map.1 hc; rfl
theorem oneV_cell {vs : List Value} (h : ∀ x ∈ vs, x.oneCell' = true) : ∀ cs ∈ oneV vs, ∀ u ∈ cs, u.oneCell' = true := by
  intro cs hc u hu; obtain ⟨x, hx, rfl⟩ := List.mem_map.1 hc; rw [List.mem_singleton.1 hu]; exact h x hx
theorem oneV_app (a b : List Value) : oneV (a ++ b) = oneV a ++ oneV b := List.map_append
theorem oneV_flat (vs : List Value) : (oneV vs).flatten = vs := by
  induction vs with
  | nil => rfl
  | cons x r ih => show [x] ++ (oneV r).flatten = _; rw [ih]; rfl
theorem slAt_one {W : World} {v : Value} {vs : List Value} (h : SlK W v (oneV vs)) : SlAt W v vs := by
  obtain ⟨a, c, e, h1, h2, h⟩ := h
  rw [oneV_len] at e h1
  refine ⟨a, c, e, h1, h2, ?_⟩
  rcases h with h | ⟨b, off, ea, hlt, hc⟩
  · exact .inl (by have := congrArg List.length h; rw [oneV_len] at this; exact List.eq_nil_of_length_eq_zero this)
  · exact .inr ⟨b, off, ea, hlt, fun j hj => hc j _ (by rw [oneV_flat]; exact List.getElem?_eq_getElem hj)⟩
/-- What a slice l[k:] is, in its three forms. -/
theorem slAt_cut3 {W : World} {a : Option Addr} {n c : Nat} {vs : List Value} (h : SlAt W (.slice a n c) vs) {k : Nat} (hk : k ≤ n) :
    (c = k ∧ n = k ∧ SlAt W (.slice a 0 0) (vs.drop k)) ∨ (¬ c = k ∧ n = 0 ∧ k = 0 ∧ (∃ ad, a = some ad) ∧ SlAt W (.slice a 0 c) (vs.drop k)) ∨ (¬ c = k ∧ 0 < n ∧ ∃ g off, a = some ⟨g, off, none⟩ ∧ SlAt W (.slice (some ⟨g, off + k, none⟩) (n - k) (c - k)) (vs.drop k)) := by
  obtain ⟨a', c', e, h1, h2, h4⟩ := h
  injection e with e1 e2 e3
  subst e1 e2 e3
  have hl : (vs.drop k).length = vs.length - k := List.length_drop
  by_cases e : c = k
  · left
    have hd : vs.drop k = [] := List.drop_eq_nil_of_le (by omega)
    exact ⟨e, by omega, a, 0, by rw [hd]; rfl, by rw [hd]; exact Nat.le_refl _, fun _ => rfl, .inl hd⟩
  · right
    by_cases hz : vs.length = 0
    · left
      have hn0 : vs = [] := List.eq_nil_of_length_eq_zero hz
      refine ⟨e, hz, by omega, ?_, a, c, by rw [hl, hz, Nat.zero_sub], by rw [hl]; omega, h2, .inl (by rw [hn0]; simp)⟩
      cases a with
      | none => exact absurd (h2 rfl) (by omega)
      | some ad => exact ⟨ad, rfl⟩
    · right
      refine ⟨e, by omega, ?_⟩
      rcases h4 with h4 | ⟨b, off, rfl, hlt, hc⟩
      · rw [h4] at hz; simp at hz
      · refine ⟨b, off, rfl, _, _, by rw [hl], by rw [hl]; omega, (fun e => by cases e), .inr ⟨b, off + k, rfl, hlt, fun j hj => ?_⟩⟩
        rw [Nat.add_assoc, List.getElem_drop]
        exact hc _ (by rw [hl] at hj; omega)
theorem slAt_take {W : World} {a : Option Addr} {n c : Nat} {vs : List Value} (h : SlAt W (.slice a n c) vs) (k : Nat) (hk : k ≤ n) : SlAt W (.slice a k c) (vs.take k) := by
  obtain ⟨a', c', e, h1, h2, h4⟩ := h
  injection e with e1 e2 e3
  subst e1 e2 e3
  have hl : (vs.take k).length = k := by rw [List.length_take]; omega
  refine ⟨a, c, by rw [hl], by rw [hl]; omega, h2, ?_⟩
  rcases h4 with h4 | ⟨b, off, rfl, hlt, hc⟩
  · left; rw [h4]; simp
  · refine .inr ⟨b, off, rfl, hlt, fun j hj => ?_⟩
    rw [List.getElem_take]; exact hc j (by rw [hl] at hj; omega)
/-- The elements of a row of names. -/
def EvAt (W : World) (vs : List Value) (ys : List Nm) : Prop := ∃ h : vs.length = ys.length, ∀ j (hj : j < vs.length), NmAt W vs[j] (ys[j]'(by omega))
theorem EvAt.below {W W' : World} {vs : List Value} {ys : List Nm} (h : EvAt W vs ys) (hb : Below W.heap.size W W') : EvAt W' vs ys := by
  obtain ⟨h1, h2⟩ := h; exact ⟨h1, fun j hj => (h2 j hj).below hb⟩
theorem EvAt.one {W : World} {vs : List Value} {ys : List Nm} (h : EvAt W vs ys) : ∀ x ∈ vs, x.oneCell' = true := by
  intro x hx
  obtain ⟨j, hj, rfl⟩ := List.mem_iff_getElem.1 hx
  obtain ⟨⟨a, c, e, _⟩, _⟩ := h.2 j hj
  rw [e]; rfl
theorem EvAt.nms {W : World} {v : Value} {vs : List Value} {ys : List Nm} (h : EvAt W vs ys) (hs : SlAt W v vs) : NmsAt W v ys := ⟨vs, hs, h.1, h.2⟩
theorem EvAt.gap {W : World} {vs : List Value} {ys : List Nm} (h : EvAt W vs ys) (k : Nat) (hk : k ≤ ys.length) {x : Value} {y : Nm} (hx : NmAt W x y) : EvAt W (vs.take k ++ [x] ++ vs.drop k) (ys.take k ++ y :: ys.drop k) := by
  have hl := h.1
  refine ⟨by simp [hl], fun j h1 => ?_⟩
  have e1 : (vs.take k).length = k := by rw [List.length_take]; omega
  have e2 : (ys.take k).length = k := by rw [List.length_take]; omega
  have key : NmAt W ((vs.take k ++ ([x] ++ vs.drop k))[j]'(by rw [← List.append_assoc]; exact h1)) ((ys.take k ++ y :: ys.drop k)[j]'(by simp at h1 ⊢; omega)) := by
    rw [List.getElem_append, List.getElem_append]
    by_cases hj : j < k
    · rw [dif_pos (by omega), dif_pos (by omega)]
      simp only [List.getElem_take]
      exact h.2 j (by omega)
    · rw [dif_neg (by omega), dif_neg (by omega)]
      by_cases hjk : j = k
      · have z1 : j - (vs.take k).length = 0 := by omega
        have z2 : j - (ys.take k).length = 0 := by omega
        simp only [z1, z2, List.cons_append, List.nil_append, List.getElem_cons_zero]
        exact hx
      · obtain ⟨i, rfl⟩ : ∃ i, j = k + 1 + i := ⟨j - k - 1, by omega⟩
        have z1 : k + 1 + i - (vs.take k).length = i + 1 := by omega
        have z2 : k + 1 + i - (ys.take k).length = i + 1 := by omega
        simp only [z1, z2, List.cons_append, List.nil_append, List.getElem_cons_succ, List.getElem_drop]
        simp only [List.length_append, List.length_take, List.length_drop, List.length_cons, List.length_nil] at h1
        exact h.2 (k + i) (by omega)
  simpa only [List.append_assoc] using key
/-- Names in order, folded: xs and the first i of f and its parents. -/
def AddI (xs : List Nm) (f : Nm) (i : Nat) (ys : List Nm) : Prop :=
  SortedN ys ∧ (∀ y ∈ ys, foldN y = y ∧ NmOK y) ∧ (∀ x, x ∈ ys ↔ x ∈ xs ∨ ∃ j, j < i ∧ x = f.drop j) ∧ ys.length ≤ xs.length + i
theorem AddI.start {xs : List Nm} {f : Nm} (hs : SortedN xs) (hf : ∀ y ∈ xs, foldN y = y ∧ NmOK y) : AddI xs f 0 xs := ⟨hs, hf, fun x => by simp, by omega⟩
theorem AddI.hit {xs ys : List Nm} {f : Nm} {i : Nat} (h : AddI xs f i ys) (hc : ∀ x ∈ xs, ∀ j, x.drop j ∈ xs) (hff : foldN f = f) (hi : i ≤ f.length) {k : Nat} (hk : k < ys.length) (he : compareN ys[k] (f.drop i) = 0) : AddI xs f (f.length + 1) ys := by
  obtain ⟨h1, h2, h3, h4⟩ := h
  have hy := (h2 ys[k] (List.getElem_mem hk)).1
  have e : ys[k] = f.drop i := by
    have h5 := (compareN_zero _ _).1 he
    rw [sameN_iff, hy, foldN_drop, hff] at h5
    exact h5
  have hin : f.drop i ∈ xs := by
    rcases (h3 _).1 (e ▸ List.getElem_mem hk) with h | ⟨j, hj, ej⟩
    · exact h
    · have := congrArg List.length ej
      rw [List.length_drop, List.length_drop] at this
      omega
  refine ⟨h1, h2, fun x => (h3 x).trans ⟨?_, ?_⟩, by omega⟩
  · rintro (h | ⟨j, hj, ej⟩)
    · exact .inl h
    · exact .inr ⟨j, by omega, ej⟩
  · rintro (h | ⟨j, hj, ej⟩)
    · exact .inl h
    · by_cases hji : j < i
      · exact .inr ⟨j, hji, ej⟩
      · left
        have := hc _ hin (j - i)
        rw [List.drop_drop, show i + (j - i) = j by omega] at this
        rw [ej]; exact this
theorem AddI.gap {xs ys : List Nm} {f : Nm} {i : Nat} (h : AddI xs f i ys) (hff : foldN f = f) (hok : NmOK f) {k : Nat} (hk : k ≤ ys.length) (hl : ∀ j (h : j < ys.length), j < k → compareN ys[j] (f.drop i) = -1) (hg : ∀ j (h : j < ys.length), k ≤ j → compareN ys[j] (f.drop i) = 1) : AddI xs f (i + 1) (ys.take k ++ f.drop i :: ys.drop k) := by
  obtain ⟨h1, h2, h3, h4⟩ := h
  have hs : ys = ys.take k ++ ys.drop k := (List.take_append_drop k ys).symm
  have hp := h1
  unfold SortedN at hp
  rw [hs, List.pairwise_append] at hp
  refine ⟨?_, fun y hy => ?_, fun x => ?_, by simp; omega⟩
  · unfold SortedN
    rw [List.pairwise_append, List.pairwise_cons]
    refine ⟨hp.1, ⟨fun b hb => ?_, hp.2.1⟩, fun a ha b hb => ?_⟩
    · obtain ⟨j, hj, rfl⟩ := List.mem_iff_getElem.1 hb
      rw [List.getElem_drop, compareN_swap, hg (k + j) (by rw [List.length_drop] at hj; omega) (by omega)]
    · rcases List.mem_cons.1 hb with rfl | hb
      · obtain ⟨j, hj, rfl⟩ := List.mem_iff_getElem.1 ha
        rw [List.length_take] at hj
        rw [List.getElem_take]
        exact hl j (by omega) (by omega)
      · exact hp.2.2 a ha b hb
  · rcases List.mem_append.1 hy with hy | hy
    · exact h2 y (List.mem_of_mem_take hy)
    · rcases List.mem_cons.1 hy with rfl | hy
      · exact ⟨by rw [foldN_drop, hff], hok.drop i⟩
      · exact h2 y (List.mem_of_mem_drop hy)
  · have e : x ∈ ys.take k ++ f.drop i :: ys.drop k ↔ x ∈ ys ∨ x = f.drop i := by
      rw [List.mem_append, List.mem_cons]
      constructor
      · rintro (h | h | h)
        · exact .inl (List.mem_of_mem_take h)
        · exact .inr h
        · exact .inl (List.mem_of_mem_drop h)
      · rintro (h | h)
        · rw [hs] at h
          rcases List.mem_append.1 h with h | h
          · exact .inl h
          · exact .inr (.inr h)
        · exact .inr (.inl h)
    rw [e, h3]
    constructor
    · rintro ((h | ⟨j, hj, ej⟩) | h)
      · exact .inl h
      · exact .inr ⟨j, by omega, ej⟩
      · exact .inr ⟨i, by omega, h⟩
    · rintro (h | ⟨j, hj, ej⟩)
      · exact .inl (.inl h)
      · by_cases e : j = i
        · subst e; exact .inr ej
        · exact .inl (.inr ⟨j, by omega, ej⟩)
def AddNPost (xs : List Nm) (f : Nm) (w : World) (e : Ending) (w' : World) : Prop := ∃ v ys, e = .returned v ∧ NmsAt w' v ys ∧ AddI xs f (f.length + 1) ys ∧ Below w.heap.size w w'
section
attribute [local go_sem] Oper.semAt_some
set_option maxRecDepth 100000 in
set_option maxHeartbeats 16000000 in
theorem ref_AddN (v vn : Value) (xs : List Nm) (n f : Nm) (w : World) (hf : foldN n = f) (hX : NmsAt w v xs) (hs : SortedN xs) (hok : ∀ y ∈ xs, foldN y = y ∧ NmOK y) (hc : ∀ x ∈ xs, ∀ j, x.drop j ∈ xs) (hl : xs.length ≤ 100000) (hN : NmAt w vn n) (hk : NmOK n) (hn1 : n.length ≤ 10000) :
    Calls Try.prog 11 #[v, vn] w (AddNPost xs f w) := by
  obtain ⟨vs0, s1, s2, s3⟩ := hX
  obtain ⟨a0, c0, rfl, -⟩ := id s1
  obtain ⟨m0, hm0⟩ : ∃ m, vs0.length = m := ⟨_, rfl⟩
  obtain ⟨nf, hnf⟩ : ∃ m, f.length = m := ⟨_, rfl⟩
  have hnf2 : nf ≤ 10000 := by rw [← hnf, ← hf, foldN_len]; exact hn1
  have HFF := Lib.hid (show foldN f = f by rw [← hf, foldN_idem])
  have HFO := Lib.hid (show NmOK f by rw [← hf]; exact hk.fold)
  have hfold := kn_RFold vn n f nf hf hnf w hN hk
  have HST := Lib.hid (AddI.start (f := f) hs hok)
  have HCL := Lib.hid hc; have HNF := Lib.hid hnf; have HXL := Lib.hid hl; have HE0 := Lib.hid (show EvAt w vs0 xs from ⟨s2, s3⟩)
  have HS0 := Lib.hid s1; have HM0 := Lib.hid hm0
  rw [hm0] at HS0 ⊢
  clear s1 s3 hs hok hc hl hN hk hn1 hnf hf hm0 s2
  go_enter Try.func11, Try.ntmps11
  go_wp2_with fail
  refine hfold.mono ?_
  rintro e w1 ⟨fa, fc, rfl, hfn, hb1⟩
  have HFN := Lib.hid hfn; have HB1 := Lib.hid hb1
  clear hfn hb1 hfold
  go_wp2
  go_loopw [0, 6] (fun vl vi w9 => ∃ (wr : World) (i : Nat) (a : Option Addr) (n c : Nat) (vs : List Value) (ys : List Nm), wr = w9 ∧ vl = .slice a n c ∧ vi = .int .i64 i ∧ i ≤ nf + 1 ∧ n ≤ 200000 ∧ n ≤ c ∧ Hid (vs.length = n) ∧ Hid (SlAt wr (.slice a n c) vs) ∧ Hid (EvAt wr vs ys) ∧ Hid (AddI xs f i ys) ∧ Hid (Below w1.heap.size w1 wr)) (fun _ vi _ => nf + 1 - (intOf vi).toNat)
  case atStart => exact ⟨_, 0, a0, m0, c0, vs0, xs, rfl, rfl, rfl, Nat.zero_le _, by have := HE0.out.1; have := HXL.out; have := HM0.out; omega, (by
      obtain ⟨_, _, e, h, _⟩ := HS0.out; injection e with _ e2 e3; rw [e2, e3]; exact h), HM0, Lib.hid (HS0.out.below HB1.out), Lib.hid (HE0.out.below HB1.out), HST, Lib.hid (Below.refl _ _)⟩
  case round =>
    obtain ⟨wr, i, a, n, c, vs, ys, rfl, rfl, rfl, hi, hn2, hnc, HVL, HS, HE, HI, HB⟩ := hrel
    by_cases hlt : i ≤ nf
    · have hltz : (i : Int) ≤ (nf : Int) := by omega
      have hi0 : (0 : Int) ≤ (i : Int) := by omega
      have hcut := nm_cut3 (HFN.out.below HB.out) hlt
      have HPL := Lib.hid (fun (v : Value) (hv : NmAt wr v (f.drop i)) => ref_place (.slice a n c) v ys (f.drop i) wr (HE.out.nms HS.out) HI.out.1 (fun y hy => (HI.out.2.1 y hy).2) (by have := HE.out.1; have := HVL.out; omega) hv (HFO.out.drop i))
      have HYN := Lib.hid (show ys.length = n by have := HE.out.1; have := HVL.out; omega)
      rcases hcut with ⟨hck, hq, hm⟩ | ⟨hck, hq0, hk0, ⟨ad, rfl⟩, hm⟩ | ⟨hck, hq0, g, off, rfl, hm⟩
      · obtain rfl : i = nf := by omega
        obtain rfl : i = fc := by omega
        have hpl := HPL.out _ hm
        have HM := Lib.hid hm
        clear HPL hm
        go_wp2_with fail
        refine hpl.mono ?_
        rintro e W2 ⟨k, ok, rfl, hb2, hk, hkt, hkf⟩
        rw [HYN.out] at hk
        have HB2 := Lib.hid (HB.out.trans (hb2.mono HB.out.size))
        have HS2 := Lib.hid (HS.out.below hb2); have HE2 := Lib.hid (HE.out.below hb2); have HM2 := Lib.hid (HM.out.below hb2)
        have HKT := Lib.hid hkt; have HKF := Lib.hid hkf
        clear hb2 hkt hkf hpl HB HS HE HM
        cases ok with
        | true =>
          have HR := Lib.hid (show AddI xs f (f.length + 1) ys by
            obtain ⟨h1, h2⟩ := HKT.out rfl
            exact HI.out.hit HCL.out HFF.out (by rw [HNF.out]; omega) h1 h2)
          have HW := Lib.hid (HB1.out.trans (HB2.out.mono HB1.out.size))
          go_wp2
          go_ret
          exact ⟨_, ys, rfl, HE2.out.nms HS2.out, HR.out, HW.out⟩
        | false =>
          have HR := Lib.hid (show AddI xs f (i + 1) (ys.take k ++ f.drop i :: ys.drop k) from HI.out.gap HFF.out HFO.out (by rw [HYN.out]; exact hk) (HKF.out rfl).1 (HKF.out rfl).2)
          have HTA := Lib.hid (slK_one (slAt_take HS2.out k hk))
          have HLK := Lib.hid (show (vs.take k).length = k by rw [List.length_take]; have := HVL.out; omega)
          have HLD := Lib.hid (show (vs.drop k).length = n - k by rw [List.length_drop]; have := HVL.out; omega)
          have HC1 := Lib.hid (oneV_cell (vs := vs.take k) (fun x hx => HE2.out.one x (List.mem_of_mem_take hx)))
          have HD1 := Lib.hid (oneV_cell (vs := vs.drop k) (fun x hx => HE2.out.one x (List.mem_of_mem_drop hx)))
          have HX1 := Lib.hid (show ∀ cs ∈ oneV [(Value.slice fa 0 0)], ∀ u ∈ cs, u.oneCell' = true from oneV_cell (by intro x hx; rw [List.mem_singleton.1 hx]; rfl))
          have hk0 : (0 : Int) ≤ (k : Int) := by omega
          have hkm1 : (k : Int) ≤ (n : Int) := by omega
          have hkc1 : (k : Int) ≤ (c : Int) := by omega
          have hmc1 : (n : Int) ≤ (c : Int) := by omega
          have HNK := Lib.hid (show k ≤ 1000000 ∧ n ≤ 1000000 by omega)
          go_upto_region 8 with (fail)
          go_cut [9] (fun v wx => ∃ (a6 : Option Addr) (c6 : Nat), v = .slice a6 (k + 1) c6 ∧ Hid (OwnC 1 23 wx W2.heap.size (.slice a6 (k + 1) c6) (oneV (vs.take k) ++ oneV [(Value.slice fa 0 0)])) ∧ Hid (Below W2.heap.size W2 wx))
          case first =>
            have hbd : Below W2.heap.size W2 W2.drew := ⟨rfl, rfl, rfl, Nat.le_refl _, fun _ _ => rfl⟩
            have hbA : Below W2.heap.size W2 (W2.alloc (.cells #[] 23)).drew := hbd.alloc (Nat.le_refl _) _
            have hbB : Below W2.heap.size W2 ((W2.alloc (.cells #[] 23)).alloc (.cells #[(Value.slice fa 0 0)] 23)).drew := hbA.alloc (by simp) _
            have hbC : Below W2.heap.size W2 ((W2.alloc (.cells #[(Value.slice fa 0 0)] 23)).alloc (.cells #[] 23)).drew := (hbd.alloc (Nat.le_refl _) _).alloc (by simp) _
            have HBA := Lib.hid hbA; have HBB := Lib.hid hbB; have HBC := Lib.hid hbC
            have HOA := Lib.hid (show OwnC 1 23 ((W2.alloc (.cells #[] 23)).drew) W2.heap.size (.slice (some ⟨W2.heap.size, 0, none⟩) 0 0) [] from ownC_lit 1 23 W2.drew)
            have HOB := Lib.hid (show OwnC 1 23 (((W2.alloc (.cells #[] 23)).alloc (.cells #[(Value.slice fa 0 0)] 23)).drew) W2.heap.size (.slice (some ⟨W2.heap.size, 0, none⟩) 0 0) [] from OwnK.alloc (ownC_lit 1 23 W2.drew) _)
            have hoC := ownC_lit 1 23 (W2.drew.alloc (.cells #[(Value.slice fa 0 0)] 23))
            rw [World.size_alloc] at hoC
            have HOC := Lib.hid (show OwnC 1 23 (((W2.alloc (.cells #[(Value.slice fa 0 0)] 23)).alloc (.cells #[] 23)).drew) W2.heap.size (.slice (some ⟨W2.heap.size + 1, 0, none⟩) 0 0) [] from OwnK.weaken hoC (by show W2.heap.size ≤ W2.heap.size + 1; omega))
            have hkB := knew (W2.drew.alloc (.cells #[] 23)) (.cells #[(Value.slice fa 0 0)] 23)
            rw [World.size_alloc] at hkB
            have HKB := Lib.hid (show ((W2.alloc (.cells #[] 23)).alloc (.cells #[(Value.slice fa 0 0)] 23)).drew.heap[W2.heap.size + 1]? = some (.cells #[(Value.slice fa 0 0)] 23) from hkB)
            have HKC := Lib.hid (show ((W2.alloc (.cells #[(Value.slice fa 0 0)] 23)).alloc (.cells #[] 23)).drew.heap[W2.heap.size]? = some (.cells #[(Value.slice fa 0 0)] 23) from (Below.heap_alloc (W2.drew.alloc (.cells #[(Value.slice fa 0 0)] 23)) (.cells #[] 23) W2.heap.size (by simp)).trans (knew W2.drew (.cells #[(Value.slice fa 0 0)] 23)))
            have H4A := Lib.hid (step_append_h ((W2.alloc (.cells #[] 23)).drew) (.tmp 28) (.tmp 31) elem_nm1 (by decide) W2.heap.size (.slice (some ⟨W2.heap.size, 0, none⟩) 0 0) [] HOA.out (.slice a k c) (oneV (vs.take k)) (HTA.out.below HBA.out) oneV_one HC1.out HBA.out.size (by have := HNK.out; rw [oneV_len, HLK.out]; unfold maxLen; simp <;> omega) (by have := HNK.out; rw [oneV_len, HLK.out]; simp <;> omega))
            have H4B := Lib.hid (step_append_h (((W2.alloc (.cells #[] 23)).alloc (.cells #[(Value.slice fa 0 0)] 23)).drew) (.tmp 28) (.tmp 31) elem_nm1 (by decide) W2.heap.size (.slice (some ⟨W2.heap.size, 0, none⟩) 0 0) [] HOB.out (.slice a k c) (oneV (vs.take k)) (HTA.out.below HBB.out) oneV_one HC1.out HBB.out.size (by have := HNK.out; rw [oneV_len, HLK.out]; unfold maxLen; simp <;> omega) (by have := HNK.out; rw [oneV_len, HLK.out]; simp <;> omega))
            have H4C := Lib.hid (step_append_h (((W2.alloc (.cells #[(Value.slice fa 0 0)] 23)).alloc (.cells #[] 23)).drew) (.tmp 28) (.tmp 31) elem_nm1 (by decide) W2.heap.size (.slice (some ⟨W2.heap.size + 1, 0, none⟩) 0 0) [] HOC.out (.slice a k c) (oneV (vs.take k)) (HTA.out.below HBC.out) oneV_one HC1.out HBC.out.size (by have := HNK.out; rw [oneV_len, HLK.out]; unfold maxLen; simp <;> omega) (by have := HNK.out; rw [oneV_len, HLK.out]; simp <;> omega))
            clear hbd hbA hbB hbC hoC hkB
            go_wp2_with fail
            go_region_law (first
                | ((with_reducible refine H4A.out _ _ _ _ _ _ ?_ ?_ ?_ ?_ ?_); exact rfl; exact rfl; exact rfl; exact rfl; intro v4 w4 ho4 hg4; rw [List.nil_append] at ho4; have HO4 := Lib.hid ho4; have HB4 := Lib.hid (HBA.out.grown hg4 HBA.out.size (OwnK.base_le HOA.out)); have H10 := Lib.hid (step_append_h (w4.alloc (.cells #[(Value.slice fa 0 0)] 23)) (.tmp 32) (.tmp 36) elem_nm1 (by decide) W2.heap.size v4 (oneV (vs.take k)) (OwnK.alloc HO4.out _) (.slice (some ⟨w4.heap.size, 0, none⟩) 1 1) (oneV [(Value.slice fa 0 0)]) (slK_blk (css := oneV [(Value.slice fa 0 0)]) (knew w4 _)) oneV_one HX1.out (by have := HB4.out.size; simp <;> omega) (by have := HNK.out; rw [oneV_len, oneV_len, HLK.out]; unfold maxLen; simp <;> omega) (by have := HNK.out; rw [oneV_len, oneV_len, HLK.out]; simp <;> omega)); have H10B := Lib.hid (fun (w5 : World) (hg : World.grownBy (w4.alloc (.cells #[(Value.slice fa 0 0)] 23)) w5 v4.ownBlock) => ((HB4.out.alloc HB4.out.size _).grown hg (by have := HB4.out.size; simp <;> omega) (OwnK.base_le HO4.out))); clear ho4 hg4)
                | ((with_reducible refine H4B.out _ _ _ _ _ _ ?_ ?_ ?_ ?_ ?_); exact rfl; exact rfl; exact rfl; exact rfl; intro v4 w4 ho4 hg4; rw [List.nil_append] at ho4; have HO4 := Lib.hid ho4; have HB4 := Lib.hid (HBB.out.grown hg4 HBB.out.size (OwnK.base_le HOB.out)); have HBX := Lib.hid ((hg4.block (W2.heap.size + 1) (kblock_lt HKB.out) (by simp [Value.ownBlock])).trans HKB.out); have H10 := Lib.hid (step_append_h (w4) (.tmp 32) (.tmp 36) elem_nm1 (by decide) W2.heap.size v4 (oneV (vs.take k)) (HO4.out) (.slice (some ⟨W2.heap.size + 1, 0, none⟩) 1 1) (oneV [(Value.slice fa 0 0)]) (slK_blk (css := oneV [(Value.slice fa 0 0)]) HBX.out) oneV_one HX1.out (HB4.out.size) (by have := HNK.out; rw [oneV_len, oneV_len, HLK.out]; unfold maxLen; simp <;> omega) (by have := HNK.out; rw [oneV_len, oneV_len, HLK.out]; simp <;> omega)); have H10B := Lib.hid (fun (w5 : World) (hg : World.grownBy w4 w5 v4.ownBlock) => (HB4.out.grown hg HB4.out.size (OwnK.base_le HO4.out))); clear ho4 hg4)
                | ((with_reducible refine H4C.out _ _ _ _ _ _ ?_ ?_ ?_ ?_ ?_); exact rfl; exact rfl; exact rfl; exact rfl; intro v4 w4 ho4 hg4; rw [List.nil_append] at ho4; have HO4 := Lib.hid ho4; have HB4 := Lib.hid (HBC.out.grown hg4 HBC.out.size (OwnK.base_le HOC.out)); have HBX := Lib.hid ((hg4.block (W2.heap.size) (kblock_lt HKC.out) (by simp [Value.ownBlock])).trans HKC.out); have H10 := Lib.hid (step_append_h (w4) (.tmp 32) (.tmp 36) elem_nm1 (by decide) W2.heap.size v4 (oneV (vs.take k)) (HO4.out) (.slice (some ⟨W2.heap.size, 0, none⟩) 1 1) (oneV [(Value.slice fa 0 0)]) (slK_blk (css := oneV [(Value.slice fa 0 0)]) HBX.out) oneV_one HX1.out (HB4.out.size) (by have := HNK.out; rw [oneV_len, oneV_len, HLK.out]; unfold maxLen; simp <;> omega) (by have := HNK.out; rw [oneV_len, oneV_len, HLK.out]; simp <;> omega)); have H10B := Lib.hid (fun (w5 : World) (hg : World.grownBy w4 w5 v4.ownBlock) => (HB4.out.grown hg HB4.out.size (OwnK.base_le HO4.out))); clear ho4 hg4)
                | ((with_reducible refine H10.out _ _ _ _ _ _ ?_ ?_ ?_ ?_ ?_); exact rfl; exact rfl; exact rfl; exact rfl; intro v5 w5 ho5 hg5; have HO5 := Lib.hid ho5; have HB5 := Lib.hid (H10B.out w5 hg5); clear ho5 hg5))
            all_goals
              obtain ⟨a5, z5, e5⟩ := OwnK.shape HO5.out
              rw [List.length_append, oneV_len, oneV_len, HLK.out] at e5
              simp only [List.length_cons, List.length_nil, Nat.zero_add] at e5
              subst e5
              go_wp2_with fail
              go_meet
              exact ⟨_, _, rfl, HO5, HB5⟩
          case rest =>
          rename World => w5
          obtain ⟨a5, z5, rfl, HO5, HB5⟩ := hcut
          have HGP := Lib.hid (fun (w6 : World) (hb : Below W2.heap.size W2 w6) (v6 : Value) (ho : OwnC 1 23 w6 W2.heap.size v6 ((oneV (vs.take k) ++ oneV [(Value.slice fa 0 0)]) ++ oneV (vs.drop k))) => (by
            have he := (HE2.out.gap k (by rw [HYN.out]; exact hk) HM2.out).below hb
            rw [← oneV_app, ← oneV_app] at ho
            have hs := slAt_one (SlK.of_own ho oneV_one)
            obtain ⟨a6, c6, rfl⟩ := OwnK.shape ho
            have hlen : (oneV (vs.take k ++ [(Value.slice fa 0 0)] ++ vs.drop k)).length = n + 1 := by rw [oneV_len]; simp; have := HVL.out; omega
            rw [hlen] at hs ⊢
            exact ⟨a6, c6, rfl, by rw [oneV_len] at hlen; exact hlen, hs, he⟩ : ∃ a6 c6, v6 = .slice a6 (n + 1) c6 ∧ (vs.take k ++ [(Value.slice fa 0 0)] ++ vs.drop k).length = n + 1 ∧ SlAt w6 (.slice a6 (n + 1) c6) (vs.take k ++ [(Value.slice fa 0 0)] ++ vs.drop k) ∧ EvAt w6 (vs.take k ++ [(Value.slice fa 0 0)] ++ vs.drop k) (ys.take k ++ f.drop i :: ys.drop k)))
          rcases slAt_cut3 HS2.out hk with ⟨hck', hn', hm⟩ | ⟨hck', hn', hk0', ⟨ad', rfl⟩, hm⟩ | ⟨hck', hn', g', off', rfl, hm⟩
          · obtain rfl : k = n := by omega
            obtain rfl : k = c := by omega
            have HTD := Lib.hid (slK_one hm)
            clear hm
            go_wp2_with (at_builtin; refine wpl_append_slk w5 rfl (.tmp 38) (.tmp 41) elem_nm1 (by decide) rfl W2.heap.size (.slice a5 (k + 1) z5) _ rfl HO5.out (.slice a 0 0) (oneV (vs.drop k)) rfl (HTD.out.below HB5.out) oneV_one HD1.out HB5.out.size (by have := HNK.out; rw [List.length_append, oneV_len, oneV_len, oneV_len, HLK.out, HLD.out]; unfold maxLen; simp <;> omega) (by have := HNK.out; rw [List.length_append, oneV_len, oneV_len, oneV_len, HLK.out, HLD.out]; simp <;> omega) ?_; intro v6 w6 ho6 hg6)
            have HB6 := Lib.hid (HB5.out.grown hg6 HB5.out.size (OwnK.base_le HO5.out))
            obtain ⟨a6, c6, rfl, r1, r2, r3⟩ := HGP.out w6 HB6.out v6 ho6
            have R1 := Lib.hid r1; have R2 := Lib.hid r2; have R3 := Lib.hid r3
            clear ho6 hg6 r1 r2 r3
            go_roundw
            case measure => first | (simp [intOf]; done) | (simp [intOf]; omega)
            case rel => exact ⟨_, i + 1, a6, k + 1, c6, _, _, rfl, rfl, by go_num, by omega, by have h := HR.out.2.2.2; have h2 := R3.out.1; have h3 := R1.out; have := HXL.out; omega, (by
              obtain ⟨_, _, e, h, _⟩ := R2.out; injection e with _ e2 e3; rw [e2, e3]; exact h), R1, R2, R3, HR, Lib.hid (HB2.out.trans (HB6.out.mono HB2.out.size))⟩
          · subst hk0'
            subst hn'
            have HTD := Lib.hid (slK_one hm)
            clear hm
            go_wp2_with (at_builtin; refine wpl_append_slk w5 rfl (.tmp 38) (.tmp 41) elem_nm1 (by decide) rfl W2.heap.size (.slice a5 (0 + 1) z5) _ rfl HO5.out (.slice (some ad') 0 c) (oneV (vs.drop 0)) rfl (HTD.out.below HB5.out) oneV_one HD1.out HB5.out.size (by have := HNK.out; rw [List.length_append, oneV_len, oneV_len, oneV_len, HLK.out, HLD.out]; unfold maxLen; simp <;> omega) (by have := HNK.out; rw [List.length_append, oneV_len, oneV_len, oneV_len, HLK.out, HLD.out]; simp <;> omega) ?_; intro v6 w6 ho6 hg6)
            have HB6 := Lib.hid (HB5.out.grown hg6 HB5.out.size (OwnK.base_le HO5.out))
            obtain ⟨a6, c6, rfl, r1, r2, r3⟩ := HGP.out w6 HB6.out v6 ho6
            have R1 := Lib.hid r1; have R2 := Lib.hid r2; have R3 := Lib.hid r3
            clear ho6 hg6 r1 r2 r3
            go_roundw
            case measure => first | (simp [intOf]; done) | (simp [intOf]; omega)
            case rel => exact ⟨_, i + 1, a6, 0 + 1, c6, _, _, rfl, rfl, by go_num, by omega, by have h := HR.out.2.2.2; have h2 := R3.out.1; have h3 := R1.out; have := HXL.out; omega, (by
              obtain ⟨_, _, e, h, _⟩ := R2.out; injection e with _ e2 e3; rw [e2, e3]; exact h), R1, R2, R3, HR, Lib.hid (HB2.out.trans (HB6.out.mono HB2.out.size))⟩
          · have HTD := Lib.hid (slK_one hm)
            clear hm
            go_wp2_with (at_builtin; refine wpl_append_slk w5 rfl (.tmp 38) (.tmp 41) elem_nm1 (by decide) rfl W2.heap.size (.slice a5 (k + 1) z5) _ rfl HO5.out (.slice (some ⟨g', off' + k, none⟩) (n - k) (c - k)) (oneV (vs.drop k)) rfl (HTD.out.below HB5.out) oneV_one HD1.out HB5.out.size (by have := HNK.out; rw [List.length_append, oneV_len, oneV_len, oneV_len, HLK.out, HLD.out]; unfold maxLen; simp <;> omega) (by have := HNK.out; rw [List.length_append, oneV_len, oneV_len, oneV_len, HLK.out, HLD.out]; simp <;> omega) ?_; intro v6 w6 ho6 hg6)
            have HB6 := Lib.hid (HB5.out.grown hg6 HB5.out.size (OwnK.base_le HO5.out))
            obtain ⟨a6, c6, rfl, r1, r2, r3⟩ := HGP.out w6 HB6.out v6 ho6
            have R1 := Lib.hid r1; have R2 := Lib.hid r2; have R3 := Lib.hid r3
            clear ho6 hg6 r1 r2 r3
            go_roundw
            case measure => first | (simp [intOf]; done) | (simp [intOf]; omega)
            case rel => exact ⟨_, i + 1, a6, n + 1, c6, _, _, rfl, rfl, by go_num, by omega, by have h := HR.out.2.2.2; have h2 := R3.out.1; have h3 := R1.out; have := HXL.out; omega, (by
              obtain ⟨_, _, e, h, _⟩ := R2.out; injection e with _ e2 e3; rw [e2, e3]; exact h), R1, R2, R3, HR, Lib.hid (HB2.out.trans (HB6.out.mono HB2.out.size))⟩
      · subst hk0
        subst hq0
        have hpl := HPL.out _ hm
        have HM := Lib.hid hm
        clear HPL hm
        go_wp2_with fail
        refine hpl.mono ?_
        rintro e W2 ⟨k, ok, rfl, hb2, hk, hkt, hkf⟩
        rw [HYN.out] at hk
        have HB2 := Lib.hid (HB.out.trans (hb2.mono HB.out.size))
        have HS2 := Lib.hid (HS.out.below hb2); have HE2 := Lib.hid (HE.out.below hb2); have HM2 := Lib.hid (HM.out.below hb2)
        have HKT := Lib.hid hkt; have HKF := Lib.hid hkf
        clear hb2 hkt hkf hpl HB HS HE HM
        cases ok with
        | true =>
          have HR := Lib.hid (show AddI xs f (f.length + 1) ys by
            obtain ⟨h1, h2⟩ := HKT.out rfl
            exact HI.out.hit HCL.out HFF.out (by rw [HNF.out]; omega) h1 h2)
          have HW := Lib.hid (HB1.out.trans (HB2.out.mono HB1.out.size))
          go_wp2
          go_ret
          exact ⟨_, ys, rfl, HE2.out.nms HS2.out, HR.out, HW.out⟩
        | false =>
          have HR := Lib.hid (show AddI xs f (0 + 1) (ys.take k ++ f.drop 0 :: ys.drop k) from HI.out.gap HFF.out HFO.out (by rw [HYN.out]; exact hk) (HKF.out rfl).1 (HKF.out rfl).2)
          have HTA := Lib.hid (slK_one (slAt_take HS2.out k hk))
          have HLK := Lib.hid (show (vs.take k).length = k by rw [List.length_take]; have := HVL.out; omega)
          have HLD := Lib.hid (show (vs.drop k).length = n - k by rw [List.length_drop]; have := HVL.out; omega)
          have HC1 := Lib.hid (oneV_cell (vs := vs.take k) (fun x hx => HE2.out.one x (List.mem_of_mem_take hx)))
          have HD1 := Lib.hid (oneV_cell (vs := vs.drop k) (fun x hx => HE2.out.one x (List.mem_of_mem_drop hx)))
          have HX1 := Lib.hid (show ∀ cs ∈ oneV [(Value.slice (some ad) 0 fc)], ∀ u ∈ cs, u.oneCell' = true from oneV_cell (by intro x hx; rw [List.mem_singleton.1 hx]; rfl))
          have hk0 : (0 : Int) ≤ (k : Int) := by omega
          have hkm1 : (k : Int) ≤ (n : Int) := by omega
          have hkc1 : (k : Int) ≤ (c : Int) := by omega
          have hmc1 : (n : Int) ≤ (c : Int) := by omega
          have HNK := Lib.hid (show k ≤ 1000000 ∧ n ≤ 1000000 by omega)
          go_upto_region 8 with (fail)
          go_cut [9] (fun v wx => ∃ (a6 : Option Addr) (c6 : Nat), v = .slice a6 (k + 1) c6 ∧ Hid (OwnC 1 23 wx W2.heap.size (.slice a6 (k + 1) c6) (oneV (vs.take k) ++ oneV [(Value.slice (some ad) 0 fc)])) ∧ Hid (Below W2.heap.size W2 wx))
          case first =>
            have hbd : Below W2.heap.size W2 W2.drew := ⟨rfl, rfl, rfl, Nat.le_refl _, fun _ _ => rfl⟩
            have hbA : Below W2.heap.size W2 (W2.alloc (.cells #[] 23)).drew := hbd.alloc (Nat.le_refl _) _
            have hbB : Below W2.heap.size W2 ((W2.alloc (.cells #[] 23)).alloc (.cells #[(Value.slice (some ad) 0 fc)] 23)).drew := hbA.alloc (by simp) _
            have hbC : Below W2.heap.size W2 ((W2.alloc (.cells #[(Value.slice (some ad) 0 fc)] 23)).alloc (.cells #[] 23)).drew := (hbd.alloc (Nat.le_refl _) _).alloc (by simp) _
            have HBA := Lib.hid hbA; have HBB := Lib.hid hbB; have HBC := Lib.hid hbC
            have HOA := Lib.hid (show OwnC 1 23 ((W2.alloc (.cells #[] 23)).drew) W2.heap.size (.slice (some ⟨W2.heap.size, 0, none⟩) 0 0) [] from ownC_lit 1 23 W2.drew)
            have HOB := Lib.hid (show OwnC 1 23 (((W2.alloc (.cells #[] 23)).alloc (.cells #[(Value.slice (some ad) 0 fc)] 23)).drew) W2.heap.size (.slice (some ⟨W2.heap.size, 0, none⟩) 0 0) [] from OwnK.alloc (ownC_lit 1 23 W2.drew) _)
            have hoC := ownC_lit 1 23 (W2.drew.alloc (.cells #[(Value.slice (some ad) 0 fc)] 23))
            rw [World.size_alloc] at hoC
            have HOC := Lib.hid (show OwnC 1 23 (((W2.alloc (.cells #[(Value.slice (some ad) 0 fc)] 23)).alloc (.cells #[] 23)).drew) W2.heap.size (.slice (some ⟨W2.heap.size + 1, 0, none⟩) 0 0) [] from OwnK.weaken hoC (by show W2.heap.size ≤ W2.heap.size + 1; omega))
            have hkB := knew (W2.drew.alloc (.cells #[] 23)) (.cells #[(Value.slice (some ad) 0 fc)] 23)
            rw [World.size_alloc] at hkB
            have HKB := Lib.hid (show ((W2.alloc (.cells #[] 23)).alloc (.cells #[(Value.slice (some ad) 0 fc)] 23)).drew.heap[W2.heap.size + 1]? = some (.cells #[(Value.slice (some ad) 0 fc)] 23) from hkB)
            have HKC := Lib.hid (show ((W2.alloc (.cells #[(Value.slice (some ad) 0 fc)] 23)).alloc (.cells #[] 23)).drew.heap[W2.heap.size]? = some (.cells #[(Value.slice (some ad) 0 fc)] 23) from (Below.heap_alloc (W2.drew.alloc (.cells #[(Value.slice (some ad) 0 fc)] 23)) (.cells #[] 23) W2.heap.size (by simp)).trans (knew W2.drew (.cells #[(Value.slice (some ad) 0 fc)] 23)))
            have H4A := Lib.hid (step_append_h ((W2.alloc (.cells #[] 23)).drew) (.tmp 28) (.tmp 31) elem_nm1 (by decide) W2.heap.size (.slice (some ⟨W2.heap.size, 0, none⟩) 0 0) [] HOA.out (.slice a k c) (oneV (vs.take k)) (HTA.out.below HBA.out) oneV_one HC1.out HBA.out.size (by have := HNK.out; rw [oneV_len, HLK.out]; unfold maxLen; simp <;> omega) (by have := HNK.out; rw [oneV_len, HLK.out]; simp <;> omega))
            have H4B := Lib.hid (step_append_h (((W2.alloc (.cells #[] 23)).alloc (.cells #[(Value.slice (some ad) 0 fc)] 23)).drew) (.tmp 28) (.tmp 31) elem_nm1 (by decide) W2.heap.size (.slice (some ⟨W2.heap.size, 0, none⟩) 0 0) [] HOB.out (.slice a k c) (oneV (vs.take k)) (HTA.out.below HBB.out) oneV_one HC1.out HBB.out.size (by have := HNK.out; rw [oneV_len, HLK.out]; unfold maxLen; simp <;> omega) (by have := HNK.out; rw [oneV_len, HLK.out]; simp <;> omega))
            have H4C := Lib.hid (step_append_h (((W2.alloc (.cells #[(Value.slice (some ad) 0 fc)] 23)).alloc (.cells #[] 23)).drew) (.tmp 28) (.tmp 31) elem_nm1 (by decide) W2.heap.size (.slice (some ⟨W2.heap.size + 1, 0, none⟩) 0 0) [] HOC.out (.slice a k c) (oneV (vs.take k)) (HTA.out.below HBC.out) oneV_one HC1.out HBC.out.size (by have := HNK.out; rw [oneV_len, HLK.out]; unfold maxLen; simp <;> omega) (by have := HNK.out; rw [oneV_len, HLK.out]; simp <;> omega))
            clear hbd hbA hbB hbC hoC hkB
            go_wp2_with fail
            go_region_law (first
                | ((with_reducible refine H4A.out _ _ _ _ _ _ ?_ ?_ ?_ ?_ ?_); exact rfl; exact rfl; exact rfl; exact rfl; intro v4 w4 ho4 hg4; rw [List.nil_append] at ho4; have HO4 := Lib.hid ho4; have HB4 := Lib.hid (HBA.out.grown hg4 HBA.out.size (OwnK.base_le HOA.out)); have H10 := Lib.hid (step_append_h (w4.alloc (.cells #[(Value.slice (some ad) 0 fc)] 23)) (.tmp 32) (.tmp 36) elem_nm1 (by decide) W2.heap.size v4 (oneV (vs.take k)) (OwnK.alloc HO4.out _) (.slice (some ⟨w4.heap.size, 0, none⟩) 1 1) (oneV [(Value.slice (some ad) 0 fc)]) (slK_blk (css := oneV [(Value.slice (some ad) 0 fc)]) (knew w4 _)) oneV_one HX1.out (by have := HB4.out.size; simp <;> omega) (by have := HNK.out; rw [oneV_len, oneV_len, HLK.out]; unfold maxLen; simp <;> omega) (by have := HNK.out; rw [oneV_len, oneV_len, HLK.out]; simp <;> omega)); have H10B := Lib.hid (fun (w5 : World) (hg : World.grownBy (w4.alloc (.cells #[(Value.slice (some ad) 0 fc)] 23)) w5 v4.ownBlock) => ((HB4.out.alloc HB4.out.size _).grown hg (by have := HB4.out.size; simp <;> omega) (OwnK.base_le HO4.out))); clear ho4 hg4)
                | ((with_reducible refine H4B.out _ _ _ _ _ _ ?_ ?_ ?_ ?_ ?_); exact rfl; exact rfl; exact rfl; exact rfl; intro v4 w4 ho4 hg4; rw [List.nil_append] at ho4; have HO4 := Lib.hid ho4; have HB4 := Lib.hid (HBB.out.grown hg4 HBB.out.size (OwnK.base_le HOB.out)); have HBX := Lib.hid ((hg4.block (W2.heap.size + 1) (kblock_lt HKB.out) (by simp [Value.ownBlock])).trans HKB.out); have H10 := Lib.hid (step_append_h (w4) (.tmp 32) (.tmp 36) elem_nm1 (by decide) W2.heap.size v4 (oneV (vs.take k)) (HO4.out) (.slice (some ⟨W2.heap.size + 1, 0, none⟩) 1 1) (oneV [(Value.slice (some ad) 0 fc)]) (slK_blk (css := oneV [(Value.slice (some ad) 0 fc)]) HBX.out) oneV_one HX1.out (HB4.out.size) (by have := HNK.out; rw [oneV_len, oneV_len, HLK.out]; unfold maxLen; simp <;> omega) (by have := HNK.out; rw [oneV_len, oneV_len, HLK.out]; simp <;> omega)); have H10B := Lib.hid (fun (w5 : World) (hg : World.grownBy w4 w5 v4.ownBlock) => (HB4.out.grown hg HB4.out.size (OwnK.base_le HO4.out))); clear ho4 hg4)
                | ((with_reducible refine H4C.out _ _ _ _ _ _ ?_ ?_ ?_ ?_ ?_); exact rfl; exact rfl; exact rfl; exact rfl; intro v4 w4 ho4 hg4; rw [List.nil_append] at ho4; have HO4 := Lib.hid ho4; have HB4 := Lib.hid (HBC.out.grown hg4 HBC.out.size (OwnK.base_le HOC.out)); have HBX := Lib.hid ((hg4.block (W2.heap.size) (kblock_lt HKC.out) (by simp [Value.ownBlock])).trans HKC.out); have H10 := Lib.hid (step_append_h (w4) (.tmp 32) (.tmp 36) elem_nm1 (by decide) W2.heap.size v4 (oneV (vs.take k)) (HO4.out) (.slice (some ⟨W2.heap.size, 0, none⟩) 1 1) (oneV [(Value.slice (some ad) 0 fc)]) (slK_blk (css := oneV [(Value.slice (some ad) 0 fc)]) HBX.out) oneV_one HX1.out (HB4.out.size) (by have := HNK.out; rw [oneV_len, oneV_len, HLK.out]; unfold maxLen; simp <;> omega) (by have := HNK.out; rw [oneV_len, oneV_len, HLK.out]; simp <;> omega)); have H10B := Lib.hid (fun (w5 : World) (hg : World.grownBy w4 w5 v4.ownBlock) => (HB4.out.grown hg HB4.out.size (OwnK.base_le HO4.out))); clear ho4 hg4)
                | ((with_reducible refine H10.out _ _ _ _ _ _ ?_ ?_ ?_ ?_ ?_); exact rfl; exact rfl; exact rfl; exact rfl; intro v5 w5 ho5 hg5; have HO5 := Lib.hid ho5; have HB5 := Lib.hid (H10B.out w5 hg5); clear ho5 hg5))
            all_goals
              obtain ⟨a5, z5, e5⟩ := OwnK.shape HO5.out
              rw [List.length_append, oneV_len, oneV_len, HLK.out] at e5
              simp only [List.length_cons, List.length_nil, Nat.zero_add] at e5
              subst e5
              go_wp2_with fail
              go_meet
              exact ⟨_, _, rfl, HO5, HB5⟩
          case rest =>
          rename World => w5
          obtain ⟨a5, z5, rfl, HO5, HB5⟩ := hcut
          have HGP := Lib.hid (fun (w6 : World) (hb : Below W2.heap.size W2 w6) (v6 : Value) (ho : OwnC 1 23 w6 W2.heap.size v6 ((oneV (vs.take k) ++ oneV [(Value.slice (some ad) 0 fc)]) ++ oneV (vs.drop k))) => (by
            have he := (HE2.out.gap k (by rw [HYN.out]; exact hk) HM2.out).below hb
            rw [← oneV_app, ← oneV_app] at ho
            have hs := slAt_one (SlK.of_own ho oneV_one)
            obtain ⟨a6, c6, rfl⟩ := OwnK.shape ho
            have hlen : (oneV (vs.take k ++ [(Value.slice (some ad) 0 fc)] ++ vs.drop k)).length = n + 1 := by rw [oneV_len]; simp; have := HVL.out; omega
            rw [hlen] at hs ⊢
            exact ⟨a6, c6, rfl, by rw [oneV_len] at hlen; exact hlen, hs, he⟩ : ∃ a6 c6, v6 = .slice a6 (n + 1) c6 ∧ (vs.take k ++ [(Value.slice (some ad) 0 fc)] ++ vs.drop k).length = n + 1 ∧ SlAt w6 (.slice a6 (n + 1) c6) (vs.take k ++ [(Value.slice (some ad) 0 fc)] ++ vs.drop k) ∧ EvAt w6 (vs.take k ++ [(Value.slice (some ad) 0 fc)] ++ vs.drop k) (ys.take k ++ f.drop 0 :: ys.drop k)))
          rcases slAt_cut3 HS2.out hk with ⟨hck', hn', hm⟩ | ⟨hck', hn', hk0', ⟨ad', rfl⟩, hm⟩ | ⟨hck', hn', g', off', rfl, hm⟩
          · obtain rfl : k = n := by omega
            obtain rfl : k = c := by omega
            have HTD := Lib.hid (slK_one hm)
            clear hm
            go_wp2_with (at_builtin; refine wpl_append_slk w5 rfl (.tmp 38) (.tmp 41) elem_nm1 (by decide) rfl W2.heap.size (.slice a5 (k + 1) z5) _ rfl HO5.out (.slice a 0 0) (oneV (vs.drop k)) rfl (HTD.out.below HB5.out) oneV_one HD1.out HB5.out.size (by have := HNK.out; rw [List.length_append, oneV_len, oneV_len, oneV_len, HLK.out, HLD.out]; unfold maxLen; simp <;> omega) (by have := HNK.out; rw [List.length_append, oneV_len, oneV_len, oneV_len, HLK.out, HLD.out]; simp <;> omega) ?_; intro v6 w6 ho6 hg6)
            have HB6 := Lib.hid (HB5.out.grown hg6 HB5.out.size (OwnK.base_le HO5.out))
            obtain ⟨a6, c6, rfl, r1, r2, r3⟩ := HGP.out w6 HB6.out v6 ho6
            have R1 := Lib.hid r1; have R2 := Lib.hid r2; have R3 := Lib.hid r3
            clear ho6 hg6 r1 r2 r3
            go_roundw
            case measure => first | (simp [intOf]; done) | (simp [intOf]; omega)
            case rel => exact ⟨_, 0 + 1, a6, k + 1, c6, _, _, rfl, rfl, by go_num, by omega, by have h := HR.out.2.2.2; have h2 := R3.out.1; have h3 := R1.out; have := HXL.out; omega, (by
              obtain ⟨_, _, e, h, _⟩ := R2.out; injection e with _ e2 e3; rw [e2, e3]; exact h), R1, R2, R3, HR, Lib.hid (HB2.out.trans (HB6.out.mono HB2.out.size))⟩
          · subst hk0'
            subst hn'
            have HTD := Lib.hid (slK_one hm)
            clear hm
            go_wp2_with (at_builtin; refine wpl_append_slk w5 rfl (.tmp 38) (.tmp 41) elem_nm1 (by decide) rfl W2.heap.size (.slice a5 (0 + 1) z5) _ rfl HO5.out (.slice (some ad') 0 c) (oneV (vs.drop 0)) rfl (HTD.out.below HB5.out) oneV_one HD1.out HB5.out.size (by have := HNK.out; rw [List.length_append, oneV_len, oneV_len, oneV_len, HLK.out, HLD.out]; unfold maxLen; simp <;> omega) (by have := HNK.out; rw [List.length_append, oneV_len, oneV_len, oneV_len, HLK.out, HLD.out]; simp <;> omega) ?_; intro v6 w6 ho6 hg6)
            have HB6 := Lib.hid (HB5.out.grown hg6 HB5.out.size (OwnK.base_le HO5.out))
            obtain ⟨a6, c6, rfl, r1, r2, r3⟩ := HGP.out w6 HB6.out v6 ho6
            have R1 := Lib.hid r1; have R2 := Lib.hid r2; have R3 := Lib.hid r3
            clear ho6 hg6 r1 r2 r3
            go_roundw
            case measure => first | (simp [intOf]; done) | (simp [intOf]; omega)
            case rel => exact ⟨_, 0 + 1, a6, 0 + 1, c6, _, _, rfl, rfl, by go_num, by omega, by have h := HR.out.2.2.2; have h2 := R3.out.1; have h3 := R1.out; have := HXL.out; omega, (by
              obtain ⟨_, _, e, h, _⟩ := R2.out; injection e with _ e2 e3; rw [e2, e3]; exact h), R1, R2, R3, HR, Lib.hid (HB2.out.trans (HB6.out.mono HB2.out.size))⟩
          · have HTD := Lib.hid (slK_one hm)
            clear hm
            go_wp2_with (at_builtin; refine wpl_append_slk w5 rfl (.tmp 38) (.tmp 41) elem_nm1 (by decide) rfl W2.heap.size (.slice a5 (k + 1) z5) _ rfl HO5.out (.slice (some ⟨g', off' + k, none⟩) (n - k) (c - k)) (oneV (vs.drop k)) rfl (HTD.out.below HB5.out) oneV_one HD1.out HB5.out.size (by have := HNK.out; rw [List.length_append, oneV_len, oneV_len, oneV_len, HLK.out, HLD.out]; unfold maxLen; simp <;> omega) (by have := HNK.out; rw [List.length_append, oneV_len, oneV_len, oneV_len, HLK.out, HLD.out]; simp <;> omega) ?_; intro v6 w6 ho6 hg6)
            have HB6 := Lib.hid (HB5.out.grown hg6 HB5.out.size (OwnK.base_le HO5.out))
            obtain ⟨a6, c6, rfl, r1, r2, r3⟩ := HGP.out w6 HB6.out v6 ho6
            have R1 := Lib.hid r1; have R2 := Lib.hid r2; have R3 := Lib.hid r3
            clear ho6 hg6 r1 r2 r3
            go_roundw
            case measure => first | (simp [intOf]; done) | (simp [intOf]; omega)
            case rel => exact ⟨_, 0 + 1, a6, n + 1, c6, _, _, rfl, rfl, by go_num, by omega, by have h := HR.out.2.2.2; have h2 := R3.out.1; have h3 := R1.out; have := HXL.out; omega, (by
              obtain ⟨_, _, e, h, _⟩ := R2.out; injection e with _ e2 e3; rw [e2, e3]; exact h), R1, R2, R3, HR, Lib.hid (HB2.out.trans (HB6.out.mono HB2.out.size))⟩
      · have hifc : (i : Int) ≤ (fc : Int) := by have := nmc_cap HFN.out; omega
        have hpl := HPL.out _ hm
        have HM := Lib.hid hm
        clear HPL hm
        go_wp2_with fail
        refine hpl.mono ?_
        rintro e W2 ⟨k, ok, rfl, hb2, hk, hkt, hkf⟩
        rw [HYN.out] at hk
        have HB2 := Lib.hid (HB.out.trans (hb2.mono HB.out.size))
        have HS2 := Lib.hid (HS.out.below hb2); have HE2 := Lib.hid (HE.out.below hb2); have HM2 := Lib.hid (HM.out.below hb2)
        have HKT := Lib.hid hkt; have HKF := Lib.hid hkf
        clear hb2 hkt hkf hpl HB HS HE HM
        cases ok with
        | true =>
          have HR := Lib.hid (show AddI xs f (f.length + 1) ys by
            obtain ⟨h1, h2⟩ := HKT.out rfl
            exact HI.out.hit HCL.out HFF.out (by rw [HNF.out]; omega) h1 h2)
          have HW := Lib.hid (HB1.out.trans (HB2.out.mono HB1.out.size))
          go_wp2
          go_ret
          exact ⟨_, ys, rfl, HE2.out.nms HS2.out, HR.out, HW.out⟩
        | false =>
          have HR := Lib.hid (show AddI xs f (i + 1) (ys.take k ++ f.drop i :: ys.drop k) from HI.out.gap HFF.out HFO.out (by rw [HYN.out]; exact hk) (HKF.out rfl).1 (HKF.out rfl).2)
          have HTA := Lib.hid (slK_one (slAt_take HS2.out k hk))
          have HLK := Lib.hid (show (vs.take k).length = k by rw [List.length_take]; have := HVL.out; omega)
          have HLD := Lib.hid (show (vs.drop k).length = n - k by rw [List.length_drop]; have := HVL.out; omega)
          have HC1 := Lib.hid (oneV_cell (vs := vs.take k) (fun x hx => HE2.out.one x (List.mem_of_mem_take hx)))
          have HD1 := Lib.hid (oneV_cell (vs := vs.drop k) (fun x hx => HE2.out.one x (List.mem_of_mem_drop hx)))
          have HX1 := Lib.hid (show ∀ cs ∈ oneV [(Value.slice (some ⟨g, off + i, none⟩) (nf - i) (fc - i))], ∀ u ∈ cs, u.oneCell' = true from oneV_cell (by intro x hx; rw [List.mem_singleton.1 hx]; rfl))
          have hk0 : (0 : Int) ≤ (k : Int) := by omega
          have hkm1 : (k : Int) ≤ (n : Int) := by omega
          have hkc1 : (k : Int) ≤ (c : Int) := by omega
          have hmc1 : (n : Int) ≤ (c : Int) := by omega
          have HNK := Lib.hid (show k ≤ 1000000 ∧ n ≤ 1000000 by omega)
          go_upto_region 8 with (fail)
          go_cut [9] (fun v wx => ∃ (a6 : Option Addr) (c6 : Nat), v = .slice a6 (k + 1) c6 ∧ Hid (OwnC 1 23 wx W2.heap.size (.slice a6 (k + 1) c6) (oneV (vs.take k) ++ oneV [(Value.slice (some ⟨g, off + i, none⟩) (nf - i) (fc - i))])) ∧ Hid (Below W2.heap.size W2 wx))
          case first =>
            have hbd : Below W2.heap.size W2 W2.drew := ⟨rfl, rfl, rfl, Nat.le_refl _, fun _ _ => rfl⟩
            have hbA : Below W2.heap.size W2 (W2.alloc (.cells #[] 23)).drew := hbd.alloc (Nat.le_refl _) _
            have hbB : Below W2.heap.size W2 ((W2.alloc (.cells #[] 23)).alloc (.cells #[(Value.slice (some ⟨g, off + i, none⟩) (nf - i) (fc - i))] 23)).drew := hbA.alloc (by simp) _
            have hbC : Below W2.heap.size W2 ((W2.alloc (.cells #[(Value.slice (some ⟨g, off + i, none⟩) (nf - i) (fc - i))] 23)).alloc (.cells #[] 23)).drew := (hbd.alloc (Nat.le_refl _) _).alloc (by simp) _
            have HBA := Lib.hid hbA; have HBB := Lib.hid hbB; have HBC := Lib.hid hbC
            have HOA := Lib.hid (show OwnC 1 23 ((W2.alloc (.cells #[] 23)).drew) W2.heap.size (.slice (some ⟨W2.heap.size, 0, none⟩) 0 0) [] from ownC_lit 1 23 W2.drew)
            have HOB := Lib.hid (show OwnC 1 23 (((W2.alloc (.cells #[] 23)).alloc (.cells #[(Value.slice (some ⟨g, off + i, none⟩) (nf - i) (fc - i))] 23)).drew) W2.heap.size (.slice (some ⟨W2.heap.size, 0, none⟩) 0 0) [] from OwnK.alloc (ownC_lit 1 23 W2.drew) _)
            have hoC := ownC_lit 1 23 (W2.drew.alloc (.cells #[(Value.slice (some ⟨g, off + i, none⟩) (nf - i) (fc - i))] 23))
            rw [World.size_alloc] at hoC
            have HOC := Lib.hid (show OwnC 1 23 (((W2.alloc (.cells #[(Value.slice (some ⟨g, off + i, none⟩) (nf - i) (fc - i))] 23)).alloc (.cells #[] 23)).drew) W2.heap.size (.slice (some ⟨W2.heap.size + 1, 0, none⟩) 0 0) [] from OwnK.weaken hoC (by show W2.heap.size ≤ W2.heap.size + 1; omega))
            have hkB := knew (W2.drew.alloc (.cells #[] 23)) (.cells #[(Value.slice (some ⟨g, off + i, none⟩) (nf - i) (fc - i))] 23)
            rw [World.size_alloc] at hkB
            have HKB := Lib.hid (show ((W2.alloc (.cells #[] 23)).alloc (.cells #[(Value.slice (some ⟨g, off + i, none⟩) (nf - i) (fc - i))] 23)).drew.heap[W2.heap.size + 1]? = some (.cells #[(Value.slice (some ⟨g, off + i, none⟩) (nf - i) (fc - i))] 23) from hkB)
            have HKC := Lib.hid (show ((W2.alloc (.cells #[(Value.slice (some ⟨g, off + i, none⟩) (nf - i) (fc - i))] 23)).alloc (.cells #[] 23)).drew.heap[W2.heap.size]? = some (.cells #[(Value.slice (some ⟨g, off + i, none⟩) (nf - i) (fc - i))] 23) from (Below.heap_alloc (W2.drew.alloc (.cells #[(Value.slice (some ⟨g, off + i, none⟩) (nf - i) (fc - i))] 23)) (.cells #[] 23) W2.heap.size (by simp)).trans (knew W2.drew (.cells #[(Value.slice (some ⟨g, off + i, none⟩) (nf - i) (fc - i))] 23)))
            have H4A := Lib.hid (step_append_h ((W2.alloc (.cells #[] 23)).drew) (.tmp 28) (.tmp 31) elem_nm1 (by decide) W2.heap.size (.slice (some ⟨W2.heap.size, 0, none⟩) 0 0) [] HOA.out (.slice a k c) (oneV (vs.take k)) (HTA.out.below HBA.out) oneV_one HC1.out HBA.out.size (by have := HNK.out; rw [oneV_len, HLK.out]; unfold maxLen; simp <;> omega) (by have := HNK.out; rw [oneV_len, HLK.out]; simp <;> omega))
            have H4B := Lib.hid (step_append_h (((W2.alloc (.cells #[] 23)).alloc (.cells #[(Value.slice (some ⟨g, off + i, none⟩) (nf - i) (fc - i))] 23)).drew) (.tmp 28) (.tmp 31) elem_nm1 (by decide) W2.heap.size (.slice (some ⟨W2.heap.size, 0, none⟩) 0 0) [] HOB.out (.slice a k c) (oneV (vs.take k)) (HTA.out.below HBB.out) oneV_one HC1.out HBB.out.size (by have := HNK.out; rw [oneV_len, HLK.out]; unfold maxLen; simp <;> omega) (by have := HNK.out; rw [oneV_len, HLK.out]; simp <;> omega))
            have H4C := Lib.hid (step_append_h (((W2.alloc (.cells #[(Value.slice (some ⟨g, off + i, none⟩) (nf - i) (fc - i))] 23)).alloc (.cells #[] 23)).drew) (.tmp 28) (.tmp 31) elem_nm1 (by decide) W2.heap.size (.slice (some ⟨W2.heap.size + 1, 0, none⟩) 0 0) [] HOC.out (.slice a k c) (oneV (vs.take k)) (HTA.out.below HBC.out) oneV_one HC1.out HBC.out.size (by have := HNK.out; rw [oneV_len, HLK.out]; unfold maxLen; simp <;> omega) (by have := HNK.out; rw [oneV_len, HLK.out]; simp <;> omega))
            clear hbd hbA hbB hbC hoC hkB
            go_wp2_with fail
            go_region_law (first
                | ((with_reducible refine H4A.out _ _ _ _ _ _ ?_ ?_ ?_ ?_ ?_); exact rfl; exact rfl; exact rfl; exact rfl; intro v4 w4 ho4 hg4; rw [List.nil_append] at ho4; have HO4 := Lib.hid ho4; have HB4 := Lib.hid (HBA.out.grown hg4 HBA.out.size (OwnK.base_le HOA.out)); have H10 := Lib.hid (step_append_h (w4.alloc (.cells #[(Value.slice (some ⟨g, off + i, none⟩) (nf - i) (fc - i))] 23)) (.tmp 32) (.tmp 36) elem_nm1 (by decide) W2.heap.size v4 (oneV (vs.take k)) (OwnK.alloc HO4.out _) (.slice (some ⟨w4.heap.size, 0, none⟩) 1 1) (oneV [(Value.slice (some ⟨g, off + i, none⟩) (nf - i) (fc - i))]) (slK_blk (css := oneV [(Value.slice (some ⟨g, off + i, none⟩) (nf - i) (fc - i))]) (knew w4 _)) oneV_one HX1.out (by have := HB4.out.size; simp <;> omega) (by have := HNK.out; rw [oneV_len, oneV_len, HLK.out]; unfold maxLen; simp <;> omega) (by have := HNK.out; rw [oneV_len, oneV_len, HLK.out]; simp <;> omega)); have H10B := Lib.hid (fun (w5 : World) (hg : World.grownBy (w4.alloc (.cells #[(Value.slice (some ⟨g, off + i, none⟩) (nf - i) (fc - i))] 23)) w5 v4.ownBlock) => ((HB4.out.alloc HB4.out.size _).grown hg (by have := HB4.out.size; simp <;> omega) (OwnK.base_le HO4.out))); clear ho4 hg4)
                | ((with_reducible refine H4B.out _ _ _ _ _ _ ?_ ?_ ?_ ?_ ?_); exact rfl; exact rfl; exact rfl; exact rfl; intro v4 w4 ho4 hg4; rw [List.nil_append] at ho4; have HO4 := Lib.hid ho4; have HB4 := Lib.hid (HBB.out.grown hg4 HBB.out.size (OwnK.base_le HOB.out)); have HBX := Lib.hid ((hg4.block (W2.heap.size + 1) (kblock_lt HKB.out) (by simp [Value.ownBlock])).trans HKB.out); have H10 := Lib.hid (step_append_h (w4) (.tmp 32) (.tmp 36) elem_nm1 (by decide) W2.heap.size v4 (oneV (vs.take k)) (HO4.out) (.slice (some ⟨W2.heap.size + 1, 0, none⟩) 1 1) (oneV [(Value.slice (some ⟨g, off + i, none⟩) (nf - i) (fc - i))]) (slK_blk (css := oneV [(Value.slice (some ⟨g, off + i, none⟩) (nf - i) (fc - i))]) HBX.out) oneV_one HX1.out (HB4.out.size) (by have := HNK.out; rw [oneV_len, oneV_len, HLK.out]; unfold maxLen; simp <;> omega) (by have := HNK.out; rw [oneV_len, oneV_len, HLK.out]; simp <;> omega)); have H10B := Lib.hid (fun (w5 : World) (hg : World.grownBy w4 w5 v4.ownBlock) => (HB4.out.grown hg HB4.out.size (OwnK.base_le HO4.out))); clear ho4 hg4)
                | ((with_reducible refine H4C.out _ _ _ _ _ _ ?_ ?_ ?_ ?_ ?_); exact rfl; exact rfl; exact rfl; exact rfl; intro v4 w4 ho4 hg4; rw [List.nil_append] at ho4; have HO4 := Lib.hid ho4; have HB4 := Lib.hid (HBC.out.grown hg4 HBC.out.size (OwnK.base_le HOC.out)); have HBX := Lib.hid ((hg4.block (W2.heap.size) (kblock_lt HKC.out) (by simp [Value.ownBlock])).trans HKC.out); have H10 := Lib.hid (step_append_h (w4) (.tmp 32) (.tmp 36) elem_nm1 (by decide) W2.heap.size v4 (oneV (vs.take k)) (HO4.out) (.slice (some ⟨W2.heap.size, 0, none⟩) 1 1) (oneV [(Value.slice (some ⟨g, off + i, none⟩) (nf - i) (fc - i))]) (slK_blk (css := oneV [(Value.slice (some ⟨g, off + i, none⟩) (nf - i) (fc - i))]) HBX.out) oneV_one HX1.out (HB4.out.size) (by have := HNK.out; rw [oneV_len, oneV_len, HLK.out]; unfold maxLen; simp <;> omega) (by have := HNK.out; rw [oneV_len, oneV_len, HLK.out]; simp <;> omega)); have H10B := Lib.hid (fun (w5 : World) (hg : World.grownBy w4 w5 v4.ownBlock) => (HB4.out.grown hg HB4.out.size (OwnK.base_le HO4.out))); clear ho4 hg4)
                | ((with_reducible refine H10.out _ _ _ _ _ _ ?_ ?_ ?_ ?_ ?_); exact rfl; exact rfl; exact rfl; exact rfl; intro v5 w5 ho5 hg5; have HO5 := Lib.hid ho5; have HB5 := Lib.hid (H10B.out w5 hg5); clear ho5 hg5))
            all_goals
              obtain ⟨a5, z5, e5⟩ := OwnK.shape HO5.out
              rw [List.length_append, oneV_len, oneV_len, HLK.out] at e5
              simp only [List.length_cons, List.length_nil, Nat.zero_add] at e5
              subst e5
              go_wp2_with fail
              go_meet
              exact ⟨_, _, rfl, HO5, HB5⟩
          case rest =>
          rename World => w5
          obtain ⟨a5, z5, rfl, HO5, HB5⟩ := hcut
          have HGP := Lib.hid (fun (w6 : World) (hb : Below W2.heap.size W2 w6) (v6 : Value) (ho : OwnC 1 23 w6 W2.heap.size v6 ((oneV (vs.take k) ++ oneV [(Value.slice (some ⟨g, off + i, none⟩) (nf - i) (fc - i))]) ++ oneV (vs.drop k))) => (by
            have he := (HE2.out.gap k (by rw [HYN.out]; exact hk) HM2.out).below hb
            rw [← oneV_app, ← oneV_app] at ho
            have hs := slAt_one (SlK.of_own ho oneV_one)
            obtain ⟨a6, c6, rfl⟩ := OwnK.shape ho
            have hlen : (oneV (vs.take k ++ [(Value.slice (some ⟨g, off + i, none⟩) (nf - i) (fc - i))] ++ vs.drop k)).length = n + 1 := by rw [oneV_len]; simp; have := HVL.out; omega
            rw [hlen] at hs ⊢
            exact ⟨a6, c6, rfl, by rw [oneV_len] at hlen; exact hlen, hs, he⟩ : ∃ a6 c6, v6 = .slice a6 (n + 1) c6 ∧ (vs.take k ++ [(Value.slice (some ⟨g, off + i, none⟩) (nf - i) (fc - i))] ++ vs.drop k).length = n + 1 ∧ SlAt w6 (.slice a6 (n + 1) c6) (vs.take k ++ [(Value.slice (some ⟨g, off + i, none⟩) (nf - i) (fc - i))] ++ vs.drop k) ∧ EvAt w6 (vs.take k ++ [(Value.slice (some ⟨g, off + i, none⟩) (nf - i) (fc - i))] ++ vs.drop k) (ys.take k ++ f.drop i :: ys.drop k)))
          rcases slAt_cut3 HS2.out hk with ⟨hck', hn', hm⟩ | ⟨hck', hn', hk0', ⟨ad', rfl⟩, hm⟩ | ⟨hck', hn', g', off', rfl, hm⟩
          · obtain rfl : k = n := by omega
            obtain rfl : k = c := by omega
            have HTD := Lib.hid (slK_one hm)
            clear hm
            go_wp2_with (at_builtin; refine wpl_append_slk w5 rfl (.tmp 38) (.tmp 41) elem_nm1 (by decide) rfl W2.heap.size (.slice a5 (k + 1) z5) _ rfl HO5.out (.slice a 0 0) (oneV (vs.drop k)) rfl (HTD.out.below HB5.out) oneV_one HD1.out HB5.out.size (by have := HNK.out; rw [List.length_append, oneV_len, oneV_len, oneV_len, HLK.out, HLD.out]; unfold maxLen; simp <;> omega) (by have := HNK.out; rw [List.length_append, oneV_len, oneV_len, oneV_len, HLK.out, HLD.out]; simp <;> omega) ?_; intro v6 w6 ho6 hg6)
            have HB6 := Lib.hid (HB5.out.grown hg6 HB5.out.size (OwnK.base_le HO5.out))
            obtain ⟨a6, c6, rfl, r1, r2, r3⟩ := HGP.out w6 HB6.out v6 ho6
            have R1 := Lib.hid r1; have R2 := Lib.hid r2; have R3 := Lib.hid r3
            clear ho6 hg6 r1 r2 r3
            go_roundw
            case measure => first | (simp [intOf]; done) | (simp [intOf]; omega)
            case rel => exact ⟨_, i + 1, a6, k + 1, c6, _, _, rfl, rfl, by go_num, by omega, by have h := HR.out.2.2.2; have h2 := R3.out.1; have h3 := R1.out; have := HXL.out; omega, (by
              obtain ⟨_, _, e, h, _⟩ := R2.out; injection e with _ e2 e3; rw [e2, e3]; exact h), R1, R2, R3, HR, Lib.hid (HB2.out.trans (HB6.out.mono HB2.out.size))⟩
          · subst hk0'
            subst hn'
            have HTD := Lib.hid (slK_one hm)
            clear hm
            go_wp2_with (at_builtin; refine wpl_append_slk w5 rfl (.tmp 38) (.tmp 41) elem_nm1 (by decide) rfl W2.heap.size (.slice a5 (0 + 1) z5) _ rfl HO5.out (.slice (some ad') 0 c) (oneV (vs.drop 0)) rfl (HTD.out.below HB5.out) oneV_one HD1.out HB5.out.size (by have := HNK.out; rw [List.length_append, oneV_len, oneV_len, oneV_len, HLK.out, HLD.out]; unfold maxLen; simp <;> omega) (by have := HNK.out; rw [List.length_append, oneV_len, oneV_len, oneV_len, HLK.out, HLD.out]; simp <;> omega) ?_; intro v6 w6 ho6 hg6)
            have HB6 := Lib.hid (HB5.out.grown hg6 HB5.out.size (OwnK.base_le HO5.out))
            obtain ⟨a6, c6, rfl, r1, r2, r3⟩ := HGP.out w6 HB6.out v6 ho6
            have R1 := Lib.hid r1; have R2 := Lib.hid r2; have R3 := Lib.hid r3
            clear ho6 hg6 r1 r2 r3
            go_roundw
            case measure => first | (simp [intOf]; done) | (simp [intOf]; omega)
            case rel => exact ⟨_, i + 1, a6, 0 + 1, c6, _, _, rfl, rfl, by go_num, by omega, by have h := HR.out.2.2.2; have h2 := R3.out.1; have h3 := R1.out; have := HXL.out; omega, (by
              obtain ⟨_, _, e, h, _⟩ := R2.out; injection e with _ e2 e3; rw [e2, e3]; exact h), R1, R2, R3, HR, Lib.hid (HB2.out.trans (HB6.out.mono HB2.out.size))⟩
          · have HTD := Lib.hid (slK_one hm)
            clear hm
            go_wp2_with (at_builtin; refine wpl_append_slk w5 rfl (.tmp 38) (.tmp 41) elem_nm1 (by decide) rfl W2.heap.size (.slice a5 (k + 1) z5) _ rfl HO5.out (.slice (some ⟨g', off' + k, none⟩) (n - k) (c - k)) (oneV (vs.drop k)) rfl (HTD.out.below HB5.out) oneV_one HD1.out HB5.out.size (by have := HNK.out; rw [List.length_append, oneV_len, oneV_len, oneV_len, HLK.out, HLD.out]; unfold maxLen; simp <;> omega) (by have := HNK.out; rw [List.length_append, oneV_len, oneV_len, oneV_len, HLK.out, HLD.out]; simp <;> omega) ?_; intro v6 w6 ho6 hg6)
            have HB6 := Lib.hid (HB5.out.grown hg6 HB5.out.size (OwnK.base_le HO5.out))
            obtain ⟨a6, c6, rfl, r1, r2, r3⟩ := HGP.out w6 HB6.out v6 ho6
            have R1 := Lib.hid r1; have R2 := Lib.hid r2; have R3 := Lib.hid r3
            clear ho6 hg6 r1 r2 r3
            go_roundw
            case measure => first | (simp [intOf]; done) | (simp [intOf]; omega)
            case rel => exact ⟨_, i + 1, a6, n + 1, c6, _, _, rfl, rfl, by go_num, by omega, by have h := HR.out.2.2.2; have h2 := R3.out.1; have h3 := R1.out; have := HXL.out; omega, (by
              obtain ⟨_, _, e, h, _⟩ := R2.out; injection e with _ e2 e3; rw [e2, e3]; exact h), R1, R2, R3, HR, Lib.hid (HB2.out.trans (HB6.out.mono HB2.out.size))⟩
    · have HW := Lib.hid (HB1.out.trans (HB.out.mono HB1.out.size))
      obtain rfl : i = nf + 1 := by omega
      have hltz : ¬ (((nf + 1 : Nat) : Int) ≤ (nf : Int)) := by omega
      go_wp2
      go_ret
      exact ⟨_, ys, rfl, HE.out.nms HS.out, by rw [HNF.out]; exact HI.out, HW.out⟩
end
end Go.Proofs.Ytnpnfajgphpabaa
