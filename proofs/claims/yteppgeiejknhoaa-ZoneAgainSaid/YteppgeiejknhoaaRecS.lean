/-
  rec.SameRow.
-/
import Derived.Test.YteppgeiejknhoaaMQ21
namespace Go.Proofs.Yteppgeiejknhoaa
open Go.RowKit Go.Shelf
set_option maxRecDepth 20000
set_option linter.unusedVariables false
set_option linter.unusedSimpArgs false

theorem sameRowM_len : ∀ (l m : List Rc), l.length ≠ m.length → sameRowM l m = false
  | [], [], h => absurd rfl h
  | [], _ :: _, _ => rfl
  | _ :: _, [], _ => rfl
  | a :: l, b :: m, h => by
    unfold sameRowM
    rw [sameRowM_len l m (by simp at h; omega)]; simp
theorem sameRowM_step {l m : List Rc} (k : Nat) (h1 : k < l.length) (h2 : k < m.length) : sameRowM (l.drop k) (m.drop k) = (twinR l[k] m[k] && sameRowM (l.drop (k + 1)) (m.drop (k + 1))) := by
  rw [List.drop_eq_getElem_cons h1, List.drop_eq_getElem_cons h2]
  rfl

set_option maxRecDepth 100000 in
set_option maxHeartbeats 8000000 in
theorem rec_equal (v u : Value) (css ess : List (List Value)) (l m : List Rc) (w : World) (hA : SlK w v css) (hR : Rcs w css l) (hU : SlK w u ess) (hS : Rcs w ess m) (hOK : ∀ r ∈ l, RcOK r) (hOK2 : ∀ r ∈ m, RcOK r) (hl : css.length ≤ 1048576) (hl2 : ess.length ≤ 1048576) :
    Calls Try.prog 40 #[v, u, .func (.func 41) #[] #[]] w fun e w' => e = .returned (.bool (sameRowM l m)) ∧ Below w.heap.size w w' := by
  obtain ⟨a, c, rfl, hc1, hc2, hx⟩ := id hA
  obtain ⟨b, d, rfl, hd1, hd2, hy⟩ := id hU
  obtain ⟨n, hn⟩ : ∃ n, css.length = n := ⟨_, rfl⟩
  obtain ⟨n2, hn2⟩ : ∃ n, ess.length = n := ⟨_, rfl⟩
  have HSA := Lib.hid hA; have HSU := Lib.hid hU; have HR := Lib.hid hR; have HS := Lib.hid hS; have HOK := Lib.hid hOK; have HOK2 := Lib.hid hOK2
  rw [hn] at HSA hc1 hl ⊢
  rw [hn2] at HSU hd1 hl2 ⊢
  have HN := Lib.hid hn; have HN2 := Lib.hid hn2
  have HLA := Lib.hid (show l.length = n by rw [← hn]; exact hR.1.symm)
  have HLB := Lib.hid (show m.length = n2 by rw [← hn2]; exact hS.1.symm)
  obtain ⟨res, hres⟩ : ∃ r, sameRowM l m = r := ⟨_, rfl⟩
  rw [hres]
  have HRES := Lib.hid hres
  clear hA hU hR hS hOK hOK2 hc2 hx hd2 hy hn hn2 hres
  by_cases hnn : n = n2
  · subst hnn
    have HB0 : Hid (Below w.heap.size w w) := Lib.hid (Below.refl _ _)
    go_enter Try.func40, Try.ntmps40
    go_wp2
    go_loopw [17] (fun vi wr => ∃ (k : Nat), vi = .int .i64 k ∧ k ≤ n ∧ Hid (res = sameRowM (l.drop k) (m.drop k)) ∧ Hid (Below w.heap.size w wr)) (fun vi _ => n - (intOf vi).toNat)
    case atStart => exact ⟨0, rfl, Nat.zero_le _, Lib.hid HRES.out.symm, HB0⟩
    case round =>
      obtain ⟨k, rfl, hk, HC, HB⟩ := hrel
      by_cases hlt : k < n
      · have hltz : (k : Int) < (n : Int) := by omega
        have hk1 : k < css.length := by have := HN.out; omega
        have hk2 : k < ess.length := by have := HN2.out; omega
        have hk3 : k < l.length := by have := HLA.out; omega
        have hk4 : k < m.length := by have := HLB.out; omega
        obtain ⟨ga, oa, rfl, hga, hea⟩ := HSA.out.elem HR.out.ck (by omega)
        obtain ⟨gb, ob, rfl, hgb, heb⟩ := HSU.out.elem HS.out.ck (by omega)
        have h0 := HR.out.2 k hk1 hk3
        have h1 := HS.out.2 k hk2 hk4
        have hok := HOK.out _ (List.getElem_mem hk3)
        have hok2 := HOK2.out _ (List.getElem_mem hk4)
        have hst := sameRowM_step k hk3 hk4
        obtain ⟨ra, hra⟩ : ∃ r, l[k]'hk3 = r := ⟨_, rfl⟩
        obtain ⟨rb, hrb⟩ : ∃ r, m[k]'hk4 = r := ⟨_, rfl⟩
        rw [hra] at h0 hok hst
        rw [hrb] at h1 hok2 hst
        clear hra hrb
        have htw := fun W (hb : Below w.heap.size w W) => rec_twin _ _ _ _ W (h0.below hb) (h1.below hb) hok hok2
        obtain ⟨⟨p0, q0, r0⟩, ⟨p3, q3, r3⟩, ⟨p4, q4, r4⟩, ⟨p5, q5, r5⟩, ⟨p6, q6, r6⟩, e0⟩ := h0.shape
        obtain ⟨⟨p0', q0', r0'⟩, ⟨p3', q3', r3'⟩, ⟨p4', q4', r4'⟩, ⟨p5', q5', r5'⟩, ⟨p6', q6', r6'⟩, e1⟩ := h1.shape
        simp only at e0 e1
        obtain ⟨c0, c1, c2, c3, c4, c5, c6⟩ := hea k hk1 _ _ _ _ _ _ _ e0 wr HB.out
        obtain ⟨d0, d1, d2, d3, d4, d5, d6⟩ := heb k hk2 _ _ _ _ _ _ _ e1 (wr.alloc (.cells #[.slice p0 q0 r0, .int .u32 (ra.ttl : Int), .int .i64 ra.data.ty, .slice p3 q3 r3, .slice p4 q4 r4, .slice p5 q5 r5, .slice p6 q6 r6] 50)) (HB.out.alloc HB.out.size _)
        rw [e0, e1] at htw
        obtain ⟨tw, htw'⟩ : ∃ t, twinR ra rb = t := ⟨_, rfl⟩
        rw [htw'] at htw hst
        have HTW := Lib.hid htw
        have HST := Lib.hid hst
        clear h0 h1 hok hok2 htw hst e0 e1 htw' hea heb hk1 hk2 hk3 hk4
        go_wp2_with fail
        have HBW := Lib.hid ((HB.out.alloc HB.out.size (.cells #[.slice p0 q0 r0, .int .u32 (ra.ttl : Int), .int .i64 ra.data.ty, .slice p3 q3 r3, .slice p4 q4 r4, .slice p5 q5 r5, .slice p6 q6 r6] 50)).alloc (by have := HB.out.size; simp; omega) (.cells #[.slice p0' q0' r0', .int .u32 (rb.ttl : Int), .int .i64 rb.data.ty, .slice p3' q3' r3', .slice p4' q4' r4', .slice p5' q5' r5', .slice p6' q6' r6'] 50))
        refine (HTW.out _ HBW.out).mono ?_
        rintro e w2 ⟨rfl, hb2⟩
        have HB2 := Lib.hid (HBW.out.trans (hb2.mono HBW.out.size))
        have HC2 : Hid (res = (tw && sameRowM (l.drop (k + 1)) (m.drop (k + 1)))) := Lib.hid (by rw [HC.out, HST.out])
        clear hb2 HC HST HTW HBW HB c0 c1 c2 c3 c4 c5 c6 d0 d1 d2 d3 d4 d5 d6
        cases tw
        · have HE : Hid (res = false) := Lib.hid (by rw [HC2.out]; rfl)
          clear HC2
          go_wp2
          go_ret
          exact ⟨by rw [HE.out]; rfl, HB2.out⟩
        · have HE : Hid (res = sameRowM (l.drop (k + 1)) (m.drop (k + 1))) := Lib.hid (by rw [HC2.out]; rfl)
          clear HC2
          go_wp2
          go_roundw
          case measure => simp [intOf]; omega
          case rel => exact ⟨k + 1, by go_num, by omega, HE, HB2⟩
      · obtain rfl : k = n := by omega
        have HE : Hid (res = true) := Lib.hid (by
          rw [HC.out, List.drop_of_length_le (by have := HLA.out; omega), List.drop_of_length_le (by have := HLB.out; omega)]; rfl)
        clear HC
        go_wp2
        go_ret
        exact ⟨by rw [HE.out]; rfl, HB.out⟩
  · have hz : ¬ (n : Int) = (n2 : Int) := by omega
    have hzb : ((n : Int) != (n2 : Int)) = true := by simpa using hz
    have HE : Hid (res = false) := Lib.hid (by rw [← HRES.out]; exact sameRowM_len _ _ (by have := HLA.out; have := HLB.out; omega))
    go_enter Try.func40, Try.ntmps40
    go_wp2
    go_ret
    exact ⟨by rw [HE.out]; rfl, Below.refl _ _⟩
set_option maxRecDepth 100000 in
set_option maxHeartbeats 8000000 in
theorem rec_SameRow (v u : Value) (css ess : List (List Value)) (l m : List Rc) (w : World) (hA : SlK w v css) (hR : Rcs w css l) (hU : SlK w u ess) (hS : Rcs w ess m) (hOK : ∀ r ∈ l, RcOK r) (hOK2 : ∀ r ∈ m, RcOK r) (hl : css.length ≤ 1048576) (hl2 : ess.length ≤ 1048576) :
    Calls Try.prog 22 #[v, u] w fun e w' => e = .returned (.bool (sameRowM l m)) ∧ Below w.heap.size w w' := by
  have hc := rec_equal v u css ess l m w hA hR hU hS hOK hOK2 hl hl2
  obtain ⟨a, c, rfl, -⟩ := id hA
  obtain ⟨b, d, rfl, -⟩ := id hU
  generalize css.length = n at *
  generalize ess.length = n2 at *
  generalize sameRowM l m = r at *
  clear hA hR hU hS hOK hOK2
  go_enter Try.func22, Try.ntmps22
  go_wp2_with fail
  refine hc.mono ?_
  rintro e w2 ⟨rfl, hb2⟩
  go_wp2
  go_ret
  exact ⟨rfl, hb2⟩
end Go.Proofs.Yteppgeiejknhoaa
