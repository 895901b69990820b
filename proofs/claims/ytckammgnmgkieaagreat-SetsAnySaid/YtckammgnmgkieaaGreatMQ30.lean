/-
  Rows of the document's data that law6 gathers.
-/
import Derived.Test.YtckammgnmgkieaaGreatMQ36
import Derived.Test.YtckammgnmgkieaaGreatMQ02
import Derived.Test.YtckammgnmgkieaaGreatMQ13
import Derived.Test.YtckammgnmgkieaaGreatMQ27
import Derived.Test.YtckammgnmgkieaaGreatMQ31
import Derived.Test.YtckammgnmgkieaaGreatMQ17
import Derived.Deep.RegionHeld3
import Derived.Test.YtckammgnmgkieaaGreatMQ14
import Derived.Test.YtckammgnmgkieaaGreatMQ04
namespace Go.Proofs.YtckammgnmgkieaaGreat
set_option maxRecDepth 20000
open Go.RowKit Go.Shelf
set_option maxRecDepth 20000
set_option linter.unusedVariables false
set_option linter.unusedSimpArgs false
def OfD (w0 W : World) (base : Nat) (cs : List Value) (d : Dat) : Prop :=
  ∃ vn vu vt vr, ∃ ss : List SlV, cs = [.int .i64 d.ty, vn, vu, vt, vr] ∧ OwnG 23 slEnc W base vn ss ∧ ss.length = d.names.length ∧
    (∀ j (h1 : j < ss.length) (h2 : j < d.names.length), NmAt w0 (slEnc ss[j]) d.names[j]) ∧ SlAt w0 vu (d.nums.map u32V) ∧ NmAt w0 vt d.texts ∧ SlAt w0 vr (d.raw.map bv)
theorem OfD.datAt {w0 W : World} {base : Nat} {cs : List Value} {d : Dat} (h : OfD w0 W base cs d) (hb : Below w0.heap.size w0 W) : cs.length = 5 ∧ DatAt W (.agg cs.toArray) d := by
  obtain ⟨vn, vu, vt, vr, ss, rfl, h2, h3, h4, h5, h6, h7⟩ := h
  exact ⟨rfl, _, _, _, _, rfl, ⟨ss.map slEnc, SlAt.of_own h2, by rw [List.length_map]; exact h3, fun j hj => by rw [List.getElem_map]; exact (h4 j (by simpa using hj) (by rw [List.length_map] at hj; omega)).below hb⟩, h5.below hb, h6.below hb, h7.below hb⟩
theorem OfD.below {w0 W W' : World} {base : Nat} {cs : List Value} {d : Dat} (h : OfD w0 W base cs d) (hb : Below W.heap.size W W') : OfD w0 W' base cs d := by
  obtain ⟨vn, vu, vt, vr, ss, e, h2, h3⟩ := h
  exact ⟨vn, vu, vt, vr, ss, e, h2.below hb, h3⟩
theorem OfD.weaken {w0 W : World} {base b2 : Nat} {cs : List Value} {d : Dat} (h : OfD w0 W base cs d) (hb : b2 ≤ base) : OfD w0 W b2 cs d := by
  obtain ⟨vn, vu, vt, vr, ss, e, h2, h3⟩ := h
  exact ⟨vn, vu, vt, vr, ss, e, h2.weaken hb, h3⟩
theorem OfD.grown {w0 W W' : World} {base base' k : Nat} {T : TypeId} {cs : List Value} {d : Dat} {v' : Value} {yss : List (List Value)} (h : OfD w0 W base cs d) (h' : OwnC k T W base' v' yss) (hT : 23 ≠ T) (hg : W.grownBy W' v'.ownBlock) : OfD w0 W' base cs d := by
  obtain ⟨vn, vu, vt, vr, ss, e, h2, h3⟩ := h
  exact ⟨vn, vu, vt, vr, ss, e, h2.kept_c h' hT hg, h3⟩
def OfDs (w0 W : World) (base : Nat) (csd : List (List Value)) (l : List Dat) : Prop := csd.length = l.length ∧ ∀ j (h1 : j < csd.length) (h2 : j < l.length), OfD w0 W base csd[j] l[j]
theorem OfDs.below {w0 W W' : World} {base : Nat} {csd : List (List Value)} {l : List Dat} (h : OfDs w0 W base csd l) (hb : Below W.heap.size W W') : OfDs w0 W' base csd l := ⟨h.1, fun j a b => (h.2 j a b).below hb⟩
theorem OfDs.dts {w0 W : World} {base : Nat} {csd : List (List Value)} {l : List Dat} (h : OfDs w0 W base csd l) (hb : Below w0.heap.size w0 W) : Dts W csd l := ⟨h.1, fun j a b => (h.2 j a b).datAt hb⟩
theorem elem_refD : ElemK 5 107 39 104 := ⟨Tryz.underlying39, _, _, rfl, rfl, rfl, rfl, rfl⟩
theorem OfDs.snoc {w0 W W' : World} {base : Nat} {v : Value} {csd : List (List Value)} {l : List Dat} {cs : List Value} {d : Dat} (h : OfDs w0 W base csd l) (ho : OwnC 5 107 W base v csd) (hc : OfD w0 W base cs d) (hg : W.grownBy W' v.ownBlock) : OfDs w0 W' base (csd ++ [cs]) (l ++ [d]) := by
  refine ⟨by simp [h.1], fun j a b => ?_⟩
  by_cases hj : j < csd.length
  · rw [List.getElem_append_left hj, List.getElem_append_left (by have := h.1; omega)]
    exact (h.2 j hj (by have := h.1; omega)).grown ho (by decide) hg
  · obtain rfl : j = csd.length := by simp at a; omega
    have e1 : (csd ++ [cs])[csd.length]'a = cs := by simp
    have e2 : (l ++ [d])[csd.length]'b = d := by simp [h.1]
    rw [e1, e2]
    exact hc.grown ho (by decide) hg
def DtsArg (W : World) (css : List (List Value)) (l : List Dat) : Prop := css.length = l.length ∧ ∀ i (h1 : i < css.length) (h2 : i < l.length), css[i].length = 5 ∧ DatArg W (.agg css[i].toArray) l[i]
theorem DtsArg.dts {W : World} {css : List (List Value)} {l : List Dat} (h : DtsArg W css l) : Dts W css l := ⟨h.1, fun i a b => ⟨(h.2 i a b).1, (h.2 i a b).2.1⟩⟩
theorem OfPostS.cells {w0 w w' : World} {v : Value} {d : Dat} {e : Ending} (h : OfPostS w0 v d w e w') : ∃ cs, e = .returned (.agg cs.toArray) ∧ OfD w0 w' w.heap.size cs d ∧ Below w.heap.size w w' := by
  obtain ⟨vn, vn', vu, vt, vr, ss, rfl, rfl, h1, h2, h3, h4, h5, h6, h7⟩ := h
  exact ⟨[.int .i64 d.ty, vn', vu, vt, vr], rfl, ⟨vn', vu, vt, vr, ss, rfl, h1, h2, h3, h4, h5, h6⟩, h7⟩
theorem OfD.shape {w0 W : World} {base : Nat} {cs : List Value} {d : Dat} (h : OfD w0 W base cs d) : ∃ x3 x4 x5 x6 : Option Addr × Nat × Nat, cs = [.int .i64 d.ty, .slice x3.1 x3.2.1 x3.2.2, .slice x4.1 x4.2.1 x4.2.2, .slice x5.1 x5.2.1 x5.2.2, .slice x6.1 x6.2.1 x6.2.2] := by
  obtain ⟨vn, vu, vt, vr, ss, rfl, h2, h3, h4, h5, h6, h7⟩ := h
  obtain ⟨a3, c3, rfl⟩ := h2.shape
  obtain ⟨a4, c4, rfl, _⟩ := h5
  obtain ⟨a5, c5, rfl, _⟩ := nmAt_sl.1 h6
  obtain ⟨a6, c6, rfl, _⟩ := h7
  exact ⟨(a3, _, c3), (a4, _, c4), (a5, _, c5), (a6, _, c6), rfl⟩
end Go.Proofs.YtckammgnmgkieaaGreat

/-
  law4.IsAll of a row of data and the same in the document's form.
-/
namespace Go.Proofs.YtckammgnmgkieaaGreat
set_option maxRecDepth 20000
open Go.RowKit Go.Shelf
set_option maxRecDepth 20000
set_option linter.unusedVariables false
set_option linter.unusedSimpArgs false
set_option maxRecDepth 100000 in
set_option maxHeartbeats 16000000 in
theorem law4_IsAll (v u : Value) (css ess : List (List Value)) (l : List Dat) (w : World) (hA : SlK w v css) (hR : Dts w css l) (hU : SlK w u ess) (hS : Dts w ess l) (hOK : ∀ r ∈ l, DatOK r) (hl : l.length ≤ 1048576) :
    Calls Tryz.prog 41 #[v, u] w fun e w' => e = .returned (.bool true) ∧ Below w.heap.size w w' := by
  obtain ⟨a, c, rfl, hc1, -⟩ := id hA
  obtain ⟨b, d, rfl, hd1, -⟩ := id hU
  obtain ⟨n, hn⟩ : ∃ n, css.length = n := ⟨_, rfl⟩
  have hen : ess.length = n := by rw [hS.1, ← hn, hR.1]
  rw [hn] at hA hc1 ⊢
  rw [hen] at hU hd1 ⊢
  have HA := Lib.hid hA; have HU := Lib.hid hU; have HR := Lib.hid hR; have HS := Lib.hid hS; have HOK := Lib.hid hOK
  have HN := Lib.hid hn; have HE := Lib.hid hen
  have HL := Lib.hid (show l.length = n by rw [← hn]; exact hR.1.symm)
  have hnx : n ≤ 1048576 := by have := HL.out; omega
  have hnn : ((n : Int) != (n : Int)) = false := by simp
  clear hA hR hU hS hOK hl hn hen
  go_enter Tryz.func41, Tryz.ntmps41
  go_wp2
  go_loopw [5] (fun vi wr => ∃ k : Nat, vi = .int .i64 k ∧ k ≤ n ∧ Hid (Below w.heap.size w wr)) (fun vi _ => n - (intOf vi).toNat)
  case atStart => exact ⟨0, rfl, Nat.zero_le _, Lib.hid (Below.refl _ _)⟩
  case round =>
    obtain ⟨k, rfl, hk, HB⟩ := hrel
    by_cases hlt : k < n
    · have hltz : (k : Int) < (n : Int) := by omega
      have hk1 : k < css.length := by have := HN.out; omega
      have hk2 : k < ess.length := by have := HE.out; omega
      have hk3 : k < l.length := by have := HL.out; omega
      obtain ⟨ga, oa, rfl, hga, hea⟩ := HA.out.elem5 HR.out.ck (by omega)
      obtain ⟨gb, ob, rfl, hgb, heb⟩ := HU.out.elem5 HS.out.ck (by omega)
      have h0 := (HR.out.2 k hk1 hk3).2
      have h1 := (HS.out.2 k hk2 hk3).2
      have hok := HOK.out _ (List.getElem_mem hk3)
      obtain ⟨D, hD⟩ : ∃ r, l[k]'hk3 = r := ⟨_, rfl⟩
      rw [hD] at h0 h1 hok
      obtain ⟨⟨p3, q3, r3⟩, ⟨p4, q4, r4⟩, ⟨p5, q5, r5⟩, ⟨p6, q6, r6⟩, e0⟩ := dt_shape h0
      obtain ⟨⟨s3, t3, u3⟩, ⟨s4, t4, u4⟩, ⟨s5, t5, u5⟩, ⟨s6, t6, u6⟩, e1⟩ := dt_shape h1
      simp only at e0 e1
      have f0 := fun W (hb : Below w.heap.size w W) => hea k hk1 _ _ _ _ _ e0 W hb
      have f1 := fun W (hb : Below w.heap.size w W) => heb k hk2 _ _ _ _ _ e1 W hb
      rw [e0] at h0
      rw [e1] at h1
      have HF0 := Lib.hid f0; have HF1 := Lib.hid f1; have H0 := Lib.hid h0; have H1 := Lib.hid h1
      have KC := Lib.hid (fun W (hb : Below w.heap.size w W) => (show (W.cell? ⟨ga, oa + k * 5, none⟩ = some (.int .i64 D.ty) ∧ W.cell? ⟨ga, oa + k * 5 + 1, none⟩ = some (.slice p3 q3 r3) ∧ W.cell? ⟨ga, oa + k * 5 + 2, none⟩ = some (.slice p4 q4 r4) ∧ W.cell? ⟨ga, oa + k * 5 + 3, none⟩ = some (.slice p5 q5 r5) ∧ W.cell? ⟨ga, oa + k * 5 + 4, none⟩ = some (.slice p6 q6 r6) ∧ W.cell? ⟨gb, ob + k * 5, none⟩ = some (.int .i64 D.ty) ∧ W.cell? ⟨gb, ob + k * 5 + 1, none⟩ = some (.slice s3 t3 u3) ∧ W.cell? ⟨gb, ob + k * 5 + 2, none⟩ = some (.slice s4 t4 u4) ∧ W.cell? ⟨gb, ob + k * 5 + 3, none⟩ = some (.slice s5 t5 u5) ∧ W.cell? ⟨gb, ob + k * 5 + 4, none⟩ = some (.slice s6 t6 u6) ∧ Below w.heap.size w W) from
        ⟨(HF0.out W hb).1, (HF0.out W hb).2.1, (HF0.out W hb).2.2.1, (HF0.out W hb).2.2.2.1, (HF0.out W hb).2.2.2.2, (HF1.out W hb).1, (HF1.out W hb).2.1, (HF1.out W hb).2.2.1, (HF1.out W hb).2.2.2.1, (HF1.out W hb).2.2.2.2, hb⟩))
      have KS := Lib.hid (fun W W' (h : Below w.heap.size w W) (hb : Below W.heap.size W W') => KC.out W' (h.trans (hb.mono h.size)))
      have C1 := Lib.hid (fun W (hb : Below w.heap.size w W) => (law4_OfS w (.agg #[.int .i64 D.ty, .slice p3 q3 r3, .slice p4 q4 r4, .slice p5 q5 r5, .slice p6 q6 r6]) D W H0.out hb hok.2.1))
      have C2 := Lib.hid (fun W (v : Value) (hb : Below w.heap.size w W) (hv : DatAt W v D) => law4_Is v (.agg #[.int .i64 D.ty, .slice s3 t3 u3, .slice s4 t4 u4, .slice s5 t5 u5, .slice s6 t6 u6]) D W hv (H1.out.below hb) hok)
      have hS0 := KC.out wr HB.out
      have hcl : Below w.heap.size w wr.drew := HB.out.trans ⟨rfl, rfl, rfl, Nat.le_refl _, fun _ _ => rfl⟩
      have hSD := KC.out _ hcl
      have HSD := Lib.hid hcl
      clear h0 h1 hok hD e0 e1 f0 f1 hea heb hk1 hk2 hk3 hga hgb hcl
      obtain ⟨y0, y1, y2, y3, y4, y5, y6, y7, y8, y9, -⟩ := id hS0
      go_wp2_with fail
      go_region_held3 (fun W => W.cell? ⟨ga, oa + k * 5, none⟩ = some (.int .i64 D.ty) ∧ W.cell? ⟨ga, oa + k * 5 + 1, none⟩ = some (.slice p3 q3 r3) ∧ W.cell? ⟨ga, oa + k * 5 + 2, none⟩ = some (.slice p4 q4 r4) ∧ W.cell? ⟨ga, oa + k * 5 + 3, none⟩ = some (.slice p5 q5 r5) ∧ W.cell? ⟨ga, oa + k * 5 + 4, none⟩ = some (.slice p6 q6 r6) ∧ W.cell? ⟨gb, ob + k * 5, none⟩ = some (.int .i64 D.ty) ∧ W.cell? ⟨gb, ob + k * 5 + 1, none⟩ = some (.slice s3 t3 u3) ∧ W.cell? ⟨gb, ob + k * 5 + 2, none⟩ = some (.slice s4 t4 u4) ∧ W.cell? ⟨gb, ob + k * 5 + 3, none⟩ = some (.slice s5 t5 u5) ∧ W.cell? ⟨gb, ob + k * 5 + 4, none⟩ = some (.slice s6 t6 u6) ∧ Below w.heap.size w W)
        (first | with_reducible assumption | exact KC.out _ HB.out | exact KC.out _ HSD.out)
        (first
          | ((with_reducible refine (C1.out _ HSD.out).mono ?_); rintro e w7 h7; obtain ⟨cs7, rfl, hof, hb7⟩ := h7.cells; obtain ⟨⟨i3, j3, z3⟩, ⟨i4, j4, z4⟩, ⟨i5, j5, z5⟩, ⟨i6, j6, z6⟩, rfl⟩ := hof.shape; have hS2 := KS.out _ _ HSD.out hb7; have HB7 := Lib.hid hS2.2.2.2.2.2.2.2.2.2.2; have HD7 := Lib.hid (hof.datAt HB7.out).2; clear hof hb7 h7)
          | ((with_reducible refine (C2.out _ _ HB7.out HD7.out).mono ?_); rintro e w9 ⟨rfl, hb9⟩; have hS2 := KS.out _ _ HB7.out hb9; have HB9 := Lib.hid hS2.2.2.2.2.2.2.2.2.2.2; clear hb9))
      all_goals
        clear y0 y1 y2 y3 y4 y5 y6 y7 y8 y9 hS0 hSD hS2
        go_wp2
        go_roundw
        case measure => simp [intOf]; omega
        case rel => exact ⟨k + 1, by go_num, by omega, HB9⟩
    · obtain rfl : k = n := by omega
      go_wp2
      go_ret
      exact ⟨rfl, HB.out⟩
end Go.Proofs.YtckammgnmgkieaaGreat

/-
  zone.Glue.
-/
namespace Go.Proofs.YtckammgnmgkieaaGreat
set_option maxRecDepth 20000
open Go.RowKit Go.Shelf
set_option maxRecDepth 20000
set_option linter.unusedVariables false
set_option linter.unusedSimpArgs false
theorem FrSet.below {W W' : World} {base : Nat} {cs : List Value} {s : St} (h : FrSet W base cs s) (hb : Below W.heap.size W W') : FrSet W' base cs s := by
  obtain ⟨x0, x3, ds, e, h1, h2, h3, h4⟩ := h
  refine ⟨x0, x3, ds, e, h1.below hb, OwnK.below h2 hb, h3, fun j a b => ?_⟩
  obtain ⟨vn, vu, vt, vr, e2, h6⟩ := h4 j a b
  exact ⟨vn, vu, vt, vr, e2, h6.below hb⟩
theorem DRow.one {W : World} {base : Nat} {vn vu vt vr : Value} {d : Dat} (h : DRow W base vn vu vt vr d) : vn.oneCell' = true ∧ vu.oneCell' = true ∧ vt.oneCell' = true ∧ vr.oneCell' = true := by
  obtain ⟨⟨vs, k1, k2, k3⟩, i1, i2, i3⟩ := h
  obtain ⟨_, _, rfl⟩ := k1.shape; obtain ⟨_, _, rfl⟩ := i1.shape; obtain ⟨_, _, rfl⟩ := i2.shape; obtain ⟨_, _, rfl⟩ := i3.shape
  exact ⟨rfl, rfl, rfl, rfl⟩
end Go.Proofs.YtckammgnmgkieaaGreat

/-
  Plain facts for law6.SetsAll.
-/
namespace Go.Proofs.YtckammgnmgkieaaGreat
set_option maxRecDepth 20000
open Go.RowKit Go.Shelf
set_option maxRecDepth 20000
set_option linter.unusedVariables false
theorem compact_mem (zs : List Int) : ∀ (j : Nat) (h : j < zs.length), zs[j] ∈ Lib.compact zs
  | 0, h => by
    unfold Lib.compact Lib.compactUpTo
    refine List.mem_map.2 ⟨0, List.mem_filter.2 ⟨List.mem_range.2 h, by simp [Lib.keeps]⟩, ?_⟩
    simp [getElem!_pos, h]
  | j + 1, h => by
    by_cases e : zs[j + 1] = zs[j]'(by omega)
    · rw [e]; exact compact_mem zs j (by omega)
    · unfold Lib.compact Lib.compactUpTo
      refine List.mem_map.2 ⟨j + 1, List.mem_filter.2 ⟨List.mem_range.2 h, ?_⟩, ?_⟩
      · refine Lib.keeps_pos ?_
        simpa [getElem!_pos, h, show j < zs.length by omega] using e
      · simp [getElem!_pos, h]
theorem sets_ok {l : List Rc} {s : St} (hl : ∀ r ∈ l, RcOK r) (h : s ∈ setsM (canonM l)) : NmOK s.owner ∧ ∀ d ∈ s.data, DatOK d := by
  obtain ⟨y, r, e1, e2, e3⟩ := sets_filter _ _ (Nat.le_refl _) (canonM_can l).up s h
  have hc := canonM_ok' l hl
  have hyr : ∀ z ∈ y :: r, RcOK z := fun z hz => hc z (by
    have : z ∈ (canonM l).filter (belM s.owner s.ty) := by rw [e3]; exact hz
    exact (List.mem_filter.1 this).1)
  rw [e1]
  refine ⟨(hyr y (by simp)).1, fun d hd => ?_⟩
  simp only [stR, List.mem_cons, List.mem_map] at hd
  rcases hd with rfl | ⟨z, hz, rfl⟩
  · exact (hyr y (by simp)).2.2
  · exact (hyr z (by simp [hz])).2.2
theorem sets_sum (l : List Rc) : ((setsM (canonM l)).map fun s => s.data.length).sum = (canonM l).length := sets_count _ _ (Nat.le_refl _)
theorem typesM_len (o : Nm) (l : List Rc) : (typesM o l).length ≤ l.length := by
  unfold typesM
  exact Nat.le_trans (compact_len _) (by rw [List.length_mergeSort]; exact tysM_len o l)
end Go.Proofs.YtckammgnmgkieaaGreat

