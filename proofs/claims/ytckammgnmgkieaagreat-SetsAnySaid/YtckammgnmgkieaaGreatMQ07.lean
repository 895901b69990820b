/-
  The document's Sets. (Written by wip/tools/gen6s.py.)
-/
import Derived.Test.YtckammgnmgkieaaGreatMQ28
import Derived.Test.YtckammgnmgkieaaGreatMQ08
namespace Go.Proofs.YtckammgnmgkieaaGreat
open Go.RowKit Go.Shelf
set_option maxRecDepth 20000
set_option linter.unusedVariables false
set_option linter.unusedSimpArgs false
theorem RSets.move {w0 W W' : World} {base : Nat} {css : List (List Value)} {l : List St} (h : RSets w0 W base css l) (hf : FarKeep base W W') : RSets w0 W' base css l := ⟨h.1, fun j a b => by
  obtain ⟨x0, x3, ds, e, h1, h2, h3⟩ := h.2 j a b
  exact ⟨x0, x3, ds, e, h1, OwnK.move h2 hf, h3⟩⟩
def RSetP (w0 W : World) (cs : List Value) (s : St) : Prop := ∃ (x0 x3 : Option Addr × Nat × Nat) (ds : List (List Value)), cs = [slW x0, .int .i64 s.ty, .int .u32 (s.ttl : Int), slW x3] ∧ NmAt w0 (slW x0) s.owner ∧ SlK W (slW x3) ds ∧ Dts w0 ds s.data
theorem RSetP.setR {w0 W : World} {cs : List Value} {s : St} (h : RSetP w0 W cs s) (hb : Below w0.heap.size w0 W) : SetR W cs s := by
  obtain ⟨x0, x3, ds, e, h1, h2, h3⟩ := h
  have h4 := h3.below hb
  exact ⟨x0, x3, ds, e, h1.below hb, h2, h4.1, h4.2⟩
theorem RSets.rowP {w0 W : World} {base n c : Nat} {a : Option Addr} {css : List (List Value)} {l : List St} (ho : OwnC 4 41 W base (.slice a n c) css) (h : RSets w0 W base css l) : SlK W (.slice a n c) css ∧ ∀ j (h1 : j < css.length) (h2 : j < l.length), RSetP w0 W css[j] l[j] := by
  refine ⟨SlK.of_own ho h.len4, fun j h1 h2 => ?_⟩
  obtain ⟨x0, x3, ds, e, k1, k2, k3⟩ := h.2 j h1 h2
  exact ⟨x0, x3, ds, e, k1, SlK.of_own k2 (dts_len k3), k3⟩
def SetsPostW (w0 w : World) (l : List St) (e : Ending) (w' : World) : Prop := ∃ v css, e = .returned v ∧ css.length = l.length ∧ (∀ W', FarKeep w.heap.size w' W' → SlK W' v css ∧ ∀ j (h1 : j < css.length) (h2 : j < l.length), RSetP w0 W' css[j] l[j]) ∧ Below w.heap.size w w'
set_option maxRecDepth 100000 in
set_option maxHeartbeats 32000000 in
theorem ref_Sets (w0 w : World) (v : Value) (cs0 : List (List Value)) (l : List Rc) (hA : SlK w v cs0) (hR : Rcs w0 cs0 l) (hb0 : Below w0.heap.size w0 w) (hOK : ∀ r ∈ l, RcOK r) (hl : cs0.length ≤ 1000000) :
    Calls Tryz.prog 16 #[v] w (SetsPostW w0 w (setsM (canonM l))) := by
  have hc := ref_CanonW v cs0 l w0 w hA hR hb0 hOK hl
  have hokc := canonM_ok l hOK
  have hcl := canonM_length l
  have hll : l.length ≤ 1000000 := by rw [← hR.1]; exact hl
  obtain ⟨a, c, rfl, -⟩ := id hA
  obtain ⟨C, hC⟩ : ∃ C, canonM l = C := ⟨_, rfl⟩
  rw [hC] at hokc hcl ⊢
  obtain ⟨n0, hn0⟩ : ∃ k, cs0.length = k := ⟨_, rfl⟩
  rw [hn0] at hc ⊢
  have HC := Lib.hid hC; have HOKC := Lib.hid hokc; have HB00 := Lib.hid hb0
  have HCL := Lib.hid (show C.length ≤ 1000000 by omega)
  clear hA hR hb0 hOK hl hC hokc hcl hll hn0
  go_enter Tryz.func16, Tryz.ntmps16
  go_wp2_with fail
  refine hc.mono ?_
  rintro e w1 ⟨v1, csd, rfl, ho, hr, hb1⟩
  rw [HC.out] at hr
  obtain ⟨ca, cc, rfl⟩ := OwnK.shape ho
  obtain ⟨n, hn⟩ : ∃ n, csd.length = n := ⟨_, rfl⟩
  have hsl := SlK.of_own ho hr.ck
  rw [hn] at hsl ⊢
  have HC1 := Lib.hid hsl; have HR := Lib.hid hr; have HN := Lib.hid hn
  have HB1 := Lib.hid hb1
  have HW01 := Lib.hid (HB00.out.trans (hb1.mono HB00.out.size))
  have HLC := Lib.hid (show C.length = n by rw [← hn]; exact hr.1.symm)
  have hnx : n ≤ 1000000 := by have := HLC.out; have := HCL.out; omega
  clear hc ho hr hb1 hn hsl HC
  go_wp2
  go_loopg [3, 5, 6] n (fun g1 vo vi vn wr => ∃ (i m : Nat) (ga : Option Addr) (gc : Nat) (css : List (List Value)), vo = .slice ga m gc ∧ vi = .int .i64 i ∧ i ≤ n ∧ n - i ≤ g1 ∧ m ≤ i ∧ Hid (css.length = m) ∧ Hid (OwnC 4 41 wr w1.heap.size (.slice ga m gc) css) ∧ Hid (RSets w0 wr w1.heap.size css (refSets (C.take i))) ∧ Hid (Below w1.heap.size w1 wr))
  case atStart => exact ⟨0, 0, none, 0, [], rfl, rfl, Nat.zero_le _, by omega, Nat.zero_le _, Lib.hid rfl, Lib.hid (OwnK.nil _ _), Lib.hid (RSets.nil _ _ _), Lib.hid (Below.refl _ _)⟩
  case round =>
    obtain ⟨i, m, ga, gc, css, rfl, rfl, hi, hg1, hmi, HL, HO, HS, HB⟩ := hrel
    by_cases hlt : i < n
    · have hltz : (i : Int) < (n : Int) := by omega
      have hi1 : i < csd.length := by have := HN.out; omega
      have hi2 : i < C.length := by have := HLC.out; omega
      obtain ⟨b, off, rfl, hb, hel⟩ := HC1.out.elem HR.out.ck (by omega)
      have h0 := HR.out.2 i hi1 hi2
      have hokx := HOKC.out _ (List.getElem_mem hi2)
      have hst : refSets (C.take (i + 1)) = stepS (refSets (C.take i)) (C[i]'hi2) := by rw [List.take_succ_eq_append_getElem hi2, refSets_snoc]
      obtain ⟨x, hx⟩ : ∃ r, C[i]'hi2 = r := ⟨_, rfl⟩
      rw [hx] at h0 hokx hst
      obtain ⟨⟨p0, q0, r0⟩, ⟨p3, q3, r3⟩, ⟨p4, q4, r4⟩, ⟨p5, q5, r5⟩, ⟨p6, q6, r6⟩, e0⟩ := h0.shape
      simp only at e0
      have HE := Lib.hid (fun W hb => hel i hi1 _ _ _ _ _ _ _ e0 W hb)
      rw [e0] at h0
      obtain ⟨vo, vn, vu, vt, vr, e1, hno, hda⟩ := h0
      simp only [List.cons.injEq, and_true, true_and] at e1
      obtain ⟨rfl, rfl, rfl, rfl, rfl⟩ := e1
      have HNO := Lib.hid hno; have HDA := Lib.hid hda
      have HOKX := Lib.hid hokx
      have HSL := Lib.hid (show (refSets (C.take i)).length = m by rw [← HS.out.1]; exact HL.out)
      have HNK := Lib.hid (show m ≤ 1000000 by omega)
      have HX := Lib.hid (show x ∈ C by rw [← hx]; exact List.getElem_mem _)
      have hcl : Below wr.heap.size wr wr.drew := ⟨rfl, rfl, rfl, Nat.le_refl _, fun _ _ => rfl⟩
      have hne : Nonempty (WIn (fun W => Below wr.heap.size wr W)) := ⟨⟨_, hcl⟩⟩
      clear hno hda hokx hx e0 hel hi1 hi2 hb
      by_cases hm : m = 0
      · have HST := Lib.hid (show refSets (C.take (i + 1)) = refSets (C.take i) ++ [newS x] by
          have e : refSets (C.take i) = [] := List.eq_nil_of_length_eq_zero (by rw [HSL.out]; exact hm)
          rw [hst, e]; rfl)
        have hmk : (m : Int) - 1 = -1 := by omega
        have hmk2 : ((m : Int) - 1).bmod 18446744073709551616 = -1 := by rw [hmk]; rfl
        have g0 := hne; have g1 := hne
        clear hst hm
        go_wp2_with fail
        refine wp_region_cls (fun W => Below wr.heap.size wr W) follows_mixed (by kernel_rfl) hcl ?_
        repeat (go_big_quiet_step (fail))
        refine wpQuiet_nil ?_
        rintro _ ⟨p, rfl⟩
        have HP := Lib.hid p.ok
        clear g0 g1
        have HO2 := Lib.hid (OwnK.below HO.out HP.out)
        have HS2 := Lib.hid (HS.out.below HP.out)
        have HB2 := Lib.hid (HB.out.trans (HP.out.mono HB.out.size))
        generalize p.w = W2 at *
        have hbd : Below W2.heap.size W2 W2.drew := ⟨rfl, rfl, rfl, Nat.le_refl _, fun _ _ => rfl⟩
        have hbA : Below W2.heap.size W2 (W2.alloc (.cells #[.int .i64 x.data.ty, .slice p3 q3 r3, .slice p4 q4 r4, .slice p5 q5 r5, .slice p6 q6 r6] 107)).drew := hbd.alloc (Nat.le_refl _) _
        have hbB : Below W2.heap.size W2 ((W2.alloc (.cells #[.int .i64 x.data.ty, .slice p3 q3 r3, .slice p4 q4 r4, .slice p5 q5 r5, .slice p6 q6 r6] 107)).alloc (.cells #[.slice p0 q0 r0, .int .i64 x.data.ty, .int .u32 (x.ttl : Int), .slice (some ⟨W2.heap.size, 0, none⟩) 1 1] 41)).drew := hbA.alloc (by simp) _
        have hsz := HB2.out.size
        obtain ⟨c0, c1, c2, c3, c4, c5, c6⟩ := HE.out W2.drew (HB2.out.trans (hbd.mono hsz))
        obtain ⟨d0, d1, d2, d3, d4, d5, d6⟩ := HE.out ((W2.alloc (.cells #[.int .i64 x.data.ty, .slice p3 q3 r3, .slice p4 q4 r4, .slice p5 q5 r5, .slice p6 q6 r6] 107)).drew) (HB2.out.trans (hbA.mono hsz))
        have HOS := Lib.hid (OwnK.below HO2.out hbB)
        have HSS := Lib.hid (HS2.out.below hbB)
        have HWS := Lib.hid (HB2.out.trans (hbB.mono hsz))
        have hkB := knew (W2.drew.alloc (.cells #[.int .i64 x.data.ty, .slice p3 q3 r3, .slice p4 q4 r4, .slice p5 q5 r5, .slice p6 q6 r6] 107)) (.cells #[.slice p0 q0 r0, .int .i64 x.data.ty, .int .u32 (x.ttl : Int), .slice (some ⟨W2.heap.size, 0, none⟩) 1 1] 41)
        rw [World.size_alloc] at hkB
        have HKB := Lib.hid (show ((W2.alloc (.cells #[.int .i64 x.data.ty, .slice p3 q3 r3, .slice p4 q4 r4, .slice p5 q5 r5, .slice p6 q6 r6] 107)).alloc (.cells #[.slice p0 q0 r0, .int .i64 x.data.ty, .int .u32 (x.ttl : Int), .slice (some ⟨W2.heap.size, 0, none⟩) 1 1] 41)).drew.heap[W2.heap.size + 1]? = some (.cells #[.slice p0 q0 r0, .int .i64 x.data.ty, .int .u32 (x.ttl : Int), .slice (some ⟨W2.heap.size, 0, none⟩) 1 1] 41) from hkB)
        have ho1 : OwnC 5 107 (W2.drew.alloc (.cells #[.int .i64 x.data.ty, .slice p3 q3 r3, .slice p4 q4 r4, .slice p5 q5 r5, .slice p6 q6 r6] 107)) W2.heap.size (.slice (some ⟨W2.heap.size, 0, none⟩) 1 1) [[.int .i64 x.data.ty, .slice p3 q3 r3, .slice p4 q4 r4, .slice p5 q5 r5, .slice p6 q6 r6]] := own_one W2.drew (cs := [.int .i64 x.data.ty, .slice p3 q3 r3, .slice p4 q4 r4, .slice p5 q5 r5, .slice p6 q6 r6]) rfl
        have HO1 := Lib.hid (show OwnC 5 107 ((W2.alloc (.cells #[.int .i64 x.data.ty, .slice p3 q3 r3, .slice p4 q4 r4, .slice p5 q5 r5, .slice p6 q6 r6] 107)).alloc (.cells #[.slice p0 q0 r0, .int .i64 x.data.ty, .int .u32 (x.ttl : Int), .slice (some ⟨W2.heap.size, 0, none⟩) 1 1] 41)).drew w1.heap.size (.slice (some ⟨W2.heap.size, 0, none⟩) 1 1) [[.int .i64 x.data.ty, .slice p3 q3 r3, .slice p4 q4 r4, .slice p5 q5 r5, .slice p6 q6 r6]] from OwnK.weaken (OwnK.alloc ho1 _) hsz)
        have HN4 := Lib.hid (show RSet w0 ((W2.alloc (.cells #[.int .i64 x.data.ty, .slice p3 q3 r3, .slice p4 q4 r4, .slice p5 q5 r5, .slice p6 q6 r6] 107)).alloc (.cells #[.slice p0 q0 r0, .int .i64 x.data.ty, .int .u32 (x.ttl : Int), .slice (some ⟨W2.heap.size, 0, none⟩) 1 1] 41)).drew w1.heap.size [.slice p0 q0 r0, .int .i64 x.data.ty, .int .u32 (x.ttl : Int), .slice (some ⟨W2.heap.size, 0, none⟩) 1 1] (newS x) from ⟨(p0, q0, r0), (some ⟨W2.heap.size, 0, none⟩, 1, 1), [[.int .i64 x.data.ty, .slice p3 q3 r3, .slice p4 q4 r4, .slice p5 q5 r5, .slice p6 q6 r6]], rfl, HNO.out, HO1.out, (Dts.nil w0).snoc rfl HDA.out⟩)
        have H11 := Lib.hid (step_append_h (((W2.alloc (.cells #[.int .i64 x.data.ty, .slice p3 q3 r3, .slice p4 q4 r4, .slice p5 q5 r5, .slice p6 q6 r6] 107)).alloc (.cells #[.slice p0 q0 r0, .int .i64 x.data.ty, .int .u32 (x.ttl : Int), .slice (some ⟨W2.heap.size, 0, none⟩) 1 1] 41)).drew) (.tmp 85) (.tmp 109) elem_refS (by decide) w1.heap.size (.slice ga m gc) (css) (HOS.out) (.slice (some ⟨W2.heap.size + 1, 0, none⟩) 1 1) ([[.slice p0 q0 r0, .int .i64 x.data.ty, .int .u32 (x.ttl : Int), .slice (some ⟨W2.heap.size, 0, none⟩) 1 1]]) (slK_blk (css := [[.slice p0 q0 r0, .int .i64 x.data.ty, .int .u32 (x.ttl : Int), .slice (some ⟨W2.heap.size, 0, none⟩) 1 1]]) HKB.out) (lenS _ _ _ _) (one4 rfl rfl rfl rfl) (HWS.out.size) (by have := HL.out; have := HNK.out; unfold maxLen; simp only [List.length_cons, List.length_nil]; omega) (by have := HL.out; have := HNK.out; simp only [List.length_cons, List.length_nil]; omega))
        clear hbd hbA hbB hkB ho1 hsz c0 c1 c2 c3 c4 c5 c6 d0 d1 d2 d3 d4 d5 d6
        have KC := Lib.hid (fun W (hb : Below w1.heap.size w1 W) => (show (W.cell? ⟨b, off + i * 7, none⟩ = some (.slice p0 q0 r0) ∧ W.cell? ⟨b, off + i * 7 + 1, none⟩ = some (.int .u32 (x.ttl : Int)) ∧ W.cell? ⟨b, off + i * 7 + 2, none⟩ = some (.int .i64 x.data.ty) ∧ W.cell? ⟨b, off + i * 7 + 3, none⟩ = some (.slice p3 q3 r3) ∧ W.cell? ⟨b, off + i * 7 + 4, none⟩ = some (.slice p4 q4 r4) ∧ W.cell? ⟨b, off + i * 7 + 5, none⟩ = some (.slice p5 q5 r5) ∧ W.cell? ⟨b, off + i * 7 + 6, none⟩ = some (.slice p6 q6 r6) ∧ Below w1.heap.size w1 W) from by
          obtain ⟨k0, k1, k2, k3, k4, k5, k6⟩ := HE.out W hb
          exact ⟨k0, k1, k2, k3, k4, k5, k6, hb⟩))
        have KR := Lib.hid (fun W (h : (W.cell? ⟨b, off + i * 7, none⟩ = some (.slice p0 q0 r0) ∧ W.cell? ⟨b, off + i * 7 + 1, none⟩ = some (.int .u32 (x.ttl : Int)) ∧ W.cell? ⟨b, off + i * 7 + 2, none⟩ = some (.int .i64 x.data.ty) ∧ W.cell? ⟨b, off + i * 7 + 3, none⟩ = some (.slice p3 q3 r3) ∧ W.cell? ⟨b, off + i * 7 + 4, none⟩ = some (.slice p4 q4 r4) ∧ W.cell? ⟨b, off + i * 7 + 5, none⟩ = some (.slice p5 q5 r5) ∧ W.cell? ⟨b, off + i * 7 + 6, none⟩ = some (.slice p6 q6 r6) ∧ Below w1.heap.size w1 W)) => KC.out W.drew (h.2.2.2.2.2.2.2.trans ⟨rfl, rfl, rfl, Nat.le_refl _, fun _ _ => rfl⟩))
        have KA := Lib.hid (fun W o (h : (W.cell? ⟨b, off + i * 7, none⟩ = some (.slice p0 q0 r0) ∧ W.cell? ⟨b, off + i * 7 + 1, none⟩ = some (.int .u32 (x.ttl : Int)) ∧ W.cell? ⟨b, off + i * 7 + 2, none⟩ = some (.int .i64 x.data.ty) ∧ W.cell? ⟨b, off + i * 7 + 3, none⟩ = some (.slice p3 q3 r3) ∧ W.cell? ⟨b, off + i * 7 + 4, none⟩ = some (.slice p4 q4 r4) ∧ W.cell? ⟨b, off + i * 7 + 5, none⟩ = some (.slice p5 q5 r5) ∧ W.cell? ⟨b, off + i * 7 + 6, none⟩ = some (.slice p6 q6 r6) ∧ Below w1.heap.size w1 W)) => KC.out (W.alloc o) (h.2.2.2.2.2.2.2.alloc h.2.2.2.2.2.2.2.size o))
        have hS0 := KC.out W2 HB2.out
        go_wp2_with fail
        go_region_held3 (fun W => W.cell? ⟨b, off + i * 7, none⟩ = some (.slice p0 q0 r0) ∧ W.cell? ⟨b, off + i * 7 + 1, none⟩ = some (.int .u32 (x.ttl : Int)) ∧ W.cell? ⟨b, off + i * 7 + 2, none⟩ = some (.int .i64 x.data.ty) ∧ W.cell? ⟨b, off + i * 7 + 3, none⟩ = some (.slice p3 q3 r3) ∧ W.cell? ⟨b, off + i * 7 + 4, none⟩ = some (.slice p4 q4 r4) ∧ W.cell? ⟨b, off + i * 7 + 5, none⟩ = some (.slice p5 q5 r5) ∧ W.cell? ⟨b, off + i * 7 + 6, none⟩ = some (.slice p6 q6 r6) ∧ Below w1.heap.size w1 W)
          (first | with_reducible assumption | (with_reducible exact KR.out _ (by with_reducible assumption)) | (with_reducible exact KA.out _ _ (by with_reducible assumption)) | (with_reducible exact KR.out _ (KA.out _ _ (by with_reducible assumption))) | (with_reducible exact KA.out _ _ (KR.out _ (by with_reducible assumption))) | (with_reducible exact KR.out _ (KA.out _ _ (KA.out _ _ (by with_reducible assumption)))))
          (first | ((with_reducible refine H11.out _ _ _ _ _ _ ?_ ?_ ?_ ?_ ?_); exact rfl; exact rfl; exact rfl; exact rfl; intro v8 w8 ho8 hg8; have hb8 := HWS.out.grown hg8 HWS.out.size (OwnK.base_le HOS.out); have hS2 := KC.out w8 hb8; have HO8 := Lib.hid ho8; have HG8 := Lib.hid hg8; clear ho8 hg8))
        all_goals
          have HN8 := Lib.hid ((HSS.out.grown HOS.out HG8.out).snoc (HN4.out.grown HOS.out HG8.out))
          have HB8 := Lib.hid (HWS.out.grown HG8.out HWS.out.size (OwnK.base_le HOS.out))
          obtain ⟨a8, c8, e8⟩ := OwnK.shape HO8.out
          have hl8 : (css ++ ([[.slice p0 q0 r0, .int .i64 x.data.ty, .int .u32 (x.ttl : Int), .slice (some ⟨W2.heap.size, 0, none⟩) 1 1]] : List (List Value))).length = m + 1 := by rw [List.length_append, HL.out]; rfl
          rw [hl8] at e8
          subst e8
          clear HG8 hS0 hS2
          go_wp2_with fail
          go_roundg (n - (i + 1))
          case measure => omega
          case rel => exact ⟨i + 1, m + 1, a8, c8, _, rfl, by go_num, by omega, by omega, by omega, Lib.hid hl8, HO8, Lib.hid (by rw [HST.out]; exact HN8.out), HB8⟩
      obtain ⟨pre, s, hpre⟩ : ∃ pre s, refSets (C.take i) = pre ++ [s] := by
        rcases List.eq_nil_or_concat (refSets (C.take i)) with e | ⟨pre, s, e⟩
        · have h := HSL.out; rw [e] at h; simp at h; omega
        · exact ⟨pre, s, by rw [e, List.concat_eq_append]⟩
      obtain ⟨k, hk⟩ : ∃ k, pre.length = k := ⟨_, rfl⟩
      have hmk1 : m = k + 1 := by have h := HSL.out; rw [hpre] at h; simp at h; omega
      have HPRE := Lib.hid hpre; have HPL := Lib.hid hk
      have hkl : k < css.length := by have := HL.out; omega
      have hks : k < (refSets (C.take i)).length := by have := HSL.out; omega
      obtain ⟨g, cur, rfl, hgb, hgw, hgc⟩ := OwnC.someK HO.out (by omega)
      obtain ⟨⟨u0, v0, y0⟩, ⟨u3, v3, y3⟩, ds, e4, hns, hdo, hdd⟩ := HS.out.2 k hkl hks
      have hse : (refSets (C.take i))[k]'hks = s := by
        have : (pre ++ [s])[k]'(by rw [← hpre]; exact hks) = s := by simp [← hk]
        simpa only [hpre] using this
      rw [hse] at e4 hns hdd
      unfold slW at e4 hns hdo
      simp only at e4 hns hdo
      obtain ⟨g', o', eg, hg', heo⟩ := (SlK.of_own HO.out HS.out.len4).elem4 HS.out.len4 (by omega)
      cases eg
      have hj := fun W (hb : Below wr.heap.size wr W) => heo k hkl _ _ _ _ e4 W hb
      simp only [Nat.zero_add] at hj
      have HJ := Lib.hid hj; have HE4 := Lib.hid (show ∀ (h : k < css.length) (z : Value), (css[k]'h).set 3 z = [.slice u0 v0 y0, .int .i64 s.ty, .int .u32 (s.ttl : Int), z] from fun h z => by rw [e4]; rfl)
      have HGR := Lib.hid hgw; have HGB := Lib.hid hgb
      have HNS := Lib.hid hns; have HDO := Lib.hid hdo; have HDD := Lib.hid hdd
      have hoks : NmOK s.owner := by
        obtain ⟨r, h1, h2⟩ := refSets_own (C.take i) s (by rw [hpre]; simp)
        rw [h2]; exact (HOKC.out r (List.mem_of_mem_take h1)).1
      have hdn : v3 = ds.length := by
        obtain ⟨_, _, e⟩ := OwnK.shape hdo
        injection e
      have HDN := Lib.hid (show ds.length ≤ 1000000 by
        rw [hdd.1]
        have h := sets_count _ (C.take i) (Nat.le_refl _)
        rw [← refSets_eq, hpre, List.map_append, List.sum_append, List.length_take] at h
        simp only [List.map_cons, List.map_nil, List.sum_cons, List.sum_nil, Nat.add_zero] at h
        omega)
      have hmk : (m : Int) - 1 = (k : Int) := by omega
      have hk0 : (0 : Int) ≤ (k : Int) := by omega
      have hkm : (k : Int) < (m : Int) := by omega
      obtain ⟨t1, ht1⟩ : ∃ t, sameN s.owner x.owner = t := ⟨_, rfl⟩
      have b6 := fun p : WIn (fun W => Below wr.heap.size wr W) => HW01.out.trans ((HB.out.trans (p.ok.mono HB.out.size)).mono HW01.out.size)
      have f0 := fun p : WIn (fun W => Below wr.heap.size wr W) => HE.out p.w (HB.out.trans (p.ok.mono HB.out.size))
      have f1 := fun p : WIn (fun W => Below wr.heap.size wr W) => hj p.w p.ok
      have hc1 := fun p : WIn (fun W => Below wr.heap.size wr W) => Calls.cls (C := fun W => Below wr.heap.size wr W) ((kn_RSame (.slice u0 v0 y0) (.slice p0 q0 r0) s.owner x.owner t1 ht1 p.w (HNS.out.below (b6 p)) (HNO.out.below (b6 p)) hoks HOKX.out.1).mono fun _ _ ⟨hq, hb⟩ => ⟨hq, p.ok.trans (hb.mono p.ok.size)⟩)
      have h0 := fun p => (f0 p).1; have h2 := fun p => (f0 p).2.2.1
      have j0 := fun p => (f1 p).1; have j1 := fun p => (f1 p).2.1
      have g0 := hne; have g1 := hne
      clear hj heo hg' e4 hns hdo hdd hgb hgw hoks hse hks hkl hk hpre f0 f1 b6 hdn hmk1
      cases t1
      · have HST := Lib.hid (show refSets (C.take (i + 1)) = refSets (C.take i) ++ [newS x] by
          rw [hst, HPRE.out, stepS_snoc, if_neg (by unfold hitS; rw [ht1]; simp)])
        clear hst ht1
        go_wp2_with fail
        refine wp_region_cls (fun W => Below wr.heap.size wr W) follows_mixed (by kernel_rfl) hcl ?_
        repeat (go_big_quiet_step (exact hc1 _))
        refine wpQuiet_nil ?_
        rintro _ ⟨p, rfl⟩
        clear h0 h2 j0 j1 hc1
        have HP := Lib.hid p.ok
        clear g0 g1
        have HO2 := Lib.hid (OwnK.below HO.out HP.out)
        have HS2 := Lib.hid (HS.out.below HP.out)
        have HB2 := Lib.hid (HB.out.trans (HP.out.mono HB.out.size))
        generalize p.w = W2 at *
        have hbd : Below W2.heap.size W2 W2.drew := ⟨rfl, rfl, rfl, Nat.le_refl _, fun _ _ => rfl⟩
        have hbA : Below W2.heap.size W2 (W2.alloc (.cells #[.int .i64 x.data.ty, .slice p3 q3 r3, .slice p4 q4 r4, .slice p5 q5 r5, .slice p6 q6 r6] 107)).drew := hbd.alloc (Nat.le_refl _) _
        have hbB : Below W2.heap.size W2 ((W2.alloc (.cells #[.int .i64 x.data.ty, .slice p3 q3 r3, .slice p4 q4 r4, .slice p5 q5 r5, .slice p6 q6 r6] 107)).alloc (.cells #[.slice p0 q0 r0, .int .i64 x.data.ty, .int .u32 (x.ttl : Int), .slice (some ⟨W2.heap.size, 0, none⟩) 1 1] 41)).drew := hbA.alloc (by simp) _
        have hsz := HB2.out.size
        obtain ⟨c0, c1, c2, c3, c4, c5, c6⟩ := HE.out W2.drew (HB2.out.trans (hbd.mono hsz))
        obtain ⟨d0, d1, d2, d3, d4, d5, d6⟩ := HE.out ((W2.alloc (.cells #[.int .i64 x.data.ty, .slice p3 q3 r3, .slice p4 q4 r4, .slice p5 q5 r5, .slice p6 q6 r6] 107)).drew) (HB2.out.trans (hbA.mono hsz))
        have HOS := Lib.hid (OwnK.below HO2.out hbB)
        have HSS := Lib.hid (HS2.out.below hbB)
        have HWS := Lib.hid (HB2.out.trans (hbB.mono hsz))
        have hkB := knew (W2.drew.alloc (.cells #[.int .i64 x.data.ty, .slice p3 q3 r3, .slice p4 q4 r4, .slice p5 q5 r5, .slice p6 q6 r6] 107)) (.cells #[.slice p0 q0 r0, .int .i64 x.data.ty, .int .u32 (x.ttl : Int), .slice (some ⟨W2.heap.size, 0, none⟩) 1 1] 41)
        rw [World.size_alloc] at hkB
        have HKB := Lib.hid (show ((W2.alloc (.cells #[.int .i64 x.data.ty, .slice p3 q3 r3, .slice p4 q4 r4, .slice p5 q5 r5, .slice p6 q6 r6] 107)).alloc (.cells #[.slice p0 q0 r0, .int .i64 x.data.ty, .int .u32 (x.ttl : Int), .slice (some ⟨W2.heap.size, 0, none⟩) 1 1] 41)).drew.heap[W2.heap.size + 1]? = some (.cells #[.slice p0 q0 r0, .int .i64 x.data.ty, .int .u32 (x.ttl : Int), .slice (some ⟨W2.heap.size, 0, none⟩) 1 1] 41) from hkB)
        have ho1 : OwnC 5 107 (W2.drew.alloc (.cells #[.int .i64 x.data.ty, .slice p3 q3 r3, .slice p4 q4 r4, .slice p5 q5 r5, .slice p6 q6 r6] 107)) W2.heap.size (.slice (some ⟨W2.heap.size, 0, none⟩) 1 1) [[.int .i64 x.data.ty, .slice p3 q3 r3, .slice p4 q4 r4, .slice p5 q5 r5, .slice p6 q6 r6]] := own_one W2.drew (cs := [.int .i64 x.data.ty, .slice p3 q3 r3, .slice p4 q4 r4, .slice p5 q5 r5, .slice p6 q6 r6]) rfl
        have HO1 := Lib.hid (show OwnC 5 107 ((W2.alloc (.cells #[.int .i64 x.data.ty, .slice p3 q3 r3, .slice p4 q4 r4, .slice p5 q5 r5, .slice p6 q6 r6] 107)).alloc (.cells #[.slice p0 q0 r0, .int .i64 x.data.ty, .int .u32 (x.ttl : Int), .slice (some ⟨W2.heap.size, 0, none⟩) 1 1] 41)).drew w1.heap.size (.slice (some ⟨W2.heap.size, 0, none⟩) 1 1) [[.int .i64 x.data.ty, .slice p3 q3 r3, .slice p4 q4 r4, .slice p5 q5 r5, .slice p6 q6 r6]] from OwnK.weaken (OwnK.alloc ho1 _) hsz)
        have HN4 := Lib.hid (show RSet w0 ((W2.alloc (.cells #[.int .i64 x.data.ty, .slice p3 q3 r3, .slice p4 q4 r4, .slice p5 q5 r5, .slice p6 q6 r6] 107)).alloc (.cells #[.slice p0 q0 r0, .int .i64 x.data.ty, .int .u32 (x.ttl : Int), .slice (some ⟨W2.heap.size, 0, none⟩) 1 1] 41)).drew w1.heap.size [.slice p0 q0 r0, .int .i64 x.data.ty, .int .u32 (x.ttl : Int), .slice (some ⟨W2.heap.size, 0, none⟩) 1 1] (newS x) from ⟨(p0, q0, r0), (some ⟨W2.heap.size, 0, none⟩, 1, 1), [[.int .i64 x.data.ty, .slice p3 q3 r3, .slice p4 q4 r4, .slice p5 q5 r5, .slice p6 q6 r6]], rfl, HNO.out, HO1.out, (Dts.nil w0).snoc rfl HDA.out⟩)
        have H11 := Lib.hid (step_append_h (((W2.alloc (.cells #[.int .i64 x.data.ty, .slice p3 q3 r3, .slice p4 q4 r4, .slice p5 q5 r5, .slice p6 q6 r6] 107)).alloc (.cells #[.slice p0 q0 r0, .int .i64 x.data.ty, .int .u32 (x.ttl : Int), .slice (some ⟨W2.heap.size, 0, none⟩) 1 1] 41)).drew) (.tmp 85) (.tmp 109) elem_refS (by decide) w1.heap.size (.slice (some ⟨g, 0, none⟩) m gc) (css) (HOS.out) (.slice (some ⟨W2.heap.size + 1, 0, none⟩) 1 1) ([[.slice p0 q0 r0, .int .i64 x.data.ty, .int .u32 (x.ttl : Int), .slice (some ⟨W2.heap.size, 0, none⟩) 1 1]]) (slK_blk (css := [[.slice p0 q0 r0, .int .i64 x.data.ty, .int .u32 (x.ttl : Int), .slice (some ⟨W2.heap.size, 0, none⟩) 1 1]]) HKB.out) (lenS _ _ _ _) (one4 rfl rfl rfl rfl) (HWS.out.size) (by have := HL.out; have := HNK.out; unfold maxLen; simp only [List.length_cons, List.length_nil]; omega) (by have := HL.out; have := HNK.out; simp only [List.length_cons, List.length_nil]; omega))
        clear hbd hbA hbB hkB ho1 hsz c0 c1 c2 c3 c4 c5 c6 d0 d1 d2 d3 d4 d5 d6
        have KC := Lib.hid (fun W (hb : Below w1.heap.size w1 W) => (show (W.cell? ⟨b, off + i * 7, none⟩ = some (.slice p0 q0 r0) ∧ W.cell? ⟨b, off + i * 7 + 1, none⟩ = some (.int .u32 (x.ttl : Int)) ∧ W.cell? ⟨b, off + i * 7 + 2, none⟩ = some (.int .i64 x.data.ty) ∧ W.cell? ⟨b, off + i * 7 + 3, none⟩ = some (.slice p3 q3 r3) ∧ W.cell? ⟨b, off + i * 7 + 4, none⟩ = some (.slice p4 q4 r4) ∧ W.cell? ⟨b, off + i * 7 + 5, none⟩ = some (.slice p5 q5 r5) ∧ W.cell? ⟨b, off + i * 7 + 6, none⟩ = some (.slice p6 q6 r6) ∧ Below w1.heap.size w1 W) from by
          obtain ⟨k0, k1, k2, k3, k4, k5, k6⟩ := HE.out W hb
          exact ⟨k0, k1, k2, k3, k4, k5, k6, hb⟩))
        have KR := Lib.hid (fun W (h : (W.cell? ⟨b, off + i * 7, none⟩ = some (.slice p0 q0 r0) ∧ W.cell? ⟨b, off + i * 7 + 1, none⟩ = some (.int .u32 (x.ttl : Int)) ∧ W.cell? ⟨b, off + i * 7 + 2, none⟩ = some (.int .i64 x.data.ty) ∧ W.cell? ⟨b, off + i * 7 + 3, none⟩ = some (.slice p3 q3 r3) ∧ W.cell? ⟨b, off + i * 7 + 4, none⟩ = some (.slice p4 q4 r4) ∧ W.cell? ⟨b, off + i * 7 + 5, none⟩ = some (.slice p5 q5 r5) ∧ W.cell? ⟨b, off + i * 7 + 6, none⟩ = some (.slice p6 q6 r6) ∧ Below w1.heap.size w1 W)) => KC.out W.drew (h.2.2.2.2.2.2.2.trans ⟨rfl, rfl, rfl, Nat.le_refl _, fun _ _ => rfl⟩))
        have KA := Lib.hid (fun W o (h : (W.cell? ⟨b, off + i * 7, none⟩ = some (.slice p0 q0 r0) ∧ W.cell? ⟨b, off + i * 7 + 1, none⟩ = some (.int .u32 (x.ttl : Int)) ∧ W.cell? ⟨b, off + i * 7 + 2, none⟩ = some (.int .i64 x.data.ty) ∧ W.cell? ⟨b, off + i * 7 + 3, none⟩ = some (.slice p3 q3 r3) ∧ W.cell? ⟨b, off + i * 7 + 4, none⟩ = some (.slice p4 q4 r4) ∧ W.cell? ⟨b, off + i * 7 + 5, none⟩ = some (.slice p5 q5 r5) ∧ W.cell? ⟨b, off + i * 7 + 6, none⟩ = some (.slice p6 q6 r6) ∧ Below w1.heap.size w1 W)) => KC.out (W.alloc o) (h.2.2.2.2.2.2.2.alloc h.2.2.2.2.2.2.2.size o))
        have hS0 := KC.out W2 HB2.out
        go_wp2_with fail
        go_region_held3 (fun W => W.cell? ⟨b, off + i * 7, none⟩ = some (.slice p0 q0 r0) ∧ W.cell? ⟨b, off + i * 7 + 1, none⟩ = some (.int .u32 (x.ttl : Int)) ∧ W.cell? ⟨b, off + i * 7 + 2, none⟩ = some (.int .i64 x.data.ty) ∧ W.cell? ⟨b, off + i * 7 + 3, none⟩ = some (.slice p3 q3 r3) ∧ W.cell? ⟨b, off + i * 7 + 4, none⟩ = some (.slice p4 q4 r4) ∧ W.cell? ⟨b, off + i * 7 + 5, none⟩ = some (.slice p5 q5 r5) ∧ W.cell? ⟨b, off + i * 7 + 6, none⟩ = some (.slice p6 q6 r6) ∧ Below w1.heap.size w1 W)
          (first | with_reducible assumption | (with_reducible exact KR.out _ (by with_reducible assumption)) | (with_reducible exact KA.out _ _ (by with_reducible assumption)) | (with_reducible exact KR.out _ (KA.out _ _ (by with_reducible assumption))) | (with_reducible exact KA.out _ _ (KR.out _ (by with_reducible assumption))) | (with_reducible exact KR.out _ (KA.out _ _ (KA.out _ _ (by with_reducible assumption)))))
          (first | ((with_reducible refine H11.out _ _ _ _ _ _ ?_ ?_ ?_ ?_ ?_); exact rfl; exact rfl; exact rfl; exact rfl; intro v8 w8 ho8 hg8; have hb8 := HWS.out.grown hg8 HWS.out.size (OwnK.base_le HOS.out); have hS2 := KC.out w8 hb8; have HO8 := Lib.hid ho8; have HG8 := Lib.hid hg8; clear ho8 hg8))
        all_goals
          have HN8 := Lib.hid ((HSS.out.grown HOS.out HG8.out).snoc (HN4.out.grown HOS.out HG8.out))
          have HB8 := Lib.hid (HWS.out.grown HG8.out HWS.out.size (OwnK.base_le HOS.out))
          obtain ⟨a8, c8, e8⟩ := OwnK.shape HO8.out
          have hl8 : (css ++ ([[.slice p0 q0 r0, .int .i64 x.data.ty, .int .u32 (x.ttl : Int), .slice (some ⟨W2.heap.size, 0, none⟩) 1 1]] : List (List Value))).length = m + 1 := by rw [List.length_append, HL.out]; rfl
          rw [hl8] at e8
          subst e8
          clear HG8 hS0 hS2
          go_wp2_with fail
          go_roundg (n - (i + 1))
          case measure => omega
          case rel => exact ⟨i + 1, m + 1, a8, c8, _, rfl, by go_num, by omega, by omega, by omega, Lib.hid hl8, HO8, Lib.hid (by rw [HST.out]; exact HN8.out), HB8⟩
      · by_cases hty : s.ty = x.data.ty
        · have HST := Lib.hid (show refSets (C.take (i + 1)) = pre ++ [joinS s x] by
            rw [hst, HPRE.out, stepS_snoc, if_pos (by unfold hitS; rw [ht1, decide_eq_true hty]; rfl)])
          have HTY := Lib.hid hty
          have htyb : (s.ty == x.data.ty) = true := by simpa using hty
          clear hst ht1 hty
          go_wp2_with fail
          refine wp_region_cls (fun W => Below wr.heap.size wr W) follows_mixed (by kernel_rfl) hcl ?_
          repeat (go_big_quiet_step (exact hc1 _))
          refine wpQuiet_nil ?_
          rintro _ ⟨p, rfl⟩
          clear h0 h2 j0 j1 hc1 htyb
          have HP := Lib.hid p.ok
          clear g0 g1
          have HO2 := Lib.hid (OwnK.below HO.out HP.out)
          have HS2 := Lib.hid (HS.out.below HP.out)
          have HB2 := Lib.hid (HB.out.trans (HP.out.mono HB.out.size))
          have HGW := Lib.hid ((HP.out.block _ (kblock_lt HGR.out)).trans HGR.out)
          have HEO := Lib.hid (fun W (hb : Below p.w.heap.size p.w W) => (HJ.out W (HP.out.trans (hb.mono HP.out.size))).2.2.2)
          have HDO2 := Lib.hid (OwnK.below HDO.out HP.out)
          have HSD := Lib.hid (SlK.of_own HDO2.out (dts_len HDD.out))
          generalize p.w = W2 at *
          have HSZ := Lib.hid HB2.out.size
          have hsz := HB2.out.size
          have hbd : Below W2.heap.size W2 W2.drew := ⟨rfl, rfl, rfl, Nat.le_refl _, fun _ _ => rfl⟩
          have hbA : Below W2.heap.size W2 (W2.alloc (.cells #[] 107)).drew := hbd.alloc (Nat.le_refl _) _
          have hbX : Below W2.heap.size W2 (W2.alloc (.cells #[.int .i64 x.data.ty, .slice p3 q3 r3, .slice p4 q4 r4, .slice p5 q5 r5, .slice p6 q6 r6] 107)).drew := hbd.alloc (Nat.le_refl _) _
          have hbB : Below W2.heap.size W2 ((W2.alloc (.cells #[] 107)).alloc (.cells #[.int .i64 x.data.ty, .slice p3 q3 r3, .slice p4 q4 r4, .slice p5 q5 r5, .slice p6 q6 r6] 107)).drew := hbA.alloc (by simp) _
          have hbC : Below W2.heap.size W2 ((W2.alloc (.cells #[.int .i64 x.data.ty, .slice p3 q3 r3, .slice p4 q4 r4, .slice p5 q5 r5, .slice p6 q6 r6] 107)).alloc (.cells #[] 107)).drew := hbX.alloc (by simp) _
          have HBA := Lib.hid hbA; have HBB := Lib.hid hbB; have HBC := Lib.hid hbC
          have HOA := Lib.hid (show OwnC 5 107 (W2.alloc (.cells #[] 107)).drew W2.heap.size (.slice (some ⟨W2.heap.size, 0, none⟩) 0 0) [] from ownC_lit 5 107 W2.drew)
          have HOB := Lib.hid (show OwnC 5 107 ((W2.alloc (.cells #[] 107)).alloc (.cells #[.int .i64 x.data.ty, .slice p3 q3 r3, .slice p4 q4 r4, .slice p5 q5 r5, .slice p6 q6 r6] 107)).drew W2.heap.size (.slice (some ⟨W2.heap.size, 0, none⟩) 0 0) [] from OwnK.alloc (ownC_lit 5 107 W2.drew) _)
          have hoC := ownC_lit 5 107 (W2.drew.alloc (.cells #[.int .i64 x.data.ty, .slice p3 q3 r3, .slice p4 q4 r4, .slice p5 q5 r5, .slice p6 q6 r6] 107))
          rw [World.size_alloc] at hoC
          have HOC := Lib.hid (show OwnC 5 107 ((W2.alloc (.cells #[.int .i64 x.data.ty, .slice p3 q3 r3, .slice p4 q4 r4, .slice p5 q5 r5, .slice p6 q6 r6] 107)).alloc (.cells #[] 107)).drew W2.heap.size (.slice (some ⟨W2.heap.size + 1, 0, none⟩) 0 0) [] from OwnK.weaken hoC (by show W2.heap.size ≤ W2.heap.size + 1; omega))
          have hkB := knew (W2.drew.alloc (.cells #[] 107)) (.cells #[.int .i64 x.data.ty, .slice p3 q3 r3, .slice p4 q4 r4, .slice p5 q5 r5, .slice p6 q6 r6] 107)
          rw [World.size_alloc] at hkB
          have HKB := Lib.hid (show ((W2.alloc (.cells #[] 107)).alloc (.cells #[.int .i64 x.data.ty, .slice p3 q3 r3, .slice p4 q4 r4, .slice p5 q5 r5, .slice p6 q6 r6] 107)).drew.heap[W2.heap.size + 1]? = some (.cells #[.int .i64 x.data.ty, .slice p3 q3 r3, .slice p4 q4 r4, .slice p5 q5 r5, .slice p6 q6 r6] 107) from hkB)
          have HKC := Lib.hid (show ((W2.alloc (.cells #[.int .i64 x.data.ty, .slice p3 q3 r3, .slice p4 q4 r4, .slice p5 q5 r5, .slice p6 q6 r6] 107)).alloc (.cells #[] 107)).drew.heap[W2.heap.size]? = some (.cells #[.int .i64 x.data.ty, .slice p3 q3 r3, .slice p4 q4 r4, .slice p5 q5 r5, .slice p6 q6 r6] 107) from (Below.heap_alloc (W2.drew.alloc (.cells #[.int .i64 x.data.ty, .slice p3 q3 r3, .slice p4 q4 r4, .slice p5 q5 r5, .slice p6 q6 r6] 107)) (.cells #[] 107) W2.heap.size (by simp)).trans (knew W2.drew (.cells #[.int .i64 x.data.ty, .slice p3 q3 r3, .slice p4 q4 r4, .slice p5 q5 r5, .slice p6 q6 r6] 107)))
          obtain ⟨c0, c1, c2, c3, c4, c5, c6⟩ := HE.out W2.drew (HB2.out.trans (hbd.mono hsz))
          obtain ⟨d0, d1, d2, d3, d4, d5, d6⟩ := HE.out (W2.alloc (.cells #[] 107)).drew (HB2.out.trans (hbA.mono hsz))
          have o0 := HEO.out W2.drew hbd
          have o1 := HEO.out (W2.alloc (.cells #[] 107)).drew hbA
          have o2 := HEO.out (W2.alloc (.cells #[.int .i64 x.data.ty, .slice p3 q3 r3, .slice p4 q4 r4, .slice p5 q5 r5, .slice p6 q6 r6] 107)).drew hbX
          have o3 := HEO.out ((W2.alloc (.cells #[] 107)).alloc (.cells #[.int .i64 x.data.ty, .slice p3 q3 r3, .slice p4 q4 r4, .slice p5 q5 r5, .slice p6 q6 r6] 107)).drew hbB
          have o4 := HEO.out ((W2.alloc (.cells #[.int .i64 x.data.ty, .slice p3 q3 r3, .slice p4 q4 r4, .slice p5 q5 r5, .slice p6 q6 r6] 107)).alloc (.cells #[] 107)).drew hbC
          have H4A := Lib.hid (step_append_h ((W2.alloc (.cells #[] 107)).drew) (.tmp 49) (.tmp 54) elem_refD (by decide) W2.heap.size (.slice (some ⟨W2.heap.size, 0, none⟩) 0 0) ([]) (HOA.out) (.slice u3 v3 y3) (ds) (HSD.out.below HBA.out) (dts_len HDD.out) (dts_one HDD.out) (HBA.out.size) (by have := HDN.out; unfold maxLen; simp only [List.length_nil]; omega) (by have := HDN.out; simp only [List.length_nil]; omega))
          have H4B := Lib.hid (step_append_h (((W2.alloc (.cells #[] 107)).alloc (.cells #[.int .i64 x.data.ty, .slice p3 q3 r3, .slice p4 q4 r4, .slice p5 q5 r5, .slice p6 q6 r6] 107)).drew) (.tmp 49) (.tmp 54) elem_refD (by decide) W2.heap.size (.slice (some ⟨W2.heap.size, 0, none⟩) 0 0) ([]) (HOB.out) (.slice u3 v3 y3) (ds) (HSD.out.below HBB.out) (dts_len HDD.out) (dts_one HDD.out) (HBB.out.size) (by have := HDN.out; unfold maxLen; simp only [List.length_nil]; omega) (by have := HDN.out; simp only [List.length_nil]; omega))
          have H4C := Lib.hid (step_append_h (((W2.alloc (.cells #[.int .i64 x.data.ty, .slice p3 q3 r3, .slice p4 q4 r4, .slice p5 q5 r5, .slice p6 q6 r6] 107)).alloc (.cells #[] 107)).drew) (.tmp 49) (.tmp 54) elem_refD (by decide) W2.heap.size (.slice (some ⟨W2.heap.size + 1, 0, none⟩) 0 0) ([]) (HOC.out) (.slice u3 v3 y3) (ds) (HSD.out.below HBC.out) (dts_len HDD.out) (dts_one HDD.out) (HBC.out.size) (by have := HDN.out; unfold maxLen; simp only [List.length_nil]; omega) (by have := HDN.out; simp only [List.length_nil]; omega))
          clear hbd hbA hbB hbC hbX hoC hkB hsz
          go_upto_region 8 with (fail)
          go_cut [] from 47 to 110 (fun wx => ∃ (a5 : Option Addr) (n5 z5 : Nat) (cur3 : Array Value), Hid (OwnC 4 41 wx w1.heap.size (.slice (some ⟨g, 0, none⟩) m gc) (css.set k [.slice u0 v0 y0, .int .i64 s.ty, .int .u32 (s.ttl : Int), .slice a5 n5 z5])) ∧ Hid (RSets w0 wx w1.heap.size (css.set k [.slice u0 v0 y0, .int .i64 s.ty, .int .u32 (s.ttl : Int), .slice a5 n5 z5]) ((refSets (C.take i)).set k ⟨s.owner, s.ty, s.ttl, s.data ++ [x.data]⟩)) ∧ Hid (Below w1.heap.size w1 wx) ∧ Hid (wx.heap[g]? = some (.cells cur3 41)))
          case first =>
            go_region_law (first
              | ((with_reducible refine H4A.out _ _ _ _ _ _ ?_ ?_ ?_ ?_ ?_); exact rfl; exact rfl; exact rfl; exact rfl; intro v4 w4 ho4 hg4; rw [List.nil_append] at ho4; have HO4 := Lib.hid ho4; have HB4 := Lib.hid (HBA.out.grown hg4 HBA.out.size (OwnK.base_le HOA.out)); have H10 := Lib.hid (step_append_h (w4.alloc (.cells #[.int .i64 x.data.ty, .slice p3 q3 r3, .slice p4 q4 r4, .slice p5 q5 r5, .slice p6 q6 r6] 107)) (.tmp 55) (.tmp 61) elem_refD (by decide) W2.heap.size v4 (ds) (OwnK.alloc HO4.out _) (.slice (some ⟨w4.heap.size, 0, none⟩) 1 1) ([[.int .i64 x.data.ty, .slice p3 q3 r3, .slice p4 q4 r4, .slice p5 q5 r5, .slice p6 q6 r6]]) (slK_blk (css := [[.int .i64 x.data.ty, .slice p3 q3 r3, .slice p4 q4 r4, .slice p5 q5 r5, .slice p6 q6 r6]]) (knew w4 _)) (lenD _ _ _ _ _) (one5 rfl rfl rfl rfl rfl) (by have := HB4.out.size; simp; omega) (by have := HDN.out; unfold maxLen; simp only [List.length_cons, List.length_nil]; omega) (by have := HDN.out; simp only [List.length_cons, List.length_nil]; omega)); have H10B := Lib.hid (fun (w5 : World) (hg : World.grownBy (w4.alloc (.cells #[.int .i64 x.data.ty, .slice p3 q3 r3, .slice p4 q4 r4, .slice p5 q5 r5, .slice p6 q6 r6] 107)) w5 v4.ownBlock) => ((HB4.out.alloc HB4.out.size _).grown hg (by have := HB4.out.size; simp; omega) (OwnK.base_le HO4.out))); obtain ⟨e0, e1, e2, e3, e4, e5, e6⟩ := HE.out w4 (HB2.out.trans (HB4.out.mono HSZ.out)); clear ho4 hg4)
              | ((with_reducible refine H4B.out _ _ _ _ _ _ ?_ ?_ ?_ ?_ ?_); exact rfl; exact rfl; exact rfl; exact rfl; intro v4 w4 ho4 hg4; rw [List.nil_append] at ho4; have HO4 := Lib.hid ho4; have HB4 := Lib.hid (HBB.out.grown hg4 HBB.out.size (OwnK.base_le HOB.out)); have HBX := Lib.hid ((hg4.block (W2.heap.size + 1) (kblock_lt HKB.out) (by simp [Value.ownBlock])).trans HKB.out); have H10 := Lib.hid (step_append_h (w4) (.tmp 55) (.tmp 61) elem_refD (by decide) W2.heap.size v4 (ds) (HO4.out) (.slice (some ⟨W2.heap.size + 1, 0, none⟩) 1 1) ([[.int .i64 x.data.ty, .slice p3 q3 r3, .slice p4 q4 r4, .slice p5 q5 r5, .slice p6 q6 r6]]) (slK_blk (css := [[.int .i64 x.data.ty, .slice p3 q3 r3, .slice p4 q4 r4, .slice p5 q5 r5, .slice p6 q6 r6]]) (HBX.out)) (lenD _ _ _ _ _) (one5 rfl rfl rfl rfl rfl) (HB4.out.size) (by have := HDN.out; unfold maxLen; simp only [List.length_cons, List.length_nil]; omega) (by have := HDN.out; simp only [List.length_cons, List.length_nil]; omega)); have H10B := Lib.hid (fun (w5 : World) (hg : World.grownBy (w4) w5 v4.ownBlock) => (HB4.out.grown hg HB4.out.size (OwnK.base_le HO4.out))); clear ho4 hg4)
              | ((with_reducible refine H4C.out _ _ _ _ _ _ ?_ ?_ ?_ ?_ ?_); exact rfl; exact rfl; exact rfl; exact rfl; intro v4 w4 ho4 hg4; rw [List.nil_append] at ho4; have HO4 := Lib.hid ho4; have HB4 := Lib.hid (HBC.out.grown hg4 HBC.out.size (OwnK.base_le HOC.out)); have HBX := Lib.hid ((hg4.block W2.heap.size (kblock_lt HKC.out) (by simp [Value.ownBlock])).trans HKC.out); have H10 := Lib.hid (step_append_h (w4) (.tmp 55) (.tmp 61) elem_refD (by decide) W2.heap.size v4 (ds) (HO4.out) (.slice (some ⟨W2.heap.size, 0, none⟩) 1 1) ([[.int .i64 x.data.ty, .slice p3 q3 r3, .slice p4 q4 r4, .slice p5 q5 r5, .slice p6 q6 r6]]) (slK_blk (css := [[.int .i64 x.data.ty, .slice p3 q3 r3, .slice p4 q4 r4, .slice p5 q5 r5, .slice p6 q6 r6]]) (HBX.out)) (lenD _ _ _ _ _) (one5 rfl rfl rfl rfl rfl) (HB4.out.size) (by have := HDN.out; unfold maxLen; simp only [List.length_cons, List.length_nil]; omega) (by have := HDN.out; simp only [List.length_cons, List.length_nil]; omega)); have H10B := Lib.hid (fun (w5 : World) (hg : World.grownBy (w4) w5 v4.ownBlock) => (HB4.out.grown hg HB4.out.size (OwnK.base_le HO4.out))); clear ho4 hg4)
              | ((with_reducible refine H10.out _ _ _ _ _ _ ?_ ?_ ?_ ?_ ?_); exact rfl; exact rfl; exact rfl; exact rfl; intro v5 w5 ho5 hg5; have HB5 := Lib.hid (H10B.out w5 hg5); obtain ⟨a5, z5, e5⟩ := OwnK.shape ho5; generalize List.length (ds ++ _) = n5 at e5; subst e5; have HO5 := Lib.hid ho5; have hgx := (HB5.out.block g (kblock_lt HGW.out)).trans HGW.out; have cz := HEO.out w5 HB5.out; have fz := kfrozen hgx (k * 4 + 3); have HGX := Lib.hid hgx; clear ho5 hg5 hgx))
            all_goals
              have hkl : k < css.length := by have := HL.out; omega
              have HPUT := Lib.hid (OwnC.putK (OwnK.below HO2.out HB5.out) HS2.out.len4 k hkl 3 (by decide) (.slice a5 n5 z5))
              rw [HE4.out hkl] at HPUT
              have HD5 : Hid (OwnC 5 107 (w5.setCell ⟨g, k * 4 + 3, none⟩ (.slice a5 n5 z5)) w1.heap.size (slW (a5, n5, z5)) (ds ++ ([[.int .i64 x.data.ty, .slice p3 q3 r3, .slice p4 q4 r4, .slice p5 q5 r5, .slice p6 q6 r6]] : List (List Value)))) := Lib.hid (OwnK.weaken (OwnK.keptB HO5.out HGX.out (by decide) _ _) HSZ.out)
              have HR5 : Hid (RSet w0 (w5.setCell ⟨g, k * 4 + 3, none⟩ (.slice a5 n5 z5)) w1.heap.size [.slice u0 v0 y0, .int .i64 s.ty, .int .u32 (s.ttl : Int), .slice a5 n5 z5] ⟨s.owner, s.ty, s.ttl, s.data ++ [x.data]⟩) := Lib.hid ⟨(u0, v0, y0), (a5, n5, z5), _, rfl, HNS.out, HD5.out, HDD.out.snoc rfl HDA.out⟩
              have HS3 := Lib.hid (((HS2.out.below HB5.out).put HGX.out (k * 4 + 3) (.slice a5 n5 z5)).set k HR5.out)
              have HB3 := Lib.hid ((HB2.out.trans (HB5.out.mono HSZ.out)).setCell (p := ⟨g, k * 4 + 3, none⟩) HGB.out (.slice a5 n5 z5))
              have HGX3 := Lib.hid (kset HGX.out (k * 4 + 3) (.slice a5 n5 z5))
              go_wp2_with fail
              go_meet
              exact ⟨a5, n5, z5, _, HPUT, HS3, HB3, HGX3⟩
          case rest =>
            rename World => W3
            obtain ⟨a5, n5, z5, cur3, HPUT2, HS3, HB3, HGX3⟩ := hcut
            have hkl : k < css.length := by have := HL.out; omega
            clear c0 c1 c2 c3 c4 c5 c6 d0 d1 d2 d3 d4 d5 d6 o0 o1 o2 o3 o4 HS2 HO2 HEO H4A H4B H4C HOA HOB HOC HBA HBB HBC HKB HKC HP HO HS
            have hlk : k < (css.set k [.slice u0 v0 y0, .int .i64 s.ty, .int .u32 (s.ttl : Int), .slice a5 n5 z5]).length := by rw [List.length_set]; exact hkl
            obtain ⟨g', o', eg, hg', heo3⟩ := (SlK.of_own HPUT2.out HS3.out.len4).elem4 HS3.out.len4 (by omega)
            cases eg
            have hcl3 : Below W3.heap.size W3 W3.drew := ⟨rfl, rfl, rfl, Nat.le_refl _, fun _ _ => rfl⟩
            have hne3 : Nonempty (WIn (fun W => Below W3.heap.size W3 W)) := ⟨⟨_, hcl3⟩⟩
            have f0 := fun p : WIn (fun W => Below W3.heap.size W3 W) => (HE.out p.w (HB3.out.trans (p.ok.mono HB3.out.size))).2.1
            have f1 := fun p : WIn (fun W => Below W3.heap.size W3 W) => (heo3 k hlk _ _ _ _ (List.getElem_set_self hlk) p.w p.ok).2.2.1
            simp only [Nat.zero_add] at f1
            have HLS3 : Hid ((css.set k [.slice u0 v0 y0, .int .i64 s.ty, .int .u32 (s.ttl : Int), .slice a5 n5 z5]).length = m) := Lib.hid (by rw [List.length_set]; exact HL.out)
            generalize hCS : (css.set k [.slice u0 v0 y0, .int .i64 s.ty, .int .u32 (s.ttl : Int), .slice a5 n5 z5]) = css3 at *
            have HCS := Lib.hid (show css3[k]'hlk = [.slice u0 v0 y0, .int .i64 s.ty, .int .u32 (s.ttl : Int), .slice a5 n5 z5] by subst hCS; exact List.getElem_set_self _)
            clear heo3 hg' hCS hkl
            by_cases hlx : x.ttl < s.ttl
            · have hlxz : (x.ttl : Int) < (s.ttl : Int) := by omega
              have HEND := Lib.hid (show refSets (C.take (i + 1)) = ((refSets (C.take i)).set k ⟨s.owner, s.ty, s.ttl, s.data ++ [x.data]⟩).set k (joinS s x) by
                rw [HST.out, HPRE.out, List.set_set, ← HPL.out, set_lastS])
              have HJS := Lib.hid (show joinS s x = ⟨s.owner, s.ty, x.ttl, s.data ++ [x.data]⟩ by unfold joinS; rw [minT_lt hlx])
              go_wp2_with fail
              refine wp_region_cls (fun W => Below W3.heap.size W3 W) follows_mixed (by kernel_rfl) hcl3 ?_
              repeat (go_big_quiet_step (fail))
              refine wpQuiet_nil ?_
              rintro _ ⟨p3, rfl⟩
              have HP3 := Lib.hid p3.ok
              have hg3 := (HP3.out.block _ (kblock_lt HGX3.out)).trans HGX3.out
              have hfz := kfrozen hg3 (k * 4 + 2)
              have s1 := f0 p3
              have s2 := f1 p3
              have hpz := OwnC.putK (OwnK.below HPUT2.out HP3.out) HS3.out.len4 k hlk 2 (by decide) (.int .u32 (x.ttl : Int))
              rw [HCS.out] at hpz
              obtain ⟨z0, z3, dz, ez, nz, oz, tz⟩ := (HS3.out.below HP3.out).2 k hlk (by rw [← HS3.out.1]; exact hlk)
              have HPZ := Lib.hid (show OwnC 4 41 (p3.w.setCell ⟨g, k * 4 + 2, none⟩ (.int .u32 (x.ttl : Int))) w1.heap.size (.slice (some ⟨g, 0, none⟩) m gc) (css3.set k [.slice u0 v0 y0, .int .i64 s.ty, .int .u32 (x.ttl : Int), .slice a5 n5 z5]) from hpz)
              have hnew : RSet w0 (p3.w.setCell ⟨g, k * 4 + 2, none⟩ (.int .u32 (x.ttl : Int))) w1.heap.size [.slice u0 v0 y0, .int .i64 s.ty, .int .u32 (x.ttl : Int), .slice a5 n5 z5] (joinS s x) := by
                rw [HJS.out]
                rw [HCS.out] at ez
                simp only [List.cons.injEq, and_true] at ez
                have ez3 : slW z3 = .slice a5 n5 z5 := ez.2.2.2.symm
                have hgt : (((refSets (C.take i)).set k ⟨s.owner, s.ty, s.ttl, s.data ++ [x.data]⟩)[k]'(by rw [← HS3.out.1]; exact hlk)) = ⟨s.owner, s.ty, s.ttl, s.data ++ [x.data]⟩ := List.getElem_set_self _
                rw [hgt] at tz
                rw [ez3] at oz
                exact ⟨(u0, v0, y0), (a5, n5, z5), dz, rfl, HNS.out, OwnK.keptB oz hg3 (by decide) _ _, tz⟩
              have HSF := Lib.hid (((HS3.out.below HP3.out).put hg3 (k * 4 + 2) (.int .u32 (x.ttl : Int))).set k hnew)
              have HBF := Lib.hid ((HB3.out.trans (HP3.out.mono HB3.out.size)).setCell (p := ⟨g, k * 4 + 2, none⟩) HGB.out (.int .u32 (x.ttl : Int)))
              clear hg3 f0 f1 hpz nz oz tz ez hnew hcl3 hne3
              generalize p3.w = W4 at *
              go_wp2
              go_roundg (n - (i + 1))
              case measure => omega
              case rel => exact ⟨i + 1, m, _, gc, _, rfl, by go_num, by omega, by omega, by omega, Lib.hid (by rw [List.length_set]; exact HLS3.out), HPZ, Lib.hid (by rw [HEND.out]; exact HSF.out), HBF⟩
            · have hlxz : ¬ (x.ttl : Int) < (s.ttl : Int) := by omega
              have HEND := Lib.hid (show refSets (C.take (i + 1)) = ((refSets (C.take i)).set k ⟨s.owner, s.ty, s.ttl, s.data ++ [x.data]⟩) by
                rw [HST.out, HPRE.out, ← HPL.out, set_lastS]
                unfold joinS; rw [minT_ge hlx])
              go_wp2_with fail
              refine wp_region_cls (fun W => Below W3.heap.size W3 W) follows_mixed (by kernel_rfl) hcl3 ?_
              repeat (go_big_quiet_step (fail))
              refine wpQuiet_nil ?_
              rintro _ ⟨p3, rfl⟩
              have HP3 := Lib.hid p3.ok
              clear f0 f1 hcl3 hne3
              go_wp2
              go_roundg (n - (i + 1))
              case measure => omega
              case rel => exact ⟨i + 1, m, _, gc, _, rfl, by go_num, by omega, by omega, by omega, HLS3, Lib.hid (OwnK.below HPUT2.out HP3.out), Lib.hid (by rw [HEND.out]; exact HS3.out.below HP3.out), Lib.hid (HB3.out.trans (HP3.out.mono HB3.out.size))⟩
        · have HST := Lib.hid (show refSets (C.take (i + 1)) = refSets (C.take i) ++ [newS x] by
            rw [hst, HPRE.out, stepS_snoc, if_neg (by unfold hitS; rw [decide_eq_false hty]; simp)])
          have htyb : (s.ty == x.data.ty) = false := by simpa using hty
          clear hst ht1 hty
          go_wp2_with fail
          refine wp_region_cls (fun W => Below wr.heap.size wr W) follows_mixed (by kernel_rfl) hcl ?_
          repeat (go_big_quiet_step (exact hc1 _))
          refine wpQuiet_nil ?_
          rintro _ ⟨p, rfl⟩
          clear h0 h2 j0 j1 hc1 htyb
          have HP := Lib.hid p.ok
          clear g0 g1
          have HO2 := Lib.hid (OwnK.below HO.out HP.out)
          have HS2 := Lib.hid (HS.out.below HP.out)
          have HB2 := Lib.hid (HB.out.trans (HP.out.mono HB.out.size))
          generalize p.w = W2 at *
          have hbd : Below W2.heap.size W2 W2.drew := ⟨rfl, rfl, rfl, Nat.le_refl _, fun _ _ => rfl⟩
          have hbA : Below W2.heap.size W2 (W2.alloc (.cells #[.int .i64 x.data.ty, .slice p3 q3 r3, .slice p4 q4 r4, .slice p5 q5 r5, .slice p6 q6 r6] 107)).drew := hbd.alloc (Nat.le_refl _) _
          have hbB : Below W2.heap.size W2 ((W2.alloc (.cells #[.int .i64 x.data.ty, .slice p3 q3 r3, .slice p4 q4 r4, .slice p5 q5 r5, .slice p6 q6 r6] 107)).alloc (.cells #[.slice p0 q0 r0, .int .i64 x.data.ty, .int .u32 (x.ttl : Int), .slice (some ⟨W2.heap.size, 0, none⟩) 1 1] 41)).drew := hbA.alloc (by simp) _
          have hsz := HB2.out.size
          obtain ⟨c0, c1, c2, c3, c4, c5, c6⟩ := HE.out W2.drew (HB2.out.trans (hbd.mono hsz))
          obtain ⟨d0, d1, d2, d3, d4, d5, d6⟩ := HE.out ((W2.alloc (.cells #[.int .i64 x.data.ty, .slice p3 q3 r3, .slice p4 q4 r4, .slice p5 q5 r5, .slice p6 q6 r6] 107)).drew) (HB2.out.trans (hbA.mono hsz))
          have HOS := Lib.hid (OwnK.below HO2.out hbB)
          have HSS := Lib.hid (HS2.out.below hbB)
          have HWS := Lib.hid (HB2.out.trans (hbB.mono hsz))
          have hkB := knew (W2.drew.alloc (.cells #[.int .i64 x.data.ty, .slice p3 q3 r3, .slice p4 q4 r4, .slice p5 q5 r5, .slice p6 q6 r6] 107)) (.cells #[.slice p0 q0 r0, .int .i64 x.data.ty, .int .u32 (x.ttl : Int), .slice (some ⟨W2.heap.size, 0, none⟩) 1 1] 41)
          rw [World.size_alloc] at hkB
          have HKB := Lib.hid (show ((W2.alloc (.cells #[.int .i64 x.data.ty, .slice p3 q3 r3, .slice p4 q4 r4, .slice p5 q5 r5, .slice p6 q6 r6] 107)).alloc (.cells #[.slice p0 q0 r0, .int .i64 x.data.ty, .int .u32 (x.ttl : Int), .slice (some ⟨W2.heap.size, 0, none⟩) 1 1] 41)).drew.heap[W2.heap.size + 1]? = some (.cells #[.slice p0 q0 r0, .int .i64 x.data.ty, .int .u32 (x.ttl : Int), .slice (some ⟨W2.heap.size, 0, none⟩) 1 1] 41) from hkB)
          have ho1 : OwnC 5 107 (W2.drew.alloc (.cells #[.int .i64 x.data.ty, .slice p3 q3 r3, .slice p4 q4 r4, .slice p5 q5 r5, .slice p6 q6 r6] 107)) W2.heap.size (.slice (some ⟨W2.heap.size, 0, none⟩) 1 1) [[.int .i64 x.data.ty, .slice p3 q3 r3, .slice p4 q4 r4, .slice p5 q5 r5, .slice p6 q6 r6]] := own_one W2.drew (cs := [.int .i64 x.data.ty, .slice p3 q3 r3, .slice p4 q4 r4, .slice p5 q5 r5, .slice p6 q6 r6]) rfl
          have HO1 := Lib.hid (show OwnC 5 107 ((W2.alloc (.cells #[.int .i64 x.data.ty, .slice p3 q3 r3, .slice p4 q4 r4, .slice p5 q5 r5, .slice p6 q6 r6] 107)).alloc (.cells #[.slice p0 q0 r0, .int .i64 x.data.ty, .int .u32 (x.ttl : Int), .slice (some ⟨W2.heap.size, 0, none⟩) 1 1] 41)).drew w1.heap.size (.slice (some ⟨W2.heap.size, 0, none⟩) 1 1) [[.int .i64 x.data.ty, .slice p3 q3 r3, .slice p4 q4 r4, .slice p5 q5 r5, .slice p6 q6 r6]] from OwnK.weaken (OwnK.alloc ho1 _) hsz)
          have HN4 := Lib.hid (show RSet w0 ((W2.alloc (.cells #[.int .i64 x.data.ty, .slice p3 q3 r3, .slice p4 q4 r4, .slice p5 q5 r5, .slice p6 q6 r6] 107)).alloc (.cells #[.slice p0 q0 r0, .int .i64 x.data.ty, .int .u32 (x.ttl : Int), .slice (some ⟨W2.heap.size, 0, none⟩) 1 1] 41)).drew w1.heap.size [.slice p0 q0 r0, .int .i64 x.data.ty, .int .u32 (x.ttl : Int), .slice (some ⟨W2.heap.size, 0, none⟩) 1 1] (newS x) from ⟨(p0, q0, r0), (some ⟨W2.heap.size, 0, none⟩, 1, 1), [[.int .i64 x.data.ty, .slice p3 q3 r3, .slice p4 q4 r4, .slice p5 q5 r5, .slice p6 q6 r6]], rfl, HNO.out, HO1.out, (Dts.nil w0).snoc rfl HDA.out⟩)
          have H11 := Lib.hid (step_append_h (((W2.alloc (.cells #[.int .i64 x.data.ty, .slice p3 q3 r3, .slice p4 q4 r4, .slice p5 q5 r5, .slice p6 q6 r6] 107)).alloc (.cells #[.slice p0 q0 r0, .int .i64 x.data.ty, .int .u32 (x.ttl : Int), .slice (some ⟨W2.heap.size, 0, none⟩) 1 1] 41)).drew) (.tmp 85) (.tmp 109) elem_refS (by decide) w1.heap.size (.slice (some ⟨g, 0, none⟩) m gc) (css) (HOS.out) (.slice (some ⟨W2.heap.size + 1, 0, none⟩) 1 1) ([[.slice p0 q0 r0, .int .i64 x.data.ty, .int .u32 (x.ttl : Int), .slice (some ⟨W2.heap.size, 0, none⟩) 1 1]]) (slK_blk (css := [[.slice p0 q0 r0, .int .i64 x.data.ty, .int .u32 (x.ttl : Int), .slice (some ⟨W2.heap.size, 0, none⟩) 1 1]]) HKB.out) (lenS _ _ _ _) (one4 rfl rfl rfl rfl) (HWS.out.size) (by have := HL.out; have := HNK.out; unfold maxLen; simp only [List.length_cons, List.length_nil]; omega) (by have := HL.out; have := HNK.out; simp only [List.length_cons, List.length_nil]; omega))
          clear hbd hbA hbB hkB ho1 hsz c0 c1 c2 c3 c4 c5 c6 d0 d1 d2 d3 d4 d5 d6
          have KC := Lib.hid (fun W (hb : Below w1.heap.size w1 W) => (show (W.cell? ⟨b, off + i * 7, none⟩ = some (.slice p0 q0 r0) ∧ W.cell? ⟨b, off + i * 7 + 1, none⟩ = some (.int .u32 (x.ttl : Int)) ∧ W.cell? ⟨b, off + i * 7 + 2, none⟩ = some (.int .i64 x.data.ty) ∧ W.cell? ⟨b, off + i * 7 + 3, none⟩ = some (.slice p3 q3 r3) ∧ W.cell? ⟨b, off + i * 7 + 4, none⟩ = some (.slice p4 q4 r4) ∧ W.cell? ⟨b, off + i * 7 + 5, none⟩ = some (.slice p5 q5 r5) ∧ W.cell? ⟨b, off + i * 7 + 6, none⟩ = some (.slice p6 q6 r6) ∧ Below w1.heap.size w1 W) from by
            obtain ⟨k0, k1, k2, k3, k4, k5, k6⟩ := HE.out W hb
            exact ⟨k0, k1, k2, k3, k4, k5, k6, hb⟩))
          have KR := Lib.hid (fun W (h : (W.cell? ⟨b, off + i * 7, none⟩ = some (.slice p0 q0 r0) ∧ W.cell? ⟨b, off + i * 7 + 1, none⟩ = some (.int .u32 (x.ttl : Int)) ∧ W.cell? ⟨b, off + i * 7 + 2, none⟩ = some (.int .i64 x.data.ty) ∧ W.cell? ⟨b, off + i * 7 + 3, none⟩ = some (.slice p3 q3 r3) ∧ W.cell? ⟨b, off + i * 7 + 4, none⟩ = some (.slice p4 q4 r4) ∧ W.cell? ⟨b, off + i * 7 + 5, none⟩ = some (.slice p5 q5 r5) ∧ W.cell? ⟨b, off + i * 7 + 6, none⟩ = some (.slice p6 q6 r6) ∧ Below w1.heap.size w1 W)) => KC.out W.drew (h.2.2.2.2.2.2.2.trans ⟨rfl, rfl, rfl, Nat.le_refl _, fun _ _ => rfl⟩))
          have KA := Lib.hid (fun W o (h : (W.cell? ⟨b, off + i * 7, none⟩ = some (.slice p0 q0 r0) ∧ W.cell? ⟨b, off + i * 7 + 1, none⟩ = some (.int .u32 (x.ttl : Int)) ∧ W.cell? ⟨b, off + i * 7 + 2, none⟩ = some (.int .i64 x.data.ty) ∧ W.cell? ⟨b, off + i * 7 + 3, none⟩ = some (.slice p3 q3 r3) ∧ W.cell? ⟨b, off + i * 7 + 4, none⟩ = some (.slice p4 q4 r4) ∧ W.cell? ⟨b, off + i * 7 + 5, none⟩ = some (.slice p5 q5 r5) ∧ W.cell? ⟨b, off + i * 7 + 6, none⟩ = some (.slice p6 q6 r6) ∧ Below w1.heap.size w1 W)) => KC.out (W.alloc o) (h.2.2.2.2.2.2.2.alloc h.2.2.2.2.2.2.2.size o))
          have hS0 := KC.out W2 HB2.out
          go_wp2_with fail
          go_region_held3 (fun W => W.cell? ⟨b, off + i * 7, none⟩ = some (.slice p0 q0 r0) ∧ W.cell? ⟨b, off + i * 7 + 1, none⟩ = some (.int .u32 (x.ttl : Int)) ∧ W.cell? ⟨b, off + i * 7 + 2, none⟩ = some (.int .i64 x.data.ty) ∧ W.cell? ⟨b, off + i * 7 + 3, none⟩ = some (.slice p3 q3 r3) ∧ W.cell? ⟨b, off + i * 7 + 4, none⟩ = some (.slice p4 q4 r4) ∧ W.cell? ⟨b, off + i * 7 + 5, none⟩ = some (.slice p5 q5 r5) ∧ W.cell? ⟨b, off + i * 7 + 6, none⟩ = some (.slice p6 q6 r6) ∧ Below w1.heap.size w1 W)
            (first | with_reducible assumption | (with_reducible exact KR.out _ (by with_reducible assumption)) | (with_reducible exact KA.out _ _ (by with_reducible assumption)) | (with_reducible exact KR.out _ (KA.out _ _ (by with_reducible assumption))) | (with_reducible exact KA.out _ _ (KR.out _ (by with_reducible assumption))) | (with_reducible exact KR.out _ (KA.out _ _ (KA.out _ _ (by with_reducible assumption)))))
            (first | ((with_reducible refine H11.out _ _ _ _ _ _ ?_ ?_ ?_ ?_ ?_); exact rfl; exact rfl; exact rfl; exact rfl; intro v8 w8 ho8 hg8; have hb8 := HWS.out.grown hg8 HWS.out.size (OwnK.base_le HOS.out); have hS2 := KC.out w8 hb8; have HO8 := Lib.hid ho8; have HG8 := Lib.hid hg8; clear ho8 hg8))
          all_goals
            have HN8 := Lib.hid ((HSS.out.grown HOS.out HG8.out).snoc (HN4.out.grown HOS.out HG8.out))
            have HB8 := Lib.hid (HWS.out.grown HG8.out HWS.out.size (OwnK.base_le HOS.out))
            obtain ⟨a8, c8, e8⟩ := OwnK.shape HO8.out
            have hl8 : (css ++ ([[.slice p0 q0 r0, .int .i64 x.data.ty, .int .u32 (x.ttl : Int), .slice (some ⟨W2.heap.size, 0, none⟩) 1 1]] : List (List Value))).length = m + 1 := by rw [List.length_append, HL.out]; rfl
            rw [hl8] at e8
            subst e8
            clear HG8 hS0 hS2
            go_wp2_with fail
            go_roundg (n - (i + 1))
            case measure => omega
            case rel => exact ⟨i + 1, m + 1, a8, c8, _, rfl, by go_num, by omega, by omega, by omega, Lib.hid hl8, HO8, Lib.hid (by rw [HST.out]; exact HN8.out), HB8⟩
    · obtain rfl : i = n := by omega
      have hsf := HS.out
      rw [List.take_of_length_le (by have := HLC.out; omega), refSets_eq] at hsf
      have HRS := Lib.hid (fun (W' : World) (hf : FarKeep w.heap.size wr W') => (hsf.move (fun g q1 q2 => hf g (Nat.le_trans HB1.out.size q1) q2)).rowP (OwnK.move HO.out (fun g q1 q2 => hf g (Nat.le_trans HB1.out.size q1) q2)))
      have HSF := Lib.hid hsf.1
      have HF := Lib.hid (HB1.out.trans (HB.out.mono HB1.out.size))
      clear hsf
      go_wp2
      go_ret
      exact ⟨_, _, rfl, HSF.out, HRS.out, HF.out⟩
end Go.Proofs.YtckammgnmgkieaaGreat

