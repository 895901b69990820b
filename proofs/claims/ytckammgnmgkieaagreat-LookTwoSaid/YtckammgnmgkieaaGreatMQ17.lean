/-
  look.sameData, look.sameGlue.
-/
import Derived.Test.YtckammgnmgkieaaGreatMQ25
import Derived.Test.YtckammgnmgkieaaGreatMQ42
import Derived.Test.YtckammgnmgkieaaGreatMQ21
import Derived.Test.YtckammgnmgkieaaGreatMQ43
import Derived.Test.YtckammgnmgkieaaGreatMQ15
import Derived.Test.YtckammgnmgkieaaGreatMQ13
import Derived.ProofKit
import Derived.OpenShut
import Derived.ShutString
import Derived.ChangeArms
import Derived.ChangeSlices
import Derived.SliceStrings
import Derived.Deep.Slices
import Derived.Shelf.Vars
import Derived.Handed
import Derived.HandedShaped
namespace Go.Proofs.YtckammgnmgkieaaGreat
set_option maxRecDepth 20000
open Go.RowKit Go.Shelf
set_option maxRecDepth 20000
set_option linter.unusedVariables false
set_option linter.unusedSimpArgs false
set_option maxRecDepth 100000 in
set_option maxHeartbeats 8000000 in
theorem look_sameData (v u : Value) (l m : List Dat) (w : World) (hA : DtsR w v l) (hU : DtsR w u m) (hOK : ∀ r ∈ l, DatOK r) (hOK2 : ∀ r ∈ m, DatOK r) (hl : l.length ≤ 1048576) (hl2 : m.length ≤ 1048576) :
    Calls Tryz.prog 100 #[v, u] w fun e w' => e = .returned (.bool (sameDsM l m)) ∧ Below w.heap.size w w' := by
  obtain ⟨css, h1, h2⟩ := hA
  obtain ⟨ess, h3, h4⟩ := hU
  have hc := dat_equal v u css ess l m w h1 h2 h3 h4 hOK hOK2 (by rw [h2.1]; exact hl) (by rw [h4.1]; exact hl2)
  obtain ⟨a, c, rfl, -⟩ := h1
  obtain ⟨b, d, rfl, -⟩ := h3
  generalize css.length = n1 at *
  generalize ess.length = n2 at *
  clear h2 h4 hOK hOK2 hl hl2
  go_enter Tryz.func100, Tryz.ntmps100
  go_wp2_with fail
  refine hc.mono ?_
  rintro e w1 ⟨rfl, hb⟩
  clear hc
  go_wp2
  go_ret
  exact ⟨rfl, hb⟩
set_option maxRecDepth 100000 in
set_option maxHeartbeats 8000000 in
theorem look_sameGlue (x0 x1 y0 y1 : Option Addr × Nat × Nat) (a b : Nm × List Dat) (w : World) (hA : NmAt w (slW x0) a.1) (hA2 : DtsR w (slW x1) a.2) (hB : NmAt w (slW y0) b.1) (hB2 : DtsR w (slW y1) b.2) (hka : NmOK a.1) (hkb : NmOK b.1) (hOK : ∀ r ∈ a.2, DatOK r) (hOK2 : ∀ r ∈ b.2, DatOK r) (hl : a.2.length ≤ 1048576) (hl2 : b.2.length ≤ 1048576) :
    Calls Tryz.prog 102 #[.agg #[slW x0, slW x1], .agg #[slW y0, slW y1]] w fun e w' => e = .returned (.bool (sameN a.1 b.1 && sameDsM a.2 b.2)) ∧ Below w.heap.size w w' := by
  have HN := Lib.hid (fun (W : World) (hb : Below w.heap.size w W) => kn_NSame (slW x0) (slW y0) a.1 b.1 _ rfl W (hA.below hb) (hB.below hb) hka hkb)
  have HD := Lib.hid (fun (W : World) (hb : Below w.heap.size w W) => look_sameData (slW x1) (slW y1) a.2 b.2 W (hA2.below hb) (hB2.below hb) hOK hOK2 hl hl2)
  clear hA hA2 hB hB2 hka hkb hOK hOK2 hl hl2
  obtain ⟨a0, a1, a2⟩ := x0
  obtain ⟨a3, a4, a5⟩ := x1
  obtain ⟨b0, b1, b2⟩ := y0
  obtain ⟨b3, b4, b5⟩ := y1
  unfold slW at *
  simp only at *
  have hB0 : Below w.heap.size w ((w.alloc (.cells #[.slice a0 a1 a2, .slice a3 a4 a5] 143)).alloc (.cells #[.slice b0 b1 b2, .slice b3 b4 b5] 143)) := ((Below.refl w.heap.size w).alloc (Nat.le_refl _) _).alloc (by simp) _
  have hn := HN.out _ hB0
  have X0 := Lib.hid ((Below.heap_alloc (w.alloc (.cells #[.slice a0 a1 a2, .slice a3 a4 a5] 143)) (.cells #[.slice b0 b1 b2, .slice b3 b4 b5] 143) w.heap.size (by simp)).trans (knew w _))
  have X1 := Lib.hid (knew (w.alloc (.cells #[.slice a0 a1 a2, .slice a3 a4 a5] 143)) (.cells #[.slice b0 b1 b2, .slice b3 b4 b5] 143))
  rw [World.size_alloc] at X1
  have HB0 := Lib.hid hB0
  clear hB0 HN
  generalize sameN a.1 b.1 = r1 at *
  generalize sameDsM a.2 b.2 = r2 at *
  go_enter Tryz.func102, Tryz.ntmps102
  go_wp2_with fail
  refine hn.mono ?_
  rintro e w1 ⟨rfl, hb1⟩
  have HB1 := Lib.hid (HB0.out.trans (hb1.mono HB0.out.size))
  have x0 := (hb1.block _ (kblock_lt X0.out)).trans X0.out
  have x1 := (hb1.block _ (kblock_lt X1.out)).trans X1.out
  have k1 := kcell x0 1 _ rfl
  have k3 := kcell x1 1 _ rfl
  have hd := HD.out _ HB1.out
  clear hn hb1 x0 x1 X0 X1 HB0 HD
  cases r1 with
  | false =>
    clear hd
    go_wp2
    go_ret
    exact ⟨rfl, HB1.out⟩
  | true =>
    go_wp2_with fail
    refine hd.mono ?_
    rintro e w2 ⟨rfl, hb2⟩
    have HB2 := Lib.hid (HB1.out.trans (hb2.mono HB1.out.size))
    clear hd hb2
    go_wp2
    go_ret
    exact ⟨by simp, HB2.out⟩
end Go.Proofs.YtckammgnmgkieaaGreat

/-
  slices.EqualFunc at look.Glue. (Written by wip/tools/genloks.py.)
-/
namespace Go.Proofs.YtckammgnmgkieaaGreat
set_option maxRecDepth 20000
open Go.RowKit Go.Shelf
set_option maxRecDepth 20000
set_option linter.unusedVariables false
set_option linter.unusedSimpArgs false
theorem SlK.elem2 {W : World} {a : Option Addr} {n c : Nat} {css : List (List Value)} (h : SlK W (.slice a n c) css) (hk : ∀ cs ∈ css, cs.length = 2) (h0 : 0 < css.length) : ∃ b off, a = some ⟨b, off, none⟩ ∧ b < W.heap.size ∧
    ∀ k (hlt : k < css.length) (u0 u1 : Value), css[k] = [u0, u1] → ∀ W', Below W.heap.size W W' →
      W'.cell? ⟨b, off + k * 2, none⟩ = some u0 ∧ W'.cell? ⟨b, off + k * 2 + 1, none⟩ = some u1 := by
  obtain ⟨a', c', e, _, _, h3⟩ := h
  cases e
  rcases h3 with h3 | ⟨b, off, rfl, hb, hc⟩
  · subst h3; simp at h0
  · refine ⟨b, off, rfl, hb, fun k hlt u0 u1 he W' hB => ?_⟩
    have key : ∀ j u, j < 2 → [u0, u1][j]? = some u → W'.cell? ⟨b, off + k * 2 + j, none⟩ = some u := fun j u hj hu => by
      rw [hB.cell (p := ⟨b, off + k * 2 + j, none⟩) hb, Nat.add_assoc]
      refine hc (k * 2 + j) u ?_
      have hl : ∀ (l : List (List Value)) (k : Nat) (hlt : k < l.length), (∀ cs ∈ l, cs.length = 2) → l[k] = [u0, u1] → l.flatten[k * 2 + j]? = some u := by
        intro l
        induction l with
        | nil => intro k hlt; simp at hlt
        | cons x r ih =>
          intro k hlt hk he
          rw [List.flatten_cons]
          cases k with
          | zero =>
            rw [List.getElem_cons_zero] at he
            rw [he, List.getElem?_append_left (by simp; omega)]
            simpa using hu
          | succ k =>
            rw [List.getElem_cons_succ] at he
            have hx : x.length = 2 := hk x (by simp)
            rw [List.getElem?_append_right (by rw [hx]; omega), hx, show (k + 1) * 2 + j - 2 = k * 2 + j by omega]
            exact ih k (by simpa using hlt) (fun cs hc => hk cs (by simp [hc])) he
      exact hl css k hlt hk he
    exact ⟨key 0 u0 (by omega) rfl, key 1 u1 (by omega) rfl⟩

theorem sameG_len : ∀ (l m : List (Nm × List Dat)), l.length ≠ m.length → sameG l m = false
  | [], [], h => absurd rfl h
  | [], _ :: _, _ => rfl
  | _ :: _, [], _ => rfl
  | x :: r, y :: t, h => by
    have := sameG_len r t (by simpa using h)
    simp [sameG, this]
theorem sameG_step {l m : List (Nm × List Dat)} (k : Nat) (h1 : k < l.length) (h2 : k < m.length) : sameG (l.drop k) (m.drop k) = ((sameN l[k].1 m[k].1 && sameDsM l[k].2 m[k].2) && sameG (l.drop (k + 1)) (m.drop (k + 1))) := by
  rw [List.drop_eq_getElem_cons h1, List.drop_eq_getElem_cons h2]; rfl
def GlOK (x : Nm × List Dat) : Prop := NmOK x.1 ∧ (∀ d ∈ x.2, DatOK d) ∧ x.2.length ≤ 1048576
set_option maxRecDepth 100000 in
set_option maxHeartbeats 8000000 in
theorem glue_equal (v u : Value) (l m : List (Nm × List Dat)) (w : World) (hA : GlR w v l) (hU : GlR w u m) (hOK : ∀ r ∈ l, GlOK r) (hOK2 : ∀ r ∈ m, GlOK r) (hl : l.length ≤ 1048576) (hl2 : m.length ≤ 1048576) :
    Calls Tryz.prog 101 #[v, u, .func (.func 102) #[] #[]] w fun e w' => e = .returned (.bool (sameG l m)) ∧ Below w.heap.size w w' := by
  obtain ⟨css, hA, hla, hR⟩ := hA
  obtain ⟨ess, hU, hlb, hS⟩ := hU
  have hk2 : ∀ cs ∈ css, cs.length = 2 := fun cs hc => by
    obtain ⟨i, hi, rfl⟩ := List.mem_iff_getElem.1 hc
    obtain ⟨x0, x1, e, _⟩ := hR i hi (by omega)
    rw [e]; rfl
  have hk3 : ∀ cs ∈ ess, cs.length = 2 := fun cs hc => by
    obtain ⟨i, hi, rfl⟩ := List.mem_iff_getElem.1 hc
    obtain ⟨x0, x1, e, _⟩ := hS i hi (by omega)
    rw [e]; rfl
  obtain ⟨a, c, rfl, hc1, hc2, hx⟩ := id hA
  obtain ⟨b, d, rfl, hd1, hd2, hy⟩ := id hU
  obtain ⟨n, hn⟩ : ∃ n, css.length = n := ⟨_, rfl⟩
  obtain ⟨n2, hn2⟩ : ∃ n, ess.length = n := ⟨_, rfl⟩
  have HSA := Lib.hid hA; have HSU := Lib.hid hU; have HR := Lib.hid hR; have HS := Lib.hid hS; have HOK := Lib.hid hOK; have HOK2 := Lib.hid hOK2
  rw [hn] at HSA hc1 ⊢
  rw [hn2] at HSU hd1 ⊢
  have HN := Lib.hid hn; have HN2 := Lib.hid hn2; have HK2 := Lib.hid hk2; have HK3 := Lib.hid hk3
  have HLA := Lib.hid (show l.length = n by rw [← hn]; exact hla.symm)
  have HLB := Lib.hid (show m.length = n2 by rw [← hn2]; exact hlb.symm)
  have hl : n ≤ 1048576 := by have := HLA.out; omega
  have hl2 : n2 ≤ 1048576 := by have := HLB.out; omega
  obtain ⟨res, hres⟩ : ∃ r, sameG l m = r := ⟨_, rfl⟩
  rw [hres]
  have HRES := Lib.hid hres
  clear hA hU hR hS hOK hOK2 hc2 hx hd2 hy hn hn2 hres hla hlb hk2 hk3
  by_cases hnn : n = n2
  · subst hnn
    have HB0 : Hid (Below w.heap.size w w) := Lib.hid (Below.refl _ _)
    go_enter Tryz.func101, Tryz.ntmps101
    go_wp2
    go_loopw [17] (fun vi wr => ∃ (k : Nat), vi = .int .i64 k ∧ k ≤ n ∧ Hid (res = sameG (l.drop k) (m.drop k)) ∧ Hid (Below w.heap.size w wr)) (fun vi _ => n - (intOf vi).toNat)
    case atStart => exact ⟨0, rfl, Nat.zero_le _, Lib.hid HRES.out.symm, HB0⟩
    case round =>
      obtain ⟨k, rfl, hk, HC, HB⟩ := hrel
      by_cases hlt : k < n
      · have hltz : (k : Int) < (n : Int) := by omega
        have hk1 : k < css.length := by have := HN.out; omega
        have hk2 : k < ess.length := by have := HN2.out; omega
        have hk3 : k < l.length := by have := HLA.out; omega
        have hk4 : k < m.length := by have := HLB.out; omega
        obtain ⟨ga, oa, rfl, hga, hea⟩ := HSA.out.elem2 HK2.out (by omega)
        obtain ⟨gb, ob, rfl, hgb, heb⟩ := HSU.out.elem2 HK3.out (by omega)
        obtain ⟨⟨p3, q3, r3⟩, ⟨p4, q4, r4⟩, e0, h0, h0'⟩ := HR.out k hk1 hk3
        obtain ⟨⟨p5, q5, r5⟩, ⟨p6, q6, r6⟩, e1, h1, h1'⟩ := HS.out k hk2 hk4
        have hok := HOK.out _ (List.getElem_mem hk3)
        have hok2 := HOK2.out _ (List.getElem_mem hk4)
        have hst := sameG_step k hk3 hk4
        obtain ⟨ra, hra⟩ : ∃ r, l[k]'hk3 = r := ⟨_, rfl⟩
        obtain ⟨rb, hrb⟩ : ∃ r, m[k]'hk4 = r := ⟨_, rfl⟩
        rw [hra] at h0 h0' hok hst
        rw [hrb] at h1 h1' hok2 hst
        clear hra hrb
        have htw := fun W (hb : Below w.heap.size w W) => look_sameGlue (p3, q3, r3) (p4, q4, r4) (p5, q5, r5) (p6, q6, r6) ra rb W (h0.below hb) (h0'.below hb) (h1.below hb) (h1'.below hb) hok.1 hok2.1 hok.2.1 hok2.2.1 hok.2.2 hok2.2.2
        unfold slW at htw e0 e1
        simp only at htw e0 e1
        obtain ⟨c0, c1⟩ := hea k hk1 _ _ e0 wr HB.out
        obtain ⟨d0, d1⟩ := heb k hk2 _ _ e1 (wr.alloc (.cells #[.slice p3 q3 r3, .slice p4 q4 r4] 143)) (HB.out.alloc HB.out.size _)
        obtain ⟨tw, htw'⟩ : ∃ t, (sameN ra.1 rb.1 && sameDsM ra.2 rb.2) = t := ⟨_, rfl⟩
        rw [htw'] at htw hst
        have HTW := Lib.hid htw
        have HST := Lib.hid hst
        clear h0 h1 h0' h1' hok hok2 htw hst e0 e1 htw' hea heb hk1 hk2 hk3 hk4
        go_wp2_with fail
        have HBW := Lib.hid ((HB.out.alloc HB.out.size (.cells #[.slice p3 q3 r3, .slice p4 q4 r4] 143)).alloc (by have := HB.out.size; simp; omega) (.cells #[.slice p5 q5 r5, .slice p6 q6 r6] 143))
        refine (HTW.out _ HBW.out).mono ?_
        rintro e w2 ⟨rfl, hb2⟩
        have HB2 := Lib.hid (HBW.out.trans (hb2.mono HBW.out.size))
        have HC2 : Hid (res = (tw && sameG (l.drop (k + 1)) (m.drop (k + 1)))) := Lib.hid (by rw [HC.out, HST.out])
        clear hb2 HC HST HTW HBW HB c0 c1 d0 d1
        cases tw
        · have HE : Hid (res = false) := Lib.hid (by rw [HC2.out]; rfl)
          clear HC2
          go_wp2
          go_ret
          exact ⟨by rw [HE.out]; rfl, HB2.out⟩
        · have HE : Hid (res = sameG (l.drop (k + 1)) (m.drop (k + 1))) := Lib.hid (by rw [HC2.out]; rfl)
          clear HC2
          go_wp2
          go_roundw
          case measure => simp [intOf]; omega
          case rel => exact ⟨k + 1, by go_num, by omega, HE, HB2⟩
      · obtain rfl : k = n := by omega
        have HE : Hid (res = true) := Lib.hid (by
          rw [HC.out, List.drop_of_length_le (by have := HLA.out; omega), List.drop_of_length_le (by have := HLB.out; omega)]; rfl)
        clear HC
        go_wp2
        go_ret
        exact ⟨by rw [HE.out]; rfl, HB.out⟩
  · have hz : ¬ (n : Int) = (n2 : Int) := by omega
    have hzb : ((n : Int) != (n2 : Int)) = true := by simpa using hz
    have HE : Hid (res = false) := Lib.hid (by rw [← HRES.out]; exact sameG_len _ _ (by have := HLA.out; have := HLB.out; omega))
    go_enter Tryz.func101, Tryz.ntmps101
    go_wp2
    go_ret
    exact ⟨by rw [HE.out]; rfl, Below.refl _ _⟩
end Go.Proofs.YtckammgnmgkieaaGreat

/-
  look.Same.
-/
namespace Go.Proofs.YtckammgnmgkieaaGreat
set_option maxRecDepth 20000
open Go.RowKit Go.Shelf
set_option maxRecDepth 20000
set_option linter.unusedVariables false
set_option linter.unusedSimpArgs false
def LkOK (r : Lk) : Prop := (∀ d ∈ r.data, DatOK d) ∧ r.data.length ≤ 1048576 ∧ NmOK r.name ∧ (∀ g ∈ r.glue, GlOK g) ∧ r.glue.length ≤ 1048576
set_option maxRecDepth 100000 in
set_option maxHeartbeats 8000000 in
theorem look_Same (cs ds : List Value) (r s : Lk) (w : World) (hA : LkAt w cs r) (hB : LkAt w ds s) (hr : LkOK r) (hs : LkOK s) :
    Calls Tryz.prog 53 #[.agg cs.toArray, .agg ds.toArray] w fun e w' => e = .returned (.bool (sameLk r s)) ∧ Below w.heap.size w w' := by
  obtain ⟨⟨a1, b1, c1⟩, ⟨a2, b2, c2⟩, ⟨a4, b4, c4⟩, rfl, h1, h2, h3⟩ := hA
  obtain ⟨⟨d1, e1, f1⟩, ⟨d2, e2, f2⟩, ⟨d4, e4, f4⟩, rfl, k1, k2, k3⟩ := hB
  have HN := Lib.hid (fun (W : World) (hb : Below w.heap.size w W) => kn_NSame (slW (a2, b2, c2)) (slW (d2, e2, f2)) r.name s.name _ rfl W (h2.below hb) (k2.below hb) hr.2.2.1 hs.2.2.1)
  have HD := Lib.hid (fun (W : World) (hb : Below w.heap.size w W) => look_sameData (slW (a1, b1, c1)) (slW (d1, e1, f1)) r.data s.data W (h1.below hb) (k1.below hb) hr.1 hs.1 hr.2.1 hs.2.1)
  have HG := Lib.hid (fun (W : World) (hb : Below w.heap.size w W) => glue_equal (slW (a4, b4, c4)) (slW (d4, e4, f4)) r.glue s.glue W (h3.below hb) (k3.below hb) hr.2.2.2.1 hs.2.2.2.1 hr.2.2.2.2 hs.2.2.2.2)
  have HL := Lib.hid (show sameLk r s = (decide (r.kind = s.kind) && decide (r.wild = s.wild) && sameN r.name s.name && sameDsM r.data s.data && sameG r.glue s.glue) from rfl)
  generalize sameLk r s = res at *
  clear h1 h2 h3 k1 k2 k3 hr hs
  unfold slW at *
  simp only at *
  generalize sameN r.name s.name = tn at *
  generalize sameDsM r.data s.data = td at *
  generalize sameG r.glue s.glue = tg at *
  generalize r.kind = ka at *
  generalize s.kind = kb at *
  generalize r.wild = wa at *
  generalize s.wild = wb at *
  have hB0 : Below w.heap.size w ((w.alloc (.cells #[.int .i64 ka, .slice a1 b1 c1, .slice a2 b2 c2, .bool wa, .slice a4 b4 c4] 84)).alloc (.cells #[.int .i64 kb, .slice d1 e1 f1, .slice d2 e2 f2, .bool wb, .slice d4 e4 f4] 84)) := ((Below.refl w.heap.size w).alloc (Nat.le_refl _) _).alloc (by simp) _
  have HB0 := Lib.hid hB0
  have X0 := Lib.hid ((Below.heap_alloc (w.alloc (.cells #[.int .i64 ka, .slice a1 b1 c1, .slice a2 b2 c2, .bool wa, .slice a4 b4 c4] 84)) (.cells #[.int .i64 kb, .slice d1 e1 f1, .slice d2 e2 f2, .bool wb, .slice d4 e4 f4] 84) w.heap.size (by simp)).trans (knew w _))
  have X1 := Lib.hid (knew (w.alloc (.cells #[.int .i64 ka, .slice a1 b1 c1, .slice a2 b2 c2, .bool wa, .slice a4 b4 c4] 84)) (.cells #[.int .i64 kb, .slice d1 e1 f1, .slice d2 e2 f2, .bool wb, .slice d4 e4 f4] 84))
  rw [World.size_alloc] at X1
  clear hB0
  by_cases hk : ka = kb
  · subst hk
    by_cases hw : wa = wb
    · subst hw
      have hn := HN.out _ HB0.out
      have HL2 : Hid (res = (tn && td && tg)) := Lib.hid (by rw [HL.out]; simp)
      clear HL HN
      go_enter Tryz.func53, Tryz.ntmps53
      go_wp2_with fail
      refine hn.mono ?_
      rintro e w1 ⟨rfl, hb1⟩
      have HB1 := Lib.hid (HB0.out.trans (hb1.mono HB0.out.size))
      have X2 := Lib.hid ((hb1.block _ (kblock_lt X0.out)).trans X0.out)
      have X3 := Lib.hid ((hb1.block _ (kblock_lt X1.out)).trans X1.out)
      have y1 := kcell X2.out 1 _ rfl; have y4 := kcell X2.out 4 _ rfl; have z1 := kcell X3.out 1 _ rfl; have z4 := kcell X3.out 4 _ rfl
      have hd := HD.out _ HB1.out
      clear hn hb1 X0 X1 HB0 HD
      cases tn with
      | false =>
        clear hd
        have HL3 : Hid (res = false) := Lib.hid (by rw [HL2.out]; rfl)
        go_wp2
        go_ret
        exact ⟨by first | (rw [HL3.out]; done) | (rw [HL3.out]; rfl) | simp [HL3.out], HB1.out⟩
      | true =>
        go_wp2_with fail
        refine hd.mono ?_
        rintro e w2 ⟨rfl, hb2⟩
        have HB2 := Lib.hid (HB1.out.trans (hb2.mono HB1.out.size))
        have x2 := (hb2.block _ (kblock_lt X2.out)).trans X2.out
        have x3 := (hb2.block _ (kblock_lt X3.out)).trans X3.out
        have y4 := kcell x2 4 _ rfl; have z4 := kcell x3 4 _ rfl
        have hg := HG.out _ HB2.out
        clear hd hb2 x2 x3 X2 X3 HB1 HG y1 z1
        cases td with
        | false =>
          clear hg
          have HL3 : Hid (res = false) := Lib.hid (by rw [HL2.out]; rfl)
          go_wp2
          go_ret
          exact ⟨by first | (rw [HL3.out]; done) | (rw [HL3.out]; rfl) | simp [HL3.out], HB2.out⟩
        | true =>
          have HL3 : Hid (res = tg) := Lib.hid (by rw [HL2.out]; simp)
          go_wp2_with fail
          refine hg.mono ?_
          rintro e w3 ⟨rfl, hb3⟩
          have HB3 := Lib.hid (HB2.out.trans (hb3.mono HB2.out.size))
          clear hg hb3
          go_wp2
          go_ret
          exact ⟨by first | (rw [HL3.out]; done) | (rw [HL3.out]; rfl) | simp [HL3.out], HB3.out⟩
    · have hwb : (wa == wb) = false := by simpa using hw
      have HL2 : Hid (res = false) := Lib.hid (by rw [HL.out]; simp [hw])
      clear HL HN HD HG
      go_enter Tryz.func53, Tryz.ntmps53
      go_wp2
      go_ret
      exact ⟨by first | (rw [HL2.out]; done) | (rw [HL2.out]; rfl) | simp [HL2.out], HB0.out⟩
  · have hkb : (ka == kb) = false := by simpa using hk
    have HL2 : Hid (res = false) := Lib.hid (by rw [HL.out]; simp [hk])
    clear HL HN HD HG
    go_enter Tryz.func53, Tryz.ntmps53
    go_wp2
    go_ret
    exact ⟨by first | (rw [HL2.out]; done) | (rw [HL2.out]; rfl) | simp [HL2.out], HB0.out⟩
end Go.Proofs.YtckammgnmgkieaaGreat

/-
  The data of a set are data of the row: what look.Zone asks of the targets' lengths.
-/
namespace Go.Proofs.YtckammgnmgkieaaGreat
set_option maxRecDepth 20000
open Go.RowKit Go.Shelf
set_option maxRecDepth 20000
set_option linter.unusedVariables false
set_option linter.unusedSimpArgs false
theorem insR_P {P : Dat → Prop} {x : Rc} (hx : P x.data) : ∀ (l : List Rc), (∀ y ∈ l, P y.data) → ∀ y ∈ insR l x, P y.data
  | [], _, y, hy => by
    rw [insR, List.mem_singleton] at hy; subst hy; exact hx
  | z :: r, h, y, hy => by
    have hz := h z (by simp)
    rw [insR] at hy
    split at hy
    · rcases List.mem_cons.1 hy with rfl | hy
      · exact hz
      · exact insR_P hx r (fun a ha => h a (by simp [ha])) y hy
    · split at hy
      · rcases List.mem_cons.1 hy with rfl | hy
        · exact hz
        · exact h y (by simp [hy])
      · rcases List.mem_cons.1 hy with rfl | hy
        · exact hx
        · exact h y hy
theorem canonM_P {P : Dat → Prop} (l : List Rc) : (∀ r ∈ l, P r.data) → ∀ y ∈ canonM l, P y.data :=
  list_snoc_ind (P := fun l => (∀ r ∈ l, P r.data) → ∀ y ∈ canonM l, P y.data) (fun _ y hy => by cases hy) (fun l x ih h y hy => by
    rw [canonM_snoc] at hy
    exact insR_P (h x (by simp)) _ (ih fun r hr => h r (by simp [hr])) y hy) l
theorem ofM_P {P : Dat → Prop} {l : List Rc} {o : Nm} {t : Int} {s : St} (hl : ∀ r ∈ l, P r.data) (h : ofM l o t = some s) : ∀ d ∈ s.data, P d := by
  rcases ofM_cases l o t with ⟨e, _⟩ | ⟨y, r, e, h2⟩
  · rw [e] at h; cases h
  · rw [h2] at h
    injection h with h
    subst h
    have hP : ∀ x ∈ y :: r, P x.data := fun x hx => canonM_P (l.filter (belM o t)) (fun r hr => hl r (List.mem_filter.1 hr).1) x (by rw [e]; exact hx)
    intro d hd
    simp only [stR, List.mem_cons, List.mem_map] at hd
    rcases hd with rfl | ⟨x, hx, rfl⟩
    · exact hP y (by simp)
    · exact hP x (by have := (List.takeWhile_sublist (p := belR y) (l := r)).subset hx; simp [this])
theorem hall_few {q : Nm} {rs : List Rc} (hq : fewN q = true) (hr : ∀ r ∈ rs, fewR r = true) : ∀ s d, ofM (onM rs q) (ancN q s) 39 = some d → pointD d = true → ∀ k, NmOK (q.take k ++ firstN d) := by
  intro s d h hp k
  have hP := ofM_P (P := fun d => ∀ n ∈ d.names, fewN n = true) (l := onM rs q) (fun r h1 => by
    have h2 := hr r (List.mem_filter.1 h1).1
    simp only [fewR, fewD, Bool.and_eq_true] at h2
    exact of_decide_eq_true h2.2.2.1) h
  obtain ⟨d', h1, h2⟩ := firstN_mem hp
  have h3 := of_decide_eq_true (hP d' h1 _ h2)
  have h4 := of_decide_eq_true hq
  refine ⟨?_, fun x hx => ?_⟩
  · rw [List.length_append, List.length_take]; omega
  · rcases List.mem_append.1 hx with hx | hx
    · have := h4.2 x (List.mem_of_mem_take hx); omega
    · have := h3.2 x hx; omega
end Go.Proofs.YtckammgnmgkieaaGreat

/-
  What look.Zone answers is of bounded rows: look.Same may be asked of it.
-/
namespace Go.Proofs.YtckammgnmgkieaaGreat
open Go.RowKit Go.Shelf
set_option maxRecDepth 20000
set_option linter.unusedVariables false
set_option linter.unusedSimpArgs false
theorem told_sub : ∀ (l : List Nm) (seen : List (List UInt8)), ∀ h ∈ toldM l seen, h ∈ l
  | [], _, h, hh => by simp [toldM] at hh
  | x :: r, seen, h, hh => by
    unfold toldM at hh
    split at hh
    · exact List.mem_cons_of_mem _ (told_sub r seen h hh)
    · rcases List.mem_cons.1 hh with rfl | hh
      · simp
      · exact List.mem_cons_of_mem _ (told_sub r _ h hh)
theorem ofM_lenS {l : List Rc} {o : Nm} {t : Int} {s : St} (h : ofM l o t = some s) : s.data.length ≤ l.length := by
  have := ofM_len l o t
  rw [h] at this; exact this
theorem glue_okL {rs : List Rc} (hr : ∀ r ∈ rs, RcOK r) (hl : rs.length ≤ 524288) (h : Nm) : (∀ d ∈ glueM rs h, DatOK d) ∧ (glueM rs h).length ≤ 1048576 := by
  unfold glueM
  have hg : ∀ t, ∀ d ∈ ((ofM rs h t).getD ⟨[], 0, 0, []⟩).data, DatOK d := fun t d hd => by
    cases e : ofM rs h t with
    | none => rw [e] at hd; simp at hd
    | some s => rw [e] at hd; exact (ofM_ok hr e).2 d hd
  refine ⟨fun d hd => ?_, ?_⟩
  · rcases List.mem_append.1 hd with hd | hd
    · exact hg 1 d hd
    · exact hg 28 d hd
  · have h1 := ofM_len rs h 1
    have h2 := ofM_len rs h 28
    rw [List.length_append]; omega
theorem nm_nilOK : NmOK [] := ⟨by simp, fun x hx => by cases hx⟩
theorem lk_bareOK (k : Int) (b : Bool) : LkOK ⟨k, [], [], b, []⟩ := ⟨fun d h => (by cases h), Nat.zero_le _, nm_nilOK, fun g h => (by cases h), Nat.zero_le _⟩
theorem refer_okL {on rs : List Rc} {n : Nm} {ns : St} (ho : ∀ r ∈ on, RcOK r) (hol : on.length ≤ 524288) (hr : ∀ r ∈ rs, RcOK r) (hl : rs.length ≤ 524288) (hn : NmOK n) (h : ofM on n 2 = some ns) : LkOK (referM rs n ns) := by
  have hd := (ofM_ok ho h).2
  have hz := ofM_lenS h
  refine ⟨hd, by simp only [referM]; omega, hn, fun g hg => ?_, ?_⟩
  · simp only [referM] at hg
    obtain ⟨x, hx, e⟩ := List.mem_filterMap.1 hg
    split at e
    · cases e
    · injection e with e
      subst e
      obtain ⟨k1, k2⟩ := glue_okL hr hl x
      exact ⟨targets_ok hd _ (told_sub _ _ _ hx), k1, k2⟩
  · simp only [referM]
    have h1 := List.length_filterMap_le (fun h => if glueM rs h = [] then none else some (h, glueM rs h)) (toldM (targetsM ns.ty ns.data) [])
    have h2 := toldM_len (targetsM ns.ty ns.data) []
    have h3 := targets_len ns.ty ns.data
    omega
theorem rename_okL {on : List Rc} {q n : Nm} {d : St} (ho : ∀ r ∈ on, RcOK r) (hol : on.length ≤ 524288) (hall : ∀ k, NmOK (q.take k ++ firstN d)) (h : ofM on n 39 = some d) : LkOK (renameM q n d) := by
  have hd := (ofM_ok ho h).2
  have hz := ofM_lenS h
  unfold renameM
  split
  · rename_i e
    refine ⟨fun x hx => hd x (List.mem_of_mem_take hx), by simp only [List.length_take]; omega, ?_, fun g h => (by cases h), Nat.zero_le _⟩
    simp only
    unfold swapN
    split
    · split
      · exact hall _
      · exact nm_nilOK
    · exact nm_nilOK
  · exact lk_bareOK _ _
theorem at_okL {l : List Rc} {n : Nm} (t : Int) (hr : ∀ r ∈ l, RcOK r) (hl : l.length ≤ 524288) (w : Bool) : LkOK { atM l n t with wild := w } := by
  unfold atM
  split
  · rename_i s h
    have hz := ofM_lenS h
    exact ⟨(ofM_ok hr h).2, by simp only; omega, nm_nilOK, fun g h => (by cases h), Nat.zero_le _⟩
  · split
    · rename_i c h
      have hd := (ofM_ok hr h).2
      have hz := ofM_lenS h
      split
      · rename_i hp
        obtain ⟨d', h1, h2⟩ := firstN_mem hp
        exact ⟨fun x hx => hd x (List.mem_of_mem_take hx), by simp only [List.length_take]; omega, (hd d' h1).2.2.1 _ h2, fun g h => (by cases h), Nat.zero_le _⟩
      · exact lk_bareOK _ _
    · exact lk_bareOK _ _
theorem lookM_ok {o : Nm} {rs : List Rc} {q : Nm} (t : Int) (hq : NmOK q) (hr : ∀ r ∈ rs, RcOK r) (hl : rs.length ≤ 524288) (hall : ∀ s d, ofM (onM rs q) (ancN q s) 39 = some d → pointD d = true → ∀ k, NmOK (q.take k ++ firstN d)) : LkOK (lookM o rs q t) := by
  have hon : ∀ r ∈ onM rs q, RcOK r := fun r h => hr r (List.mem_filter.1 h).1
  have hln : (onM rs q).length ≤ 524288 := by have := List.length_filter_le (fun r : Rc => underN q r.owner) rs; unfold onM; omega
  have han : ∀ s, NmOK (ancN q s) := fun s => ⟨by unfold ancN; rw [List.length_drop]; have := hq.1; omega, fun x hx => hq.2 x (List.mem_of_mem_drop hx)⟩
  unfold lookM
  split
  · exact lk_bareOK _ _
  · split
    · rename_i r h
      obtain ⟨s, _, hs⟩ := List.exists_of_findSome?_eq_some h
      unfold stepM at hs
      split at hs
      · rename_i ns hn
        injection hs with hs
        subst hs
        split at hn
        · exact refer_okL hon hln hr hl (han s) hn
        · cases hn
      · split at hs
        · rename_i d hd
          split at hs
          · rename_i hp
            injection hs with hs
            subst hs
            split at hd
            · exact rename_okL hon hln (hall s d hd hp) hd
            · cases hd
          · cases hs
        · cases hs
    · split
      · exact at_okL t hon hln (atM (onM rs q) q t).wild
      · split
        · exact at_okL t hr hl true
        · exact lk_bareOK _ _
theorem hall_few2 {q : Nm} {rs : List Rc} (hq : fewN q = true) (hr : ∀ r ∈ rs, ∀ n ∈ r.data.names, fewN n = true) : ∀ s d, ofM (onM rs q) (ancN q s) 39 = some d → pointD d = true → ∀ k, NmOK (q.take k ++ firstN d) := by
  intro s d h hp k
  have hP := ofM_P (P := fun d => ∀ n ∈ d.names, fewN n = true) (l := onM rs q) (fun r h1 => hr r (List.mem_filter.1 h1).1) h
  obtain ⟨d', h1, h2⟩ := firstN_mem hp
  have h3 := of_decide_eq_true (hP d' h1 _ h2)
  have h4 := of_decide_eq_true hq
  refine ⟨?_, fun x hx => ?_⟩
  · rw [List.length_append, List.length_take]; omega
  · rcases List.mem_append.1 hx with hx | hx
    · have := h4.2 x (List.mem_of_mem_take hx); omega
    · have := h3.2 x hx; omega
theorem canon_fewL {l : List Rc} (h : fewRs l = true) : ∀ r ∈ canonM l, ∀ n ∈ r.data.names, fewN n = true := by
  refine canonM_P (P := fun d => ∀ n ∈ d.names, fewN n = true) l fun r hr => ?_
  simp only [fewRs, Bool.and_eq_true, decide_eq_true_eq, List.all_eq_true] at h
  have h2 := h.2 r hr
  simp only [fewR, fewD, Bool.and_eq_true] at h2
  exact of_decide_eq_true h2.2.2.1
theorem foldL_lenU (l : List UInt8) : (foldL l).length = l.length := by simp [foldL]
theorem few_fold {q : Nm} (h : fewN q = true) : fewN (foldN q) = true := by
  have h := of_decide_eq_true h
  refine decide_eq_true ⟨by rw [foldN_len]; exact h.1, fun x hx => ?_⟩
  unfold foldN at hx
  obtain ⟨y, hy, rfl⟩ := List.mem_map.1 hx
  have := h.2 y hy
  rw [foldL_lenU]; exact this
theorem lookM_kinds (o : Nm) (rs : List Rc) (q : Nm) (t : Int) : (lookM o rs q t).kind = 1 ∨ (lookM o rs q t).kind = 2 ∨ (lookM o rs q t).kind = 3 ∨ (lookM o rs q t).kind = 4 ∨ (lookM o rs q t).kind = 5 ∨ (lookM o rs q t).kind = 6 ∨ (lookM o rs q t).kind = 7 := by
  unfold lookM
  split
  · simp
  · split
    · rename_i r h
      obtain ⟨s, _, hs⟩ := List.exists_of_findSome?_eq_some h
      rcases step_kind hs with ⟨e, _⟩ | ⟨e, _⟩ | ⟨e, _⟩ <;> rw [e] <;> simp
    · split
      · rcases at_kind (onM rs q) q t with h | h | h <;> rw [h] <;> simp
      · split
        · rcases at_kind rs (starM o rs q) t with h | h | h <;> rw [show ({ atM rs (starM o rs q) t with wild := true } : Lk).kind = (atM rs (starM o rs q) t).kind from rfl, h] <;> simp
        · simp
end Go.Proofs.YtckammgnmgkieaaGreat

/-
  Part of a proof.
-/
namespace Go.Proofs.YtckammgnmgkieaaGreat
set_option maxRecDepth 20000
open Go Go.ChangeShapes Go.WideShapes Go.ChangeAt Go.RowKit Go.Shelf
set_option maxRecDepth 20000
theorem sl_row {W : World} {x : Addr} {l c : Nat} (f : Nat → Value) (hl : l ≤ c) (hcell : ∀ i, i < c → W.cell? (x.add i) = some (f i)) : SlAt W (.slice (some x) l c) ((List.range l).map f) := by
  refine ⟨some x, c, by simp, by simpa using hl, by simp, ?_⟩
  by_cases h0 : l = 0
  · subst h0; left; simp
  · right
    obtain ⟨b, off, spot⟩ := x
    have hspot : spot = none := by simpa [Addr.add] using World.cell?_spot (hcell 0 (by omega))
    subst hspot
    have hb : b < W.heap.size := by
      have h := hcell 0 (by omega)
      exact World.block_lt_of_cell? W _ (by simpa [Addr.add] using h : W.cell? ⟨b, off, none⟩ = some (f 0))
    refine ⟨b, off, rfl, hb, fun j hj => ?_⟩
    rw [List.length_map, List.length_range] at hj
    rw [← Go.WideShapes.add_plain, hcell j (by omega)]
    simp
theorem ints_row {W : World} {k : IntKind} {x : Addr} {l c : Nat} {zs : List Int} (hl : l ≤ c) (hz : zs.length = c) (hcell : ∀ i, i < zs.length → W.cell? (x.add i) = some (.int k (zs.getD i 0))) : SlAt W (.slice (some x) l c) ((zs.take l).map fun z => .int k z) := by
  have h := sl_row (fun i => Value.int k (zs.getD i 0)) hl (fun i hi => hcell i (by omega))
  have e : (List.range l).map (fun i => Value.int k (zs.getD i 0)) = (zs.take l).map fun z => Value.int k z := by
    apply List.ext_getElem
    · simp; omega
    · intro i h1 h2
      simp only [List.length_map, List.length_range] at h1
      have : i < zs.length := by omega
      simp [List.getD, this]
  rwa [e] at h
variable {H : Type} {enc : TypeId × Value → H} {W : World}
theorem cells3 : Tryz.prog.cellsOf 3 = 1 ∧ Tryz.prog.cellsOf 42 = 1 ∧ Tryz.prog.cellsOf 98 = 1 ∧ Tryz.prog.cellsOf 23 = 1 ∧ Tryz.prog.cellsOf 99 = 1 ∧ Tryz.prog.cellsOf 101 = 5 ∧ Tryz.prog.cellsOf 24 = 1 ∧ Tryz.prog.cellsOf 9 = 1 ∧ Tryz.prog.cellsOf 35 = 1 ∧ Tryz.prog.cellsOf 5 = 1 :=
  ⟨by kernel_rfl, by kernel_rfl, by kernel_rfl, by kernel_rfl, by kernel_rfl, by kernel_rfl, by kernel_rfl, by kernel_rfl, by kernel_rfl, by kernel_rfl⟩
theorem open_nm {t : TypeId} (ht : Tryz.prog.underlying t = some (.slice 9)) {fuel : Nat} {v : Value} {x : DataW H × List MemPlace} (hf : DataW.trod enc Tryz.prog W 0 (fun _ => true) true fuel t [v] = some x) : ∃ zs, NmArg W v zs := by
  rcases Go.ChangeShapes.open_strings ht Tryz.underlying9 (by kernel_rfl) hf with ⟨hcs, _⟩ | ⟨x, l, c, zs, hcs, _, hl, hm, hz, _, hcell, hwz⟩
  · simp at hcs
    subst hcs
    exact ⟨[], nmArg_nil W⟩
  · simp at hcs
    subst hcs
    exact ⟨_, nmArg_row hl hm (by simpa using hz) hcell hwz⟩
theorem open_nms {fuel : Nat} {v : Value} {x : DataW H × List MemPlace} (hf : DataW.trod enc Tryz.prog W 0 (fun _ => true) true fuel 42 [v] = some x) : ∃ ns : List Nm, NmsAt W v ns ∧ ∀ n ∈ ns, n.length ≤ maxLen ∧ ∀ y ∈ n, y.length ≤ maxLen := by
  rcases Go.Deep.open_slice1 Tryz.underlying42 (by kernel_rfl) hf with ⟨hcs, _⟩ | ⟨a, len, cap, m, n, V, D, Pl, hcs, _, hl, hm, hmm, _, hV⟩
  · simp at hcs
    subst hcs
    exact ⟨[], NmsAt.nil W, by simp⟩
  · simp at hcs
    subst hcs
    simp only [if_true] at hmm
    subst hmm
    obtain ⟨F, hF⟩ := Go.Deep.choose_lt (α := Nm) (p := fun i z => NmArg W (V i) z) (fun i hi => open_nm Tryz.underlying24 (hV i hi).2)
    refine ⟨(List.range len).map F, ⟨(List.range len).map V, sl_row V hl (fun i hi => (hV i hi).1), by simp, fun j hj => ?_⟩, ?_⟩
    · simp only [List.length_map, List.length_range] at hj
      simpa using (hF j (by omega)).1
    · intro n hn
      obtain ⟨i, hi, rfl⟩ := List.mem_map.1 hn
      exact (hF i (by have := List.mem_range.1 hi; omega)).2
theorem wf_u32 {n : Int} (h : (Lit.int .u32 n).wf = true) : 0 ≤ n ∧ n < 2 ^ 32 := by
  simp [Lit.wf] at h
  have e1 : IntKind.u32.min = 0 := by decide
  have e2 : IntKind.u32.max = 4294967295 := by decide
  omega
theorem wf_u8 {n : Int} (h : (Lit.int .u8 n).wf = true) : 0 ≤ n ∧ n < 256 := by
  simp [Lit.wf] at h
  have e1 : IntKind.u8.min = 0 := by decide
  have e2 : IntKind.u8.max = 255 := by decide
  omega
theorem wf_i64 {n : Int} (h : (Lit.int .i64 n).wf = true) : -(2 ^ 63) ≤ n ∧ n < 2 ^ 63 := by
  simp [Lit.wf] at h
  have e1 : IntKind.i64.min = -9223372036854775808 := by decide
  have e2 : IntKind.i64.max = 9223372036854775807 := by decide
  omega
theorem open_u32s {fuel : Nat} {v : Value} {x : DataW H × List MemPlace} (hf : DataW.trod enc Tryz.prog W 0 (fun _ => true) true fuel 98 [v] = some x) : ∃ ns : List Nat, SlAt W v (ns.map u32V) ∧ ∀ n ∈ ns, n < 2 ^ 32 := by
  rcases open_ints Tryz.underlying98 Tryz.underlying35 (by kernel_rfl) hf with ⟨hcs, _⟩ | ⟨a, l, c, zs, hcs, _, hl, hm, hz, _, hcell, hw⟩
  · simp at hcs
    subst hcs
    exact ⟨[], SlAt.nil W, by simp⟩
  · simp at hcs
    subst hcs
    refine ⟨(zs.take l).map Int.toNat, ?_, ?_⟩
    · have h := ints_row hl (by simpa using hz) hcell
      have e : ((zs.take l).map Int.toNat).map u32V = (zs.take l).map fun z => Value.int .u32 z := by
        rw [List.map_map]
        apply List.map_congr_left
        intro z hz
        have := wf_u32 (hw z (List.mem_of_mem_take hz))
        show Value.int .u32 ((z.toNat : Nat) : Int) = _
        rw [Int.toNat_of_nonneg this.1]
      rw [e]; exact h
    · intro n hn
      obtain ⟨z, hz, rfl⟩ := List.mem_map.1 hn
      have := wf_u32 (hw z (List.mem_of_mem_take hz))
      omega
theorem open_u8s {fuel : Nat} {v : Value} {x : DataW H × List MemPlace} (hf : DataW.trod enc Tryz.prog W 0 (fun _ => true) true fuel 99 [v] = some x) : ∃ ns : List UInt8, SlAt W v (ns.map bv) := by
  rcases open_ints Tryz.underlying99 Tryz.underlying5 (by kernel_rfl) hf with ⟨hcs, _⟩ | ⟨a, l, c, zs, hcs, _, hl, hm, hz, _, hcell, hw⟩
  · simp at hcs
    subst hcs
    exact ⟨[], SlAt.nil W⟩
  · simp at hcs
    subst hcs
    refine ⟨(zs.take l).map fun z => UInt8.ofNat z.toNat, ?_⟩
    have h := ints_row hl (by simpa using hz) hcell
    have e : ((zs.take l).map fun z => UInt8.ofNat z.toNat).map bv = (zs.take l).map fun z => Value.int .u8 z := by
      rw [List.map_map]
      apply List.map_congr_left
      intro z hz
      have := wf_u8 (hw z (List.mem_of_mem_take hz))
      show Value.int .u8 ((UInt8.ofNat z.toNat).toNat : Int) = _
      congr 1
      simp
      omega
    rw [e]; exact h
theorem open_data {fuel : Nat} {cs : List Value} {x : DataW H × List MemPlace} (hf : DataW.trod enc Tryz.prog W 0 (fun _ => true) true fuel 101 cs = some x) : ∃ d, DatArg W (.agg cs.toArray) d := by
  obtain ⟨k1, k2, k3, k4, k5, k6, _⟩ := cells3
  obtain ⟨xs, n, _, _, hl, hx, hfd⟩ := DataW.trod_struct Tryz.underlying101 hf
  rw [k6] at hl
  match cs, hl with
  | [c0, c1, c2, c3, c4], _ =>
  match xs, hx with
  | [y0, y1, y2, y3, y4], _ =>
  have h0 : DataW.trod enc Tryz.prog W 0 (fun _ => true) true n 3 (List.take (Tryz.prog.cellsOf 3) (List.drop 0 [c0, c1, c2, c3, c4])) = some y0 := hfd 0 _ rfl
  rw [k1] at h0
  replace h0 : DataW.trod enc Tryz.prog W 0 (fun _ => true) true n 3 [c0] = some y0 := h0
  have h1 : DataW.trod enc Tryz.prog W 0 (fun _ => true) true n 42 (List.take (Tryz.prog.cellsOf 42) (List.drop 1 [c0, c1, c2, c3, c4])) = some y1 := hfd 1 _ rfl
  rw [k2] at h1
  replace h1 : DataW.trod enc Tryz.prog W 0 (fun _ => true) true n 42 [c1] = some y1 := h1
  have h2 : DataW.trod enc Tryz.prog W 0 (fun _ => true) true n 98 (List.take (Tryz.prog.cellsOf 98) (List.drop 2 [c0, c1, c2, c3, c4])) = some y2 := hfd 2 _ rfl
  rw [k3] at h2
  replace h2 : DataW.trod enc Tryz.prog W 0 (fun _ => true) true n 98 [c2] = some y2 := h2
  have h3 : DataW.trod enc Tryz.prog W 0 (fun _ => true) true n 23 (List.take (Tryz.prog.cellsOf 23) (List.drop 3 [c0, c1, c2, c3, c4])) = some y3 := hfd 3 _ rfl
  rw [k4] at h3
  replace h3 : DataW.trod enc Tryz.prog W 0 (fun _ => true) true n 23 [c3] = some y3 := h3
  have h4 : DataW.trod enc Tryz.prog W 0 (fun _ => true) true n 99 (List.take (Tryz.prog.cellsOf 99) (List.drop 4 [c0, c1, c2, c3, c4])) = some y4 := hfd 4 _ rfl
  rw [k5] at h4
  replace h4 : DataW.trod enc Tryz.prog W 0 (fun _ => true) true n 99 [c4] = some y4 := h4
  obtain ⟨ty, e0, _, w0⟩ := DataW.trod_int Tryz.underlying3 h0
  obtain ⟨ns, n1, n2⟩ := open_nms h1
  obtain ⟨us, u1, u2⟩ := open_u32s h2
  obtain ⟨ts, t1⟩ := open_nm Tryz.underlying23 h3
  obtain ⟨rs, r1⟩ := open_u8s h4
  simp at e0
  subst e0
  exact ⟨⟨ty, ns, us, ts, rs⟩, ⟨c1, c2, c3, c4, rfl, n1, u1, t1.1, r1⟩, wf_i64 w0, n2, u2, t1.2.2⟩
theorem cellsRec : Tryz.prog.cellsOf 103 = 7 := by kernel_rfl
theorem open_rec {fuel : Nat} {cs : List Value} {x : DataW H × List MemPlace} (hf : DataW.trod enc Tryz.prog W 0 (fun _ => true) true fuel 103 cs = some x) : ∃ r, RcArg W cs r := by
  obtain ⟨k1, k2, k3, k4, k5, k6, k7, k8, k9, _⟩ := cells3
  obtain ⟨xs, n, _, _, hl, hx, hfd⟩ := DataW.trod_struct Tryz.underlying103 hf
  rw [cellsRec] at hl
  match cs, hl with
  | [c0, c1, c2, c3, c4, c5, c6], _ =>
  match xs, hx with
  | [y0, y1, y2], _ =>
  have h0 : DataW.trod enc Tryz.prog W 0 (fun _ => true) true n 24 (List.take (Tryz.prog.cellsOf 24) (List.drop 0 [c0, c1, c2, c3, c4, c5, c6])) = some y0 := hfd 0 _ rfl
  rw [k7] at h0
  replace h0 : DataW.trod enc Tryz.prog W 0 (fun _ => true) true n 24 [c0] = some y0 := h0
  have h1 : DataW.trod enc Tryz.prog W 0 (fun _ => true) true n 35 (List.take (Tryz.prog.cellsOf 35) (List.drop 1 [c0, c1, c2, c3, c4, c5, c6])) = some y1 := hfd 1 _ rfl
  rw [k9] at h1
  replace h1 : DataW.trod enc Tryz.prog W 0 (fun _ => true) true n 35 [c1] = some y1 := h1
  have h2 : DataW.trod enc Tryz.prog W 0 (fun _ => true) true n 101 (List.take (Tryz.prog.cellsOf 101) (List.drop 2 [c0, c1, c2, c3, c4, c5, c6])) = some y2 := hfd 2 _ rfl
  rw [k6] at h2
  replace h2 : DataW.trod enc Tryz.prog W 0 (fun _ => true) true n 101 [c2, c3, c4, c5, c6] = some y2 := h2
  obtain ⟨o, o1⟩ := open_nm Tryz.underlying24 h0
  obtain ⟨t, e1, _, w1⟩ := DataW.trod_int Tryz.underlying35 h1
  obtain ⟨d, hd⟩ := open_data h2
  simp at e1
  subst e1
  have ht := wf_u32 w1
  obtain ⟨vn, vu, vt, vr, e, hh⟩ := hd.1
  have e' : [c2, c3, c4, c5, c6] = [Value.int .i64 d.ty, vn, vu, vt, vr] := by
    have : [c2, c3, c4, c5, c6].toArray = #[Value.int .i64 d.ty, vn, vu, vt, vr] := by injection e
    exact congrArg Array.toList this
  simp only [List.cons.injEq, and_true] at e'
  obtain ⟨rfl, rfl, rfl, rfl, rfl⟩ := e'
  refine ⟨⟨o, t.toNat, d⟩, _, _, _, _, _, ?_, o1, hd, by show t.toNat < 2 ^ 32; omega⟩
  show [_, Value.int .u32 t, _, _, _, _, _] = [_, Value.int .u32 ((t.toNat : Nat) : Int), _, _, _, _, _]
  rw [Int.toNat_of_nonneg ht.1]
theorem flatten_at (k : Nat) (k0 : 0 < k) : ∀ (l : List (List Value)), (∀ cs ∈ l, cs.length = k) → ∀ (t : Nat) (u : Value), l.flatten[t]? = some u → ∃ h : t / k < l.length, (l[t / k])[t % k]? = some u
  | [], _, t, u, h => by simp at h
  | x :: r, hk, t, u, h => by
    have hx := hk x (by simp)
    rw [List.flatten_cons] at h
    by_cases ht : t < k
    · rw [List.getElem?_append_left (by omega)] at h
      have e0 : t / k = 0 := Nat.div_eq_of_lt ht
      have e1 : t % k = t := Nat.mod_eq_of_lt ht
      refine ⟨by rw [e0]; simp, ?_⟩
      simp only [e0, e1, List.getElem_cons_zero]
      exact h
    · rw [List.getElem?_append_right (by omega), hx] at h
      obtain ⟨h1, h2⟩ := flatten_at k k0 r (fun cs hc => hk cs (by simp [hc])) (t - k) u h
      have e0 : t / k = (t - k) / k + 1 := by
        rw [Nat.div_eq_sub_div k0 (by omega)]
      have e1 : t % k = (t - k) % k := by
        rw [Nat.mod_eq_sub_mod (by omega)]
      refine ⟨by rw [e0]; simpa using h1, ?_⟩
      simp only [e0, e1, List.getElem_cons_succ]
      exact h2
instance inhRec : Inhabited (List Value × Rc) := ⟨([], Rc.none)⟩
theorem open_recs {fuel : Nat} {v : Value} {x : DataW H × List MemPlace} (hf : DataW.trod enc Tryz.prog W 0 (fun _ => true) true fuel 22 [v] = some x) :
    ∃ (css : List (List Value)) (l : List Rc), SlK W v css ∧ css.length = l.length ∧ ∀ i (h1 : i < css.length) (h2 : i < l.length), RcArg W css[i] l[i] := by
  rcases Go.Deep.open_slice Tryz.underlying22 hf with ⟨hcs, _⟩ | ⟨a, len, cap, m, n, D, Pl, hcs, _, hl, hm, hmm, _, hV⟩
  · simp at hcs
    subst hcs
    exact ⟨[], [], SlK.nil W, rfl, fun i h1 => absurd h1 (Nat.not_lt_zero _)⟩
  · simp at hcs
    subst hcs
    simp only [if_true] at hmm
    subst hmm
    rw [cellsRec] at hV
    obtain ⟨F, hF⟩ := Go.Deep.choose_lt (α := List Value × Rc) (p := fun i z => W.cells? 0 (a.add (i * 7)) 7 = some z.1 ∧ RcArg W z.1 z.2) (fun i hi => by
      obtain ⟨cs', h1, h2⟩ := hV i hi
      obtain ⟨r, hr⟩ := open_rec h2
      exact ⟨(cs', r), h1, hr⟩)
    have hlen : ∀ i, i < len → (F i).1.length = 7 := fun i hi => (World.cells?_some (hF i (by omega)).1).2.1
    refine ⟨(List.range len).map fun i => (F i).1, (List.range len).map fun i => (F i).2, ⟨some a, m, by simp, by simpa using hl, (fun e => by cases e), ?_⟩, by simp, fun i h1 h2 => ?_⟩
    · by_cases h0 : len = 0
      · subst h0; left; rfl
      · right
        obtain ⟨b, off, spot⟩ := a
        have hc0 := (World.cells?_some (hF 0 (by omega)).1).2.2 0 (by omega)
        rw [List.getElem?_eq_getElem (by rw [hlen 0 (by omega)]; omega)] at hc0
        have hspot : spot = none := by simpa [Addr.add] using World.cell?_spot hc0
        subst hspot
        have hb : b < W.heap.size := World.block_lt_of_cell? W _ (by simpa [Addr.add] using hc0 : W.cell? ⟨b, off, none⟩ = some _)
        refine ⟨b, off, rfl, hb, fun j u hj => ?_⟩
        obtain ⟨h1, h2⟩ := flatten_at 7 (by omega) _ (fun cs hc => by
          obtain ⟨i, hi, rfl⟩ := List.mem_map.1 hc
          exact hlen i (List.mem_range.1 hi)) j u hj
        have hi : j / 7 < len := by simpa using h1
        rw [List.getElem_map, List.getElem_range] at h2
        have hd : j % 7 < 7 := Nat.mod_lt _ (by omega)
        have hc := (World.cells?_some (hF (j / 7) (by omega)).1).2.2 (j % 7) hd
        rw [h2] at hc
        rw [Addr.add_lit, Addr.add_lit, show off + j / 7 * 7 + j % 7 = off + j by omega] at hc
        exact hc
    · simp only [List.length_map, List.length_range] at h1
      simpa using (hF i (by omega)).2
end Go.Proofs.YtckammgnmgkieaaGreat

