import Derived.Test.YtckammgnmgkieaaGreatMQ14
import Derived.Test.YtckammgnmgkieaaGreatMQ07
namespace Go.Proofs.YtckammgnmgkieaaGreat
set_option linter.unusedVariables false
set_option linter.unusedSimpArgs false
set_option maxRecDepth 100000
set_option maxHeartbeats 8000000
open Go.RowKit Go.Shelf
theorem SlK.elem2 {W : World} {a : Option Addr} {n c : Nat} {css : List (List Value)} (h : SlK W (.slice a n c) css) (hk : ∀ cs ∈ css, cs.length = 2) (h0 : 0 < css.length) : ∃ b off, a = some ⟨b, off, none⟩ ∧ b < W.heap.size ∧
 ∀ k (hlt : k < css.length) (u0 u1 : Value), css[k] = [u0, u1] → ∀ W', Below W.heap.size W W' →
  W'.cell? ⟨b, off + k * 2, none⟩ = some u0 ∧ W'.cell? ⟨b, off + k * 2 + 1, none⟩ = some u1 := by
 obtain ⟨a', c', e, _, _, h3⟩ := h
 cases e
 rcases h3 with h3 | ⟨b, off, rfl, hb, hc⟩
 ·subst h3; simp at h0
 ·refine ⟨b, off, rfl, hb, fun k hlt u0 u1 he W' hB => ?_⟩
  have key : ∀ j u, j < 2 → [u0, u1][j]? = some u → W'.cell? ⟨b, off + k * 2 + j, none⟩ = some u := fun j u hj hu => by
   rw [hB.cell (p := ⟨b, off + k * 2 + j, none⟩) hb, Nat.add_assoc]
   refine hc (k * 2 + j) u ?_
   have hl : ∀ (l : List (List Value)) (k : Nat) (hlt : k < l.length), (∀ cs ∈ l, cs.length = 2) → l[k] = [u0, u1] → l.flatten[k * 2 + j]? = some u := by
    intro l
    induction l with
    | nil => intro k hlt; simp at hlt
    | cons x r ih =>
     intro k hlt hk he
     rw [List.flatten_cons]
     cases k with
     | zero =>
      rw [List.getElem_cons_zero] at he
      rw [he, List.getElem?_append_left (by simp; omega)]
      simpa using hu
     | succ k =>
      rw [List.getElem_cons_succ] at he
      have hx : x.length = 2 := hk x (by simp)
      rw [List.getElem?_append_right (by rw [hx]; omega), hx, show (k + 1) * 2 + j - 2 = k * 2 + j by omega]
      exact ih k (by simpa using hlt) (fun cs hc => hk cs (by simp [hc])) he
   exact hl css k hlt hk he
  exact ⟨key 0 u0 (by omega) rfl, key 1 u1 (by omega) rfl⟩
theorem qeo : ∀ (l m : List (Nm × List Dat)), l.length ≠ m.length → sameG l m = false
 | [], [], h => absurd rfl h
 | [], _ :: _, _ => rfl
 | _ :: _, [], _ => rfl
 | x :: r, y :: t, h => by
  have := qeo r t (by simpa using h)
  simp [sameG, this]
theorem qfK {l m : List (Nm × List Dat)} (k : Nat) (h1 : k < l.length) (h2 : k < m.length) : sameG (l.drop k) (m.drop k) = ((sameN l[k].1 m[k].1 && qap l[k].2 m[k].2) && sameG (l.drop (k + 1)) (m.drop (k + 1))) := by
 rw [List.drop_eq_getElem_cons h1, List.drop_eq_getElem_cons h2]; rfl
def GlOK (x : Nm × List Dat) : Prop := NmOK x.1 ∧ (∀ d ∈ x.2, DatOK d) ∧ x.2.length ≤ 1048576
theorem qjB (v u : Value) (l m : List (Nm × List Dat)) (w : World) (hA : GlR w v l) (hU : GlR w u m) (hOK : ∀ r ∈ l, GlOK r) (hOK2 : ∀ r ∈ m, GlOK r) (hl : l.length ≤ 1048576) (hl2 : m.length ≤ 1048576) :
 Calls Tryz.prog 101 #[v, u, .func (.func 102) #[] #[]] w fun e w' => e = .returned (.bool (sameG l m)) ∧ Below w.heap.size w w' := by
 obtain ⟨css, hA, hla, hR⟩ := hA
 obtain ⟨ess, hU, hlb, hS⟩ := hU
 have hk2 : ∀ cs ∈ css, cs.length = 2 := fun cs hc => by
  obtain ⟨i, hi, rfl⟩ := List.mem_iff_getElem.1 hc
  obtain ⟨x0, x1, e, _⟩ := hR i hi (by omega)
  rw [e]; rfl
 have hk3 : ∀ cs ∈ ess, cs.length = 2 := fun cs hc => by
  obtain ⟨i, hi, rfl⟩ := List.mem_iff_getElem.1 hc
  obtain ⟨x0, x1, e, _⟩ := hS i hi (by omega)
  rw [e]; rfl
 obtain ⟨a, c, rfl, hc1, hc2, hx⟩ := id hA
 obtain ⟨b, d, rfl, hd1, hd2, hy⟩ := id hU
 obtain ⟨n, hn⟩ : ∃ n, css.length = n := ⟨_, rfl⟩
 obtain ⟨n2, hn2⟩ : ∃ n, ess.length = n := ⟨_, rfl⟩
 have HSA := qH0 hA; have HSU := qH0 hU; have HR := qH0 hR; have HS := qH0 hS; have HOK := qH0 hOK; have HOK2 := qH0 hOK2
 rw [hn] at HSA hc1 ⊢
 rw [hn2] at HSU hd1 ⊢
 have HN := qH0 hn; have HN2 := qH0 hn2; have HK2 := qH0 hk2; have HK3 := qH0 hk3
 have HLA := qH0 (show l.length = n by rw [← hn]; exact hla.symm)
 have HLB := qH0 (show m.length = n2 by rw [← hn2]; exact hlb.symm)
 have hl : n ≤ 1048576 := by have := HLA.out; omega
 have hl2 : n2 ≤ 1048576 := by have := HLB.out; omega
 obtain ⟨res, hres⟩ : ∃ r, sameG l m = r := ⟨_, rfl⟩
 rw [hres]
 have HRES := qH0 hres
 clear hA hU hR hS hOK hOK2 hc2 hx hd2 hy hn hn2 hres hla hlb hk2 hk3
 by_cases hnn : n = n2
 ·subst hnn
  have HB0 : Hid (Below w.heap.size w w) := qH0 (qL0)
  go_enter Tryz.func101, Tryz.ntmps101
  go_wp2
  go_loopw [17] (fun vi wr => ∃ (k : Nat), vi = .int .i64 k ∧ k ≤ n ∧ Hid (res = sameG (l.drop k) (m.drop k)) ∧ Hid (Below w.heap.size w wr)) (fun vi _ => n - (intOf vi).toNat)
  case atStart => exact ⟨0, rfl, Nat.zero_le _, qH0 HRES.out.symm, HB0⟩
  case round =>
   obtain ⟨k, rfl, hk, HC, HB⟩ := hrel
   by_cases hlt : k < n
   ·have hltz : (k : Int) < (n : Int) := by omega
    have hk1 : k < css.length := by have := HN.out; omega
    have hk2 : k < ess.length := by have := HN2.out; omega
    have hk3 : k < l.length := by have := HLA.out; omega
    have hk4 : k < m.length := by have := HLB.out; omega
    obtain ⟨ga, oa, rfl, hga, hea⟩ := HSA.out.elem2 HK2.out (by omega)
    obtain ⟨gb, ob, rfl, hgb, heb⟩ := HSU.out.elem2 HK3.out (by omega)
    obtain ⟨⟨p3, q3, r3⟩, ⟨p4, q4, r4⟩, e0, h0, h0'⟩ := HR.out k hk1 hk3
    obtain ⟨⟨p5, q5, r5⟩, ⟨p6, q6, r6⟩, e1, h1, h1'⟩ := HS.out k hk2 hk4
    have hok := HOK.out _ (List.getElem_mem hk3)
    have hok2 := HOK2.out _ (List.getElem_mem hk4)
    have hst := qfK k hk3 hk4
    obtain ⟨ra, hra⟩ : ∃ r, l[k]'hk3 = r := ⟨_, rfl⟩
    obtain ⟨rb, hrb⟩ : ∃ r, m[k]'hk4 = r := ⟨_, rfl⟩
    rw [hra] at h0 h0' hok hst
    rw [hrb] at h1 h1' hok2 hst
    clear hra hrb
    have htw := fun W (hb : Below w.heap.size w W) => qhn (p3, q3, r3) (p4, q4, r4) (p5, q5, r5) (p6, q6, r6) ra rb W (h0.below hb) (h0'.below hb) (h1.below hb) (h1'.below hb) hok.1 hok2.1 hok.2.1 hok2.2.1 hok.2.2 hok2.2.2
    unfold slW at htw e0 e1
    simp only at htw e0 e1
    obtain ⟨c0, c1⟩ := hea k hk1 _ _ e0 wr HB.out
    obtain ⟨d0, d1⟩ := heb k hk2 _ _ e1 (wr.alloc (.cells #[.slice p3 q3 r3, .slice p4 q4 r4] 143)) (HB.out.alloc HB.out.size _)
    obtain ⟨tw, htw'⟩ : ∃ t, (sameN ra.1 rb.1 && qap ra.2 rb.2) = t := ⟨_, rfl⟩
    rw [htw'] at htw hst
    have HTW := qH0 htw
    have HST := qH0 hst
    clear h0 h1 h0' h1' hok hok2 htw hst e0 e1 htw' hea heb hk1 hk2 hk3 hk4
    go_wp2_with fail
    have HBW := qH0 ((HB.out.alloc HB.out.size (.cells #[.slice p3 q3 r3, .slice p4 q4 r4] 143)).alloc (by have := HB.out.size; simp; omega) (.cells #[.slice p5 q5 r5, .slice p6 q6 r6] 143))
    refine (HTW.out _ HBW.out).mono ?_
    rintro e w2 ⟨rfl, hb2⟩
    have HB2 := qH0 (qB0 HBW.out hb2)
    have HC2 : Hid (res = (tw && sameG (l.drop (k + 1)) (m.drop (k + 1)))) := qH0 (by rw [HC.out, HST.out])
    clear hb2 HC HST HTW HBW HB c0 c1 d0 d1
    cases tw
    ·have HE : Hid (res = false) := qH0 (by rw [HC2.out]; rfl)
     clear HC2
     go_wp2
     go_ret
     exact ⟨by rw [HE.out]; rfl, HB2.out⟩
    ·have HE : Hid (res = sameG (l.drop (k + 1)) (m.drop (k + 1))) := qH0 (by rw [HC2.out]; rfl)
     clear HC2
     go_wp2
     go_roundw
     case measure => simp [intOf]; omega
     case rel => exact ⟨k + 1, by go_num, by omega, HE, HB2⟩
   ·obtain rfl : k = n := by omega
    have HE : Hid (res = true) := qH0 (by
     rw [HC.out, List.drop_of_length_le (by have := HLA.out; omega), List.drop_of_length_le (by have := HLB.out; omega)]; rfl)
    clear HC
    go_wp2
    go_ret
    exact ⟨by rw [HE.out]; rfl, HB.out⟩
 ·have hz : ¬ (n : Int) = (n2 : Int) := by omega
  have hzb : ((n : Int) != (n2 : Int)) = true := by simpa using hz
  have HE : Hid (res = false) := qH0 (by rw [← HRES.out]; exact qeo _ _ (by have := HLA.out; have := HLB.out; omega))
  go_enter Tryz.func101, Tryz.ntmps101
  go_wp2
  go_ret
  exact ⟨by rw [HE.out]; rfl, qL0⟩
def LkOK (r : Lk) : Prop := (∀ d ∈ r.data, DatOK d) ∧ r.data.length ≤ 1048576 ∧ NmOK r.name ∧ (∀ g ∈ r.glue, GlOK g) ∧ r.glue.length ≤ 1048576
theorem qej (cs ds : List Value) (r s : Lk) (w : World) (hA : LkAt w cs r) (hB : LkAt w ds s) (hr : LkOK r) (hs : LkOK s) :
 Calls Tryz.prog 53 #[.agg cs.toArray, .agg ds.toArray] w fun e w' => e = .returned (.bool (sameLk r s)) ∧ Below w.heap.size w w' := by
 obtain ⟨⟨a1, b1, c1⟩, ⟨a2, b2, c2⟩, ⟨a4, b4, c4⟩, rfl, h1, h2, h3⟩ := hA
 obtain ⟨⟨d1, e1, f1⟩, ⟨d2, e2, f2⟩, ⟨d4, e4, f4⟩, rfl, k1, k2, k3⟩ := hB
 have HN := qH0 (fun (W : World) (hb : Below w.heap.size w W) => qbL (slW (a2, b2, c2)) (slW (d2, e2, f2)) r.name s.name _ rfl W (h2.below hb) (k2.below hb) hr.2.2.1 hs.2.2.1)
 have HD := qH0 (fun (W : World) (hb : Below w.heap.size w W) => qd2 (slW (a1, b1, c1)) (slW (d1, e1, f1)) r.data s.data W (h1.below hb) (k1.below hb) hr.1 hs.1 hr.2.1 hs.2.1)
 have HG := qH0 (fun (W : World) (hb : Below w.heap.size w W) => qjB (slW (a4, b4, c4)) (slW (d4, e4, f4)) r.glue s.glue W (h3.below hb) (k3.below hb) hr.2.2.2.1 hs.2.2.2.1 hr.2.2.2.2 hs.2.2.2.2)
 have HL := qH0 (show sameLk r s = (decide (r.kind = s.kind) && decide (r.wild = s.wild) && sameN r.name s.name && qap r.data s.data && sameG r.glue s.glue) from rfl)
 generalize sameLk r s = res at *
 clear h1 h2 h3 k1 k2 k3 hr hs
 unfold slW at *
 simp only at *
 generalize sameN r.name s.name = tn at *
 generalize qap r.data s.data = td at *
 generalize sameG r.glue s.glue = tg at *
 generalize r.kind = ka at *
 generalize s.kind = kb at *
 generalize r.wild = wa at *
 generalize s.wild = wb at *
 have hB0 : Below w.heap.size w ((w.alloc (.cells #[.int .i64 ka, .slice a1 b1 c1, .slice a2 b2 c2, .bool wa, .slice a4 b4 c4] 84)).alloc (.cells #[.int .i64 kb, .slice d1 e1 f1, .slice d2 e2 f2, .bool wb, .slice d4 e4 f4] 84)) := ((Below.refl w.heap.size w).alloc (qN0) _).alloc (by simp) _
 have HB0 := qH0 hB0
 have X0 := qH0 ((Below.heap_alloc (w.alloc (.cells #[.int .i64 ka, .slice a1 b1 c1, .slice a2 b2 c2, .bool wa, .slice a4 b4 c4] 84)) (.cells #[.int .i64 kb, .slice d1 e1 f1, .slice d2 e2 f2, .bool wb, .slice d4 e4 f4] 84) w.heap.size (by simp)).trans (knew w _))
 have X1 := qH0 (knew (w.alloc (.cells #[.int .i64 ka, .slice a1 b1 c1, .slice a2 b2 c2, .bool wa, .slice a4 b4 c4] 84)) (.cells #[.int .i64 kb, .slice d1 e1 f1, .slice d2 e2 f2, .bool wb, .slice d4 e4 f4] 84))
 rw [World.size_alloc] at X1
 clear hB0
 by_cases hk : ka = kb
 ·subst hk
  by_cases hw : wa = wb
  ·subst hw
   have hn := HN.out _ HB0.out
   have HL2 : Hid (res = (tn && td && tg)) := qH0 (by rw [HL.out]; simp)
   clear HL HN
   go_enter Tryz.func53, Tryz.ntmps53
   go_wp2_with fail
   refine hn.mono ?_
   rintro e w1 ⟨rfl, hb1⟩
   have HB1 := qH0 (qB0 HB0.out hb1)
   have X2 := qH0 ((hb1.block _ (qaa X0.out)).trans X0.out)
   have X3 := qH0 ((hb1.block _ (qaa X1.out)).trans X1.out)
   have y1 := kcell X2.out 1 _ rfl; have y4 := kcell X2.out 4 _ rfl; have z1 := kcell X3.out 1 _ rfl; have z4 := kcell X3.out 4 _ rfl
   have hd := HD.out _ HB1.out
   clear hn hb1 X0 X1 HB0 HD
   cases tn with
   | false =>
    clear hd
    have HL3 : Hid (res = false) := qH0 (by rw [HL2.out]; rfl)
    go_wp2
    go_ret
    exact ⟨by first | (rw [HL3.out]; done) | (rw [HL3.out]; rfl) | simp [HL3.out], HB1.out⟩
   | true =>
    go_wp2_with fail
    refine hd.mono ?_
    rintro e w2 ⟨rfl, hb2⟩
    have HB2 := qH0 (qB0 HB1.out hb2)
    have x2 := (hb2.block _ (qaa X2.out)).trans X2.out
    have x3 := (hb2.block _ (qaa X3.out)).trans X3.out
    have y4 := kcell x2 4 _ rfl; have z4 := kcell x3 4 _ rfl
    have hg := HG.out _ HB2.out
    clear hd hb2 x2 x3 X2 X3 HB1 HG y1 z1
    cases td with
    | false =>
     clear hg
     have HL3 : Hid (res = false) := qH0 (by rw [HL2.out]; rfl)
     go_wp2
     go_ret
     exact ⟨by first | (rw [HL3.out]; done) | (rw [HL3.out]; rfl) | simp [HL3.out], HB2.out⟩
    | true =>
     have HL3 : Hid (res = tg) := qH0 (by rw [HL2.out]; simp)
     go_wp2_with fail
     refine hg.mono ?_
     rintro e w3 ⟨rfl, hb3⟩
     have HB3 := qH0 (qB0 HB2.out hb3)
     clear hg hb3
     go_wp2
     go_ret
     exact ⟨by first | (rw [HL3.out]; done) | (rw [HL3.out]; rfl) | simp [HL3.out], HB3.out⟩
  ·have hwb : (wa == wb) = false := by simpa using hw
   have HL2 : Hid (res = false) := qH0 (by rw [HL.out]; simp [hw])
   clear HL HN HD HG
   go_enter Tryz.func53, Tryz.ntmps53
   go_wp2
   go_ret
   exact ⟨by first | (rw [HL2.out]; done) | (rw [HL2.out]; rfl) | simp [HL2.out], HB0.out⟩
 ·have hkb : (ka == kb) = false := by simpa using hk
  have HL2 : Hid (res = false) := qH0 (by rw [HL.out]; simp [hk])
  clear HL HN HD HG
  go_enter Tryz.func53, Tryz.ntmps53
  go_wp2
  go_ret
  exact ⟨by first | (rw [HL2.out]; done) | (rw [HL2.out]; rfl) | simp [HL2.out], HB0.out⟩
theorem qfg : ∀ (l : List Nm) (seen : List (List UInt8)), ∀ h ∈ toldM l seen, h ∈ l
 | [], _, h, hh => by simp [toldM] at hh
 | x :: r, seen, h, hh => by
  unfold toldM at hh
  split at hh
  ·exact List.mem_cons_of_mem _ (qfg r seen h hh)
  ·rcases List.mem_cons.1 hh with rfl | hh
   ·simp
   ·exact List.mem_cons_of_mem _ (qfg r _ h hh)
theorem qcN {l : List Rc} {o : Nm} {t : Int} {s : St} (h : ofM l o t = some s) : s.data.length ≤ l.length := by
 have := qbO l o t
 rw [h] at this; exact this
theorem qmm {rs : List Rc} (hr : ∀ r ∈ rs, RcOK r) (hl : rs.length ≤ 524288) (h : Nm) : (∀ d ∈ glueM rs h, DatOK d) ∧ (glueM rs h).length ≤ 1048576 := by
 unfold glueM
 have hg : ∀ t, ∀ d ∈ ((ofM rs h t).getD ⟨[], 0, 0, []⟩).data, DatOK d := fun t d hd => by
  cases e : ofM rs h t with
  | none => rw [e] at hd; simp at hd
  | some s => rw [e] at hd; exact (ofM_ok hr e).2 d hd
 refine ⟨fun d hd => ?_, ?_⟩
 ·rcases List.mem_append.1 hd with hd | hd
  ·exact hg 1 d hd
  ·exact hg 28 d hd
 ·have h1 := qbO rs h 1
  have h2 := qbO rs h 28
  rw [List.length_append]; omega
theorem qdv : NmOK [] := ⟨by simp, fun x hx => by cases hx⟩
theorem qcr (k : Int) (b : Bool) : LkOK ⟨k, [], [], b, []⟩ := ⟨fun d h => (by cases h), Nat.zero_le _, qdv, fun g h => (by cases h), Nat.zero_le _⟩
theorem qkO {on rs : List Rc} {n : Nm} {ns : St} (ho : ∀ r ∈ on, RcOK r) (hol : on.length ≤ 524288) (hr : ∀ r ∈ rs, RcOK r) (hl : rs.length ≤ 524288) (hn : NmOK n) (h : ofM on n 2 = some ns) : LkOK (referM rs n ns) := by
 have hd := (ofM_ok ho h).2
 have hz := qcN h
 refine ⟨hd, by simp only [referM]; omega, hn, fun g hg => ?_, ?_⟩
 ·simp only [referM] at hg
  obtain ⟨x, hx, e⟩ := List.mem_filterMap.1 hg
  split at e
  ·cases e
  ·injection e with e
   subst e
   obtain ⟨k1, k2⟩ := qmm hr hl x
   exact ⟨qfl hd _ (qfg _ _ _ hx), k1, k2⟩
 ·simp only [referM]
  have h1 := List.length_filterMap_le (fun h => if glueM rs h = [] then none else some (h, glueM rs h)) (toldM (qaM ns.ty ns.data) [])
  have h2 := qcX (qaM ns.ty ns.data) []
  have h3 := qeR ns.ty ns.data
  omega
theorem qj8 {on : List Rc} {q n : Nm} {d : St} (ho : ∀ r ∈ on, RcOK r) (hol : on.length ≤ 524288) (hall : ∀ k, NmOK (q.take k ++ firstN d)) (h : ofM on n 39 = some d) : LkOK (qaK q n d) := by
 have hd := (ofM_ok ho h).2
 have hz := qcN h
 unfold qaK
 split
 ·rename_i e
  refine ⟨fun x hx => hd x (List.mem_of_mem_take hx), by simp only [List.length_take]; omega, ?_, fun g h => (by cases h), Nat.zero_le _⟩
  simp only
  unfold swapN
  split
  ·split
   ·exact hall _
   ·exact qdv
  ·exact qdv
 ·exact qcr _ _
theorem at_okL {l : List Rc} {n : Nm} (t : Int) (hr : ∀ r ∈ l, RcOK r) (hl : l.length ≤ 524288) (w : Bool) : LkOK { atM l n t with wild := w } := by
 unfold atM
 split
 ·rename_i s h
  have hz := qcN h
  exact ⟨(ofM_ok hr h).2, by simp only; omega, qdv, fun g h => (by cases h), Nat.zero_le _⟩
 ·split
  ·rename_i c h
   have hd := (ofM_ok hr h).2
   have hz := qcN h
   split
   ·rename_i hp
    obtain ⟨d', h1, h2⟩ := qbC hp
    exact ⟨fun x hx => hd x (List.mem_of_mem_take hx), by simp only [List.length_take]; omega, (hd d' h1).2.2.1 _ h2, fun g h => (by cases h), Nat.zero_le _⟩
   ·exact qcr _ _
  ·exact qcr _ _
theorem qfe {o : Nm} {rs : List Rc} {q : Nm} (t : Int) (hq : NmOK q) (hr : ∀ r ∈ rs, RcOK r) (hl : rs.length ≤ 524288) (hall : ∀ s d, ofM (onM rs q) (ancN q s) 39 = some d → pointD d = true → ∀ k, NmOK (q.take k ++ firstN d)) : LkOK (lookM o rs q t) := by
 have hon : ∀ r ∈ onM rs q, RcOK r := fun r h => hr r (List.mem_filter.1 h).1
 have hln : (onM rs q).length ≤ 524288 := by have := List.length_filter_le (fun r : Rc => underN q r.owner) rs; unfold onM; omega
 have han : ∀ s, NmOK (ancN q s) := fun s => ⟨by unfold ancN; rw [List.length_drop]; have := hq.1; omega, fun x hx => hq.2 x (List.mem_of_mem_drop hx)⟩
 unfold lookM
 split
 ·exact qcr _ _
 ·split
  ·rename_i r h
   obtain ⟨s, _, hs⟩ := List.exists_of_findSome?_eq_some h
   unfold stepM at hs
   split at hs
   ·rename_i ns hn
    injection hs with hs
    subst hs
    split at hn
    ·exact qkO hon hln hr hl (han s) hn
    ·cases hn
   ·split at hs
    ·rename_i d hd
     split at hs
     ·rename_i hp
      injection hs with hs
      subst hs
      split at hd
      ·exact qj8 hon hln (hall s d hd hp) hd
      ·cases hd
     ·cases hs
    ·cases hs
  ·split
   ·exact at_okL t hon hln (atM (onM rs q) q t).wild
   ·split
    ·exact at_okL t hr hl true
    ·exact qcr _ _
theorem qlp {q : Nm} {rs : List Rc} (hq : fewN q = true) (hr : ∀ r ∈ rs, ∀ n ∈ r.data.names, fewN n = true) : ∀ s d, ofM (onM rs q) (ancN q s) 39 = some d → pointD d = true → ∀ k, NmOK (q.take k ++ firstN d) := by
 intro s d h hp k
 have hP := ofM_P (P := fun d => ∀ n ∈ d.names, fewN n = true) (l := onM rs q) (fun r h1 => hr r (List.mem_filter.1 h1).1) h
 obtain ⟨d', h1, h2⟩ := qbC hp
 have h3 := of_decide_eq_true (hP d' h1 _ h2)
 have h4 := of_decide_eq_true hq
 refine ⟨?_, fun x hx => ?_⟩
 ·rw [List.length_append, List.length_take]; omega
 ·rcases List.mem_append.1 hx with hx | hx
  ·have := h4.2 x (List.mem_of_mem_take hx); omega
  ·have := h3.2 x hx; omega
theorem qfM {l : List Rc} (h : fewRs l = true) : ∀ r ∈ canonM l, ∀ n ∈ r.data.names, fewN n = true := by
 refine qfd (P := fun d => ∀ n ∈ d.names, fewN n = true) l fun r hr => ?_
 simp only [fewRs, Bool.and_eq_true, decide_eq_true_eq, List.all_eq_true] at h
 have h2 := h.2 r hr
 simp only [fewR, fewD, Bool.and_eq_true] at h2
 exact of_decide_eq_true h2.2.2.1
def OfD (w0 W : World) (base : Nat) (cs : List Value) (d : Dat) : Prop :=
 ∃ vn vu vt vr, ∃ ss : List SlV, cs = [.int .i64 d.ty, vn, vu, vt, vr] ∧ OwnG 23 slEnc W base vn ss ∧ ss.length = d.names.length ∧
  (∀ j (h1 : j < ss.length) (h2 : j < d.names.length), NmAt w0 (slEnc ss[j]) d.names[j]) ∧ SlAt w0 vu (d.nums.map u32V) ∧ NmAt w0 vt d.texts ∧ SlAt w0 vr (d.raw.map bv)
theorem OfD.datAt {w0 W : World} {base : Nat} {cs : List Value} {d : Dat} (h : OfD w0 W base cs d) (hb : Below w0.heap.size w0 W) : cs.length = 5 ∧ DatAt W (.agg cs.toArray) d := by
 obtain ⟨vn, vu, vt, vr, ss, rfl, h2, h3, h4, h5, h6, h7⟩ := h
 exact ⟨rfl, _, _, _, _, rfl, ⟨ss.map slEnc, SlAt.of_own h2, by rw [List.length_map]; exact h3, fun j hj => by rw [List.getElem_map]; exact (h4 j (by simpa using hj) (by rw [List.length_map] at hj; omega)).below hb⟩, h5.below hb, h6.below hb, h7.below hb⟩
theorem OfD.below {w0 W W' : World} {base : Nat} {cs : List Value} {d : Dat} (h : OfD w0 W base cs d) (hb : Below W.heap.size W W') : OfD w0 W' base cs d := by
 obtain ⟨vn, vu, vt, vr, ss, e, h2, h3⟩ := h
 exact ⟨vn, vu, vt, vr, ss, e, h2.below hb, h3⟩
theorem OfD.weaken {w0 W : World} {base b2 : Nat} {cs : List Value} {d : Dat} (h : OfD w0 W base cs d) (hb : b2 ≤ base) : OfD w0 W b2 cs d := by
 obtain ⟨vn, vu, vt, vr, ss, e, h2, h3⟩ := h
 exact ⟨vn, vu, vt, vr, ss, e, h2.weaken hb, h3⟩
theorem OfD.grown {w0 W W' : World} {base base' k : Nat} {T : TypeId} {cs : List Value} {d : Dat} {v' : Value} {yss : List (List Value)} (h : OfD w0 W base cs d) (h' : OwnC k T W base' v' yss) (hT : 23 ≠ T) (hg : W.grownBy W' v'.ownBlock) : OfD w0 W' base cs d := by
 obtain ⟨vn, vu, vt, vr, ss, e, h2, h3⟩ := h
 exact ⟨vn, vu, vt, vr, ss, e, h2.kept_c h' hT hg, h3⟩
def OfDs (w0 W : World) (base : Nat) (csd : List (List Value)) (l : List Dat) : Prop := csd.length = l.length ∧ ∀ j (h1 : j < csd.length) (h2 : j < l.length), OfD w0 W base csd[j] l[j]
theorem OfDs.below {w0 W W' : World} {base : Nat} {csd : List (List Value)} {l : List Dat} (h : OfDs w0 W base csd l) (hb : Below W.heap.size W W') : OfDs w0 W' base csd l := ⟨h.1, fun j a b => (h.2 j a b).below hb⟩
theorem OfDs.dts {w0 W : World} {base : Nat} {csd : List (List Value)} {l : List Dat} (h : OfDs w0 W base csd l) (hb : Below w0.heap.size w0 W) : Dts W csd l := ⟨h.1, fun j a b => (h.2 j a b).datAt hb⟩
theorem qa3 : ElemK 5 107 39 104 := ⟨Tryz.underlying39, _, _, rfl, rfl, rfl, rfl, rfl⟩
theorem OfDs.snoc {w0 W W' : World} {base : Nat} {v : Value} {csd : List (List Value)} {l : List Dat} {cs : List Value} {d : Dat} (h : OfDs w0 W base csd l) (ho : OwnC 5 107 W base v csd) (hc : OfD w0 W base cs d) (hg : W.grownBy W' v.ownBlock) : OfDs w0 W' base (csd ++ [cs]) (l ++ [d]) := by
 refine ⟨by simp [h.1], fun j a b => ?_⟩
 by_cases hj : j < csd.length
 ·rw [List.getElem_append_left hj, List.getElem_append_left (by have := h.1; omega)]
  exact (h.2 j hj (by have := h.1; omega)).grown ho (by decide) hg
 ·obtain rfl : j = csd.length := by simp at a; omega
  have e1 : (csd ++ [cs])[csd.length]'a = cs := by simp
  have e2 : (l ++ [d])[csd.length]'b = d := by simp [h.1]
  rw [e1, e2]
  exact hc.grown ho (by decide) hg
def DtsArg (W : World) (css : List (List Value)) (l : List Dat) : Prop := css.length = l.length ∧ ∀ i (h1 : i < css.length) (h2 : i < l.length), css[i].length = 5 ∧ DatArg W (.agg css[i].toArray) l[i]
theorem DtsArg.dts {W : World} {css : List (List Value)} {l : List Dat} (h : DtsArg W css l) : Dts W css l := ⟨h.1, fun i a b => ⟨(h.2 i a b).1, (h.2 i a b).2.1⟩⟩
theorem OfPostS.cells {w0 w w' : World} {v : Value} {d : Dat} {e : Ending} (h : OfPostS w0 v d w e w') : ∃ cs, e = .returned (.agg cs.toArray) ∧ OfD w0 w' w.heap.size cs d ∧ Below w.heap.size w w' := by
 obtain ⟨vn, vn', vu, vt, vr, ss, rfl, rfl, h1, h2, h3, h4, h5, h6, h7⟩ := h
 exact ⟨[.int .i64 d.ty, vn', vu, vt, vr], rfl, ⟨vn', vu, vt, vr, ss, rfl, h1, h2, h3, h4, h5, h6⟩, h7⟩
theorem OfD.shape {w0 W : World} {base : Nat} {cs : List Value} {d : Dat} (h : OfD w0 W base cs d) : ∃ x3 x4 x5 x6 : Option Addr × Nat × Nat, cs = [.int .i64 d.ty, .slice x3.1 x3.2.1 x3.2.2, .slice x4.1 x4.2.1 x4.2.2, .slice x5.1 x5.2.1 x5.2.2, .slice x6.1 x6.2.1 x6.2.2] := by
 obtain ⟨vn, vu, vt, vr, ss, rfl, h2, h3, h4, h5, h6, h7⟩ := h
 obtain ⟨a3, c3, rfl⟩ := h2.shape
 obtain ⟨a4, c4, rfl, _⟩ := h5
 obtain ⟨a5, c5, rfl, _⟩ := nmAt_sl.1 h6
 obtain ⟨a6, c6, rfl, _⟩ := h7
 exact ⟨(a3, _, c3), (a4, _, c4), (a5, _, c5), (a6, _, c6), rfl⟩
theorem qee : ElemK 4 41 32 64 := ⟨Tryz.underlying32, _, _, rfl, rfl, rfl, rfl, rfl⟩
theorem qex (c : List Rc) (x : Rc) : qan (c ++ [x]) = stepS (qan c) x := by
 unfold qan
 rw [List.foldl_append]; rfl
theorem qiA (c : List Rc) : ∀ s ∈ qan c, ∃ r ∈ c, s.owner = r.owner :=
 qaW (P := fun c => ∀ s ∈ qan c, ∃ r ∈ c, s.owner = r.owner) (fun s h => by simp [qan] at h) (fun c x ih s h => by
  rw [qex] at h
  rcases List.eq_nil_or_concat (qan c) with e | ⟨pre, t, e⟩
  ·rw [e] at h
   simp only [stepS, List.getLast?_nil, List.nil_append, List.mem_singleton] at h
   exact ⟨x, by simp, by rw [h]; rfl⟩
  ·rw [e, List.concat_eq_append, qbX] at h
   have ht : ∃ r ∈ c ++ [x], t.owner = r.owner := by
    obtain ⟨r, h1, h2⟩ := ih t (by rw [e]; simp)
    exact ⟨r, by simp [h1], h2⟩
   have hp : ∀ s ∈ pre, ∃ r ∈ c ++ [x], s.owner = r.owner := fun s hs => by
    obtain ⟨r, h1, h2⟩ := ih s (by rw [e]; simp [hs])
    exact ⟨r, by simp [h1], h2⟩
   split at h
   ·rcases List.mem_append.1 h with h | h
    ·exact hp s h
    ·rw [List.mem_singleton] at h; rw [h]; exact ht
   ·rcases List.mem_append.1 h with h | h
    ·rcases List.mem_append.1 h with h | h
     ·exact hp s h
     ·rw [List.mem_singleton] at h; rw [h]; exact ht
    ·rw [List.mem_singleton] at h
     exact ⟨x, by simp, by rw [h]; rfl⟩) c
theorem OwnC.putK {K : Nat} {T : TypeId} {W : World} {base g n c : Nat} {css : List (List Value)} (h : OwnC K T W base (.slice (some ⟨g, 0, none⟩) n c) css) (hk : ∀ cs ∈ css, cs.length = K) (k : Nat) (hlt : k < css.length) (t : Nat) (ht : t < K) (u : Value) :
 OwnC K T (W.setCell ⟨g, k * K + t, none⟩ u) base (.slice (some ⟨g, 0, none⟩) n c) (css.set k (css[k].set t u)) := by
 obtain ⟨hl, h⟩ := h
 rcases h with ⟨e, _⟩ | ⟨g', cap, cur, e, hb, hg, hc, hm, hsz, htk⟩
 ·cases e
 ·cases e
  have hfl : ((css.set k (css[k].set t u)).flatMap fun cs => cs) = (css.flatMap fun cs => cs).set (k * K + t) u := by
   rw [qbQ, qbQ, qde K t u ht css hk k hlt]
  refine ⟨by rw [hfl, List.length_set, List.length_set]; exact hl, .inr ⟨g, c, cur.setIfInBounds (k * K + t) u, by rw [List.length_set], hb, kset hg _ u, by rw [List.length_set]; exact hc, hm, by simpa using hsz, ?_⟩⟩
  rw [hfl, List.length_set, ← htk, Array.toList_setIfInBounds]
  rw [List.take_set]
theorem OwnC.someK {K : Nat} {T : TypeId} {W : World} {base n c : Nat} {ga : Option Addr} {css : List (List Value)} (h : OwnC K T W base (.slice ga n c) css) (h0 : 0 < css.length) : ∃ g cur, ga = some ⟨g, 0, none⟩ ∧ base ≤ g ∧ W.heap[g]? = some (.cells cur T) ∧ n ≤ c := by
 obtain ⟨hl, h⟩ := h
 rcases h with ⟨e, e2⟩ | ⟨g', cap, cur, e, hb, hg, hc, hm, hsz, htk⟩
 ·cases e; omega
 ·cases e; exact ⟨g', cur, rfl, hb, hg, hc⟩
theorem qgj {K : Nat} {T : TypeId} (W : World) {cs : List Value} (hl : cs.length = K) : OwnC K T (W.alloc (.cells cs.toArray T)) W.heap.size (.slice (some ⟨W.heap.size, 0, none⟩) 1 1) [cs] :=
 ⟨by simp [hl], .inr ⟨W.heap.size, 1, cs.toArray, rfl, qN0, heap_alloc_new W _, qN0, by unfold maxLen; omega, by simp [hl], by subst hl; simp⟩⟩
theorem Dts.snoc {W : World} {ds : List (List Value)} {l : List Dat} {cs : List Value} {d : Dat} (h : Dts W ds l) (hl : cs.length = 5) (hd : DatAt W (.agg cs.toArray) d) : Dts W (ds ++ [cs]) (l ++ [d]) := by
 refine ⟨by simp [h.1], fun j a b => ?_⟩
 by_cases hj : j < ds.length
 ·rw [List.getElem_append_left hj, List.getElem_append_left (by have := h.1; omega)]
  exact h.2 j hj (by have := h.1; omega)
 ·obtain rfl : j = ds.length := by simp at a; omega
  have e1 : (ds ++ [cs])[ds.length]'a = cs := by simp
  have e2 : (l ++ [d])[ds.length]'b = d := by simp [h.1]
  rw [e1, e2]
  exact ⟨hl, hd⟩
theorem Dts.nil (W : World) : Dts W [] [] := ⟨rfl, fun j h => absurd h (by simp)⟩
def RSet (w0 W : World) (base : Nat) (cs : List Value) (s : St) : Prop := ∃ (x0 x3 : Option Addr × Nat × Nat) (ds : List (List Value)), cs = [slW x0, .int .i64 s.ty, .int .u32 (s.ttl : Int), slW x3] ∧ NmAt w0 (slW x0) s.owner ∧ OwnC 5 107 W base (slW x3) ds ∧ Dts w0 ds s.data
theorem RSet.below {w0 W W' : World} {base : Nat} {cs : List Value} {s : St} (h : RSet w0 W base cs s) (hb : Below W.heap.size W W') : RSet w0 W' base cs s := by
 obtain ⟨x0, x3, ds, e, h1, h2, h3⟩ := h
 exact ⟨x0, x3, ds, e, h1, OwnK.below h2 hb, h3⟩
theorem RSet.grown {w0 W W' : World} {base base' : Nat} {cs : List Value} {s : St} {v' : Value} {yss : List (List Value)} (h : RSet w0 W base cs s) (h' : OwnC 4 41 W base' v' yss) (hg : W.grownBy W' v'.ownBlock) : RSet w0 W' base cs s := by
 obtain ⟨x0, x3, ds, e, h1, h2, h3⟩ := h
 exact ⟨x0, x3, ds, e, h1, OwnK.kept_cc h2 h' (by decide) hg, h3⟩
theorem RSet.put {w0 W : World} {base : Nat} {cs : List Value} {s : St} (h : RSet w0 W base cs s) {B : Nat} {xs : Array Value} (hB : W.heap[B]? = some (.cells xs 41)) (j : Nat) (u : Value) : RSet w0 (W.setCell ⟨B, j, none⟩ u) base cs s := by
 obtain ⟨x0, x3, ds, e, h1, h2, h3⟩ := h
 exact ⟨x0, x3, ds, e, h1, OwnK.keptB h2 hB (by decide) j u, h3⟩
def RSets (w0 W : World) (base : Nat) (css : List (List Value)) (l : List St) : Prop := css.length = l.length ∧ ∀ j (h1 : j < css.length) (h2 : j < l.length), RSet w0 W base css[j] l[j]
theorem RSets.nil (w0 W : World) (base : Nat) : RSets w0 W base [] [] := ⟨rfl, fun j h => absurd h (by simp)⟩
theorem RSets.below {w0 W W' : World} {base : Nat} {css : List (List Value)} {l : List St} (h : RSets w0 W base css l) (hb : Below W.heap.size W W') : RSets w0 W' base css l := ⟨h.1, fun j a b => (h.2 j a b).below hb⟩
theorem RSets.grown {w0 W W' : World} {base base' : Nat} {css : List (List Value)} {l : List St} {v' : Value} {yss : List (List Value)} (h : RSets w0 W base css l) (h' : OwnC 4 41 W base' v' yss) (hg : W.grownBy W' v'.ownBlock) : RSets w0 W' base css l := ⟨h.1, fun j a b => (h.2 j a b).grown h' hg⟩
theorem RSets.put {w0 W : World} {base : Nat} {css : List (List Value)} {l : List St} (h : RSets w0 W base css l) {B : Nat} {xs : Array Value} (hB : W.heap[B]? = some (.cells xs 41)) (j : Nat) (u : Value) : RSets w0 (W.setCell ⟨B, j, none⟩ u) base css l := ⟨h.1, fun i a b => (h.2 i a b).put hB j u⟩
theorem RSets.len4 {w0 W : World} {base : Nat} {css : List (List Value)} {l : List St} (h : RSets w0 W base css l) : ∀ cs ∈ css, cs.length = 4 := fun cs hc => by
 obtain ⟨i, hi, rfl⟩ := List.mem_iff_getElem.1 hc
 obtain ⟨_, _, _, e, _⟩ := h.2 i hi (by have := h.1; omega)
 rw [e]; rfl
theorem RSets.snoc {w0 W : World} {base : Nat} {css : List (List Value)} {l : List St} {cs : List Value} {s : St} (h : RSets w0 W base css l) (hs : RSet w0 W base cs s) : RSets w0 W base (css ++ [cs]) (l ++ [s]) := by
 refine ⟨by simp [h.1], fun j a b => ?_⟩
 by_cases hj : j < css.length
 ·rw [List.getElem_append_left hj, List.getElem_append_left (by have := h.1; omega)]
  exact h.2 j hj (by have := h.1; omega)
 ·obtain rfl : j = css.length := by simp at a; omega
  have e1 : (css ++ [cs])[css.length]'a = cs := by simp
  have e2 : (l ++ [s])[css.length]'b = s := by simp [h.1]
  rw [e1, e2]; exact hs
theorem RSets.set {w0 W : World} {base : Nat} {css : List (List Value)} {l : List St} (h : RSets w0 W base css l) (k : Nat) {cs : List Value} {s : St} (hs : RSet w0 W base cs s) : RSets w0 W base (css.set k cs) (l.set k s) := by
 refine ⟨by simp [h.1], fun j a b => ?_⟩
 rw [List.length_set] at a b
 rw [List.getElem_set, List.getElem_set]
 by_cases hj : k = j
 ·rw [if_pos hj, if_pos hj]; exact hs
 ·rw [if_neg hj, if_neg hj]; exact h.2 j a b
theorem qgw {α : Type} (pre : List α) (s t : α) : (pre ++ [s]).set pre.length t = pre ++ [t] := by
 rw [List.set_append_right _ _ (qN0)]; simp
theorem one4 {a b c d : Value} (ha : a.oneCell' = true) (hb : b.oneCell' = true) (hc : c.oneCell' = true) (hd : d.oneCell' = true) : ∀ cs ∈ [[a, b, c, d]], ∀ u ∈ cs, u.oneCell' = true := by
 intro cs hcs u hu
 rw [List.mem_singleton] at hcs; subst hcs
 simp only [List.mem_cons, List.not_mem_nil, or_false] at hu
 rcases hu with rfl | rfl | rfl | rfl <;> assumption
theorem one5 {a b c d e : Value} (ha : a.oneCell' = true) (hb : b.oneCell' = true) (hc : c.oneCell' = true) (hd : d.oneCell' = true) (he : e.oneCell' = true) : ∀ cs ∈ [[a, b, c, d, e]], ∀ u ∈ cs, u.oneCell' = true := by
 intro cs hcs u hu
 rw [List.mem_singleton] at hcs; subst hcs
 simp only [List.mem_cons, List.not_mem_nil, or_false] at hu
 rcases hu with rfl | rfl | rfl | rfl | rfl <;> assumption
theorem lenS (a b c d : Value) : ∀ cs ∈ [[a, b, c, d]], cs.length = 4 := by
 intro cs hcs; rw [List.mem_singleton] at hcs; subst hcs; rfl
theorem lenD (a b c d e : Value) : ∀ cs ∈ [[a, b, c, d, e]], cs.length = 5 := by
 intro cs hcs; rw [List.mem_singleton] at hcs; subst hcs; rfl
theorem qdq {W : World} {ds : List (List Value)} {l : List Dat} (h : Dts W ds l) : ∀ cs ∈ ds, ∀ u ∈ cs, u.oneCell' = true := by
 intro cs hc u hu
 obtain ⟨i, hi, rfl⟩ := List.mem_iff_getElem.1 hc
 obtain ⟨x3, x4, x5, x6, e⟩ := qbv (h.2 i hi (by have := h.1; omega)).2
 rw [e] at hu
 simp only [List.mem_cons, List.not_mem_nil, or_false] at hu
 rcases hu with rfl | rfl | rfl | rfl | rfl <;> rfl
theorem qbS {W : World} {ds : List (List Value)} {l : List Dat} (h : Dts W ds l) : ∀ cs ∈ ds, cs.length = 5 := by
 intro cs hc
 obtain ⟨i, hi, rfl⟩ := List.mem_iff_getElem.1 hc
 exact (h.2 i hi (by have := h.1; omega)).1
end Go.Proofs.YtckammgnmgkieaaGreat
