import Derived.Deep.RegionHeld3
import Derived.Test.YtckammgnmgkieaaGreatMQ04
import Derived.Test.YtckammgnmgkieaaGreatMQ08
import Derived.Test.YtckammgnmgkieaaGreatMQ05
namespace Go.Proofs.YtckammgnmgkieaaGreat
set_option linter.unusedVariables false
set_option linter.unusedSimpArgs false
set_option maxRecDepth 100000
set_option maxHeartbeats 16000000
open Go.RowKit Go.Shelf
theorem qK5 {W : World} {B : Nat} {a b c d e : Value} {T : TypeId} (h : W.heap[B]? = some (.cells #[a, b, c, d, e] T)) : W.cell? ⟨B, 0, none⟩ = some a ∧ W.cell? ⟨B, 1, none⟩ = some b ∧ W.cell? ⟨B, 2, none⟩ = some c ∧ W.cell? ⟨B, 3, none⟩ = some d ∧ W.cell? ⟨B, 4, none⟩ = some e ∧ W.frozen? ⟨B, 0, none⟩ = false ∧ W.frozen? ⟨B, 1, none⟩ = false ∧ W.frozen? ⟨B, 2, none⟩ = false ∧ W.frozen? ⟨B, 3, none⟩ = false ∧ W.frozen? ⟨B, 4, none⟩ = false :=
 ⟨kcell h 0 _ rfl, kcell h 1 _ rfl, kcell h 2 _ rfl, kcell h 3 _ rfl, kcell h 4 _ rfl, qab h 0, qab h 1, qab h 2, qab h 3, qab h 4⟩
theorem qcE {n : Nm} (h : goodN n = true) : fewN n = true := by
 unfold goodN at h; simp only [Bool.and_eq_true] at h; exact h.1
theorem qlj {n : Nm} (h : fewN n = true) : n.length ≤ 140 := by
 unfold fewN at h; simp only [decide_eq_true_eq] at h; exact h.1
theorem qbV {fn : Func} {t u : Tmp} (h : fn.results = #[.cell t 41, .tmp u]) (tmps : Array Value) (W : World) {a : Nat} {x0 x1 x2 x3 v : Value}
 (ht : tmps.getD t undef = .pointer (some ⟨a, 0, none⟩)) (hu : tmps.getD u undef = v) (hb : W.heap[a]? = some (.cells #[x0, x1, x2, x3] 41)) :
 (results fn tmps).run Tryz.prog W = .ok (.tuple #[.agg #[x0, x1, x2, x3], v]) W := by
 have ht' : tmps[t]?.getD undef = .pointer (some ⟨a, 0, none⟩) := by rw [← ht]; simp
 have hv' : tmps[u]?.getD undef = v := by rw [← hu]; simp
 have hA : ∀ w, Sem.run Tryz.prog (underlying 41) w = .ok _ w := run_underlying Tryz.underlying41
 have c0 := kcell hb 0 _ rfl; have c1 := kcell hb 1 _ rfl; have c2 := kcell hb 2 _ rfl; have c3 := kcell hb 3 _ rfl
 simp [results, h, ht', hv', loadVar, asAddr, go_sem, hA, c0, c1, c2, c3, isAgg]
def put4s (W : World) (B : Nat) (v0 v1 v2 v3 : Value) : World := (((W.setCell ⟨B, 0, none⟩ v0).setCell ⟨B, 1, none⟩ v1).setCell ⟨B, 2, none⟩ v2).setCell ⟨B, 3, none⟩ v3
theorem qc5 {W : World} {B : Nat} {z0 z1 z2 z3 : Value} {T : TypeId} (h : W.heap[B]? = some (.cells #[z0, z1, z2, z3] T)) (v0 v1 v2 v3 : Value) : (put4s W B v0 v1 v2 v3).heap[B]? = some (.cells #[v0, v1, v2, v3] T) := by
 have q0 := kset h 0 v0
 have q1 := kset q0 1 v1
 have q2 := kset q1 2 v2
 exact kset q2 3 v3
theorem qiE (W : World) (B : Nat) (v0 v1 v2 v3 : Value) : W.grownBy (put4s W B v0 v1 v2 v3) (some B) :=
 qbe (qbe (qbe (qah W B 0 v0) (qah _ B 1 v1)) (qah _ B 2 v2)) (qah _ B 3 v3)
theorem qgs {n : Nat} (W : World) {B : Nat} (hB : B < n) (v0 v1 v2 v3 : Value) : FarKeep n W (put4s W B v0 v1 v2 v3) := fun i h1 h2 => (qiE W B v0 v1 v2 v3).block i h2 (fun e => by injection e; omega)
theorem qck {n : Nat} {w W : World} (h : Below n w W) {B : Nat} (hB : n ≤ B) (v0 v1 v2 v3 : Value) : Below n w (put4s W B v0 v1 v2 v3) :=
 (((h.setCell (p := ⟨B, 0, none⟩) hB _).setCell (p := ⟨B, 1, none⟩) hB _).setCell (p := ⟨B, 2, none⟩) hB _).setCell (p := ⟨B, 3, none⟩) hB _
theorem qkN (w W : World) : RSetP w W [.slice none 0 0, .int .i64 0, .int .u32 0, .slice none 0 0] ⟨[], 0, 0, []⟩ :=
 ⟨(none, 0, 0), (none, 0, 0), [], rfl, nm_nil w, SlK.nil W, Dts.nil w⟩
theorem qfB {α : Type} {p : α → Bool} {l : List α} {k : Nat} (h : k < l.length) (hn : ∀ j (hj : j < l.length), j < k → p l[j] = false) : l.find? p = if p l[k] = true then some l[k] else (l.drop (k + 1)).find? p := by
 have e : l = l.take k ++ l[k] :: l.drop (k + 1) := by rw [← List.drop_eq_getElem_cons h, List.take_append_drop]
 have e1 : (l.take k).find? p = none := by
  rw [List.find?_eq_none]
  intro x hx
  obtain ⟨j, hj, rfl⟩ := List.mem_iff_getElem.1 hx
  rw [List.length_take] at hj
  rw [List.getElem_take, hn j (by omega) (by omega)]; simp
 conv => lhs; rw [e, List.find?_append, e1, Option.none_or, List.find?_cons]
 cases p l[k] <;> simp
def qm3 (w0 w : World) (s : Option St) (e : Ending) (w' : World) : Prop := ∃ cs, e = .returned (.tuple #[.agg cs.toArray, .bool s.isSome]) ∧ RSetP w0 w' cs (s.getD ⟨[], 0, 0, []⟩) ∧ Below w.heap.size w w'
theorem qes : ∀ (n : Nat) (c : List Rc), c.length ≤ n → (setsM c).length ≤ c.length
 | 0, c, h => by
  obtain rfl : c = [] := List.eq_nil_of_length_eq_zero (by omega)
  rw [qcs]; exact qN0
 | n + 1, [], h => by rw [qcs]; exact qN0
 | n + 1, y :: r, h => by
  have hl : (r.dropWhile (belR y)).length ≤ r.length := (List.dropWhile_sublist _).length_le
  rw [qa0, List.length_cons, List.length_cons]
  have := qes n (r.dropWhile (belR y)) (by simp at h; omega)
  omega
theorem ref_Of (v vo : Value) (o : Nm) (t : Int) (cs0 : List (List Value)) (l : List Rc) (w0 w : World) (hA : SlK w v cs0) (hR : Rcs w0 cs0 l) (hb0 : Below w0.heap.size w0 w) (hO : NmAt w vo o) (hko : NmOK o) (hOK : ∀ r ∈ l, RcOK r) (hl : cs0.length ≤ 1000000) :
 Calls Tryz.prog 22 #[v, vo, .int .i64 t] w (qm3 w0 w (ofM l o t)) := by
 have hc := fun (W : World) (hb : Below w.heap.size w W) => qig w0 W v cs0 l (hA.below hb) hR (qB0 hb0 hb) hOK hl
 have hoks : ∀ s ∈ setsM (canonM l), NmOK s.owner := fun s h => (qfY hOK h).1
 have hfd := qh4 l o t
 have hsl : (setsM (canonM l)).length ≤ 1000000 := by
  have h1 := qes _ (canonM l) (qN0)
  have h2 := qaL l
  have h3 : l.length ≤ 1000000 := by rw [← hR.1]; exact hl
  omega
 obtain ⟨S, hS⟩ : ∃ S, setsM (canonM l) = S := ⟨_, rfl⟩
 rw [hS] at hoks hfd hsl
 have hc2 := hc
 simp only [hS] at hc2
 obtain ⟨res, hres⟩ : ∃ r, ofM l o t = r := ⟨_, rfl⟩
 rw [hres] at hfd ⊢
 have HB00 := qH0 hb0; have HFD := qH0 hfd; have HOKS := qH0 hoks; have HNO := qH0 hO; have HKO := qH0 hko
 have HSL := qH0 hsl; have HCC := qH0 hc2
 obtain ⟨a, c, rfl, -⟩ := id hA
 obtain ⟨ao, co, rfl, -⟩ := nmAt_sl.1 hO
 obtain ⟨qo, hqo⟩ : ∃ k, (List.map strV o).length = k := ⟨_, rfl⟩
 rw [hqo] at HNO ⊢
 obtain ⟨n0, hn0⟩ : ∃ k, cs0.length = k := ⟨_, rfl⟩
 rw [hn0] at HCC ⊢
 clear hA hR hb0 hO hko hOK hl hc hc2 hoks hfd hsl hS hres hqo hn0
 have hA0 := (Below.refl w.heap.size w).alloc (qN0) (.cells #[.slice none 0 0, .int .i64 0, .int .u32 0, .slice none 0 0] 41)
 have hX := knew w (.cells #[.slice none 0 0, .int .i64 0, .int .u32 0, .slice none 0 0] 41)
 have HX := qH0 hX; have HA0 := qH0 hA0
 have hc := HCC.out _ hA0
 clear hA0 hX HCC
 go_enter Tryz.func22, Tryz.ntmps22
 go_wp2_with fail
 refine hc.mono ?_
 rintro e w1 ⟨v1, css, rfl, hcl, hrs, hb1⟩
 have HB1 := qH0 (qB0 HA0.out hb1)
 have HX1 := qH0 ((hb1.block _ (qaa HX.out)).trans HX.out)
 obtain ⟨hs1, he1⟩ := hrs w1 (FarKeep.refl _ _)
 have HRS := qH0 (fun (W' : World) (hf : FarKeep (w.heap.size + 1) w1 W') => (hrs W' (by rw [World.size_alloc]; exact hf)).2)
 obtain ⟨sa, sc, rfl, -⟩ := id hs1
 obtain ⟨n, hn⟩ : ∃ n, css.length = n := ⟨_, rfl⟩
 have HE1 := qH0 he1
 rw [hn] at hs1 ⊢
 have hcl2 : S.length = n := by rw [← hn]; exact hcl.symm
 have HR1 := qH0 hs1; have HN := qH0 hn; have HNS := qH0 hcl2
 have HL4 := qH0 (show ∀ cs ∈ css, cs.length = 4 from fun cs hc => by
  obtain ⟨i, hi, rfl⟩ := List.mem_iff_getElem.1 hc
  obtain ⟨x0, x3, ds, e, _⟩ := he1 i hi (by omega)
  rw [e]; rfl)
 have hnx : n ≤ 1000000 := by have := HSL.out; omega
 clear hc hrs hb1 hs1 he1 HA0 HX hn hcl hcl2
 go_wp2
 go_loopw [9] (fun vi wr => ∃ k : Nat, vi = .int .i64 k ∧ k ≤ n ∧ Hid (∀ j (hj : j < S.length), j < k → (decide (S[j].ty = t) && sameN S[j].owner o) = false) ∧ Hid (Below w1.heap.size w1 wr)) (fun vi _ => n - (intOf vi).toNat)
 case atStart => exact ⟨0, rfl, Nat.zero_le _, qH0 (fun j hj h => absurd h (Nat.not_lt_zero _)), qH0 (qL0)⟩
 case round =>
  obtain ⟨k, rfl, hk, HNO2, HB⟩ := hrel
  have HBW := qH0 (qB0 HB1.out HB.out)
  by_cases hlt : k < n
  ·have hltz : (k : Int) < (n : Int) := by omega
   have hk0 : k < css.length := by have := HN.out; omega
   have hk1 : k < S.length := by have := HNS.out; omega
   obtain ⟨b, off, rfl, hb, hel⟩ := HR1.out.elem4 HL4.out (by omega)
   obtain ⟨⟨p0, q0, r0⟩, ⟨p3, q3, r3⟩, ds, e0, hn1, -⟩ := HE1.out k hk0 hk1
   unfold slW at e0 hn1
   simp only at e0 hn1
   have hce := fun W hb => hel k hk0 _ _ _ _ e0 W hb
   have hks := HOKS.out _ (List.getElem_mem hk1)
   have hst := qfB (p := fun s : St => decide (s.ty = t) && sameN s.owner o) hk1 HNO2.out
   rw [← HFD.out] at hst
   have HRF := qH0 (fun (W' : World) (hf : FarKeep (w.heap.size + 1) w1 W') => (show RSetP w0 W' [.slice p0 q0 r0, .int .i64 (S[k]'hk1).ty, .int .u32 ((S[k]'hk1).ttl : Int), .slice p3 q3 r3] (S[k]'hk1) by
    have h := HRS.out W' hf k hk0 hk1
    rw [e0] at h; exact h))
   have HSK := qH0 (show ∀ (h : k < S.length) , (S[k]'h) = (S[k]'hk1) from fun _ => rfl)
   obtain ⟨s, hs⟩ : ∃ s, S[k]'hk1 = s := ⟨_, rfl⟩
   rw [hs] at hce hks hst hn1 HRF HSK
   obtain ⟨d0, d1, d2, d3⟩ := hce wr HB.out
   have HCE := qH0 hce
   have HST := qH0 hst
   have hcs := qbq (.slice p0 q0 r0) (.slice ao qo co) s.owner o _ rfl wr (hn1.below (qB0 HB00.out HBW.out)) (HNO.out.below HBW.out) hks HKO.out
   obtain ⟨t1, ht1⟩ : ∃ b, sameN s.owner o = b := ⟨_, rfl⟩
   rw [ht1] at hcs
   have HT1 := qH0 ht1
   clear hce hst hs hn1 ht1 hks hk1 hk0 e0 hel hb
   by_cases hty : s.ty = t
   ·have htyb : (s.ty == t) = true := by simpa using hty
    have HTY := qH0 hty
    clear hty
    go_wp2_with fail
    refine hcs.mono ?_
    rintro e w2 ⟨rfl, hb2⟩
    have HB2 := qH0 (qB0 HB.out hb2)
    obtain ⟨c0, c1, c2, c3⟩ := HCE.out w2 HB2.out
    clear hcs hb2 d0 d1 d2 d3 htyb
    cases t1
    ·have HNX : Hid (∀ j (hj : j < S.length), j < k + 1 → (decide (S[j].ty = t) && sameN S[j].owner o) = false) := qH0 (fun j hj h => by
      by_cases e : j < k
      ·exact HNO2.out j hj e
      ·obtain rfl : j = k := by omega
       rw [HSK.out, HT1.out, Bool.and_false])
     clear c0 c1 c2 c3
     go_wp2
     go_roundw
     case measure => simp [intOf]; omega
     case rel => exact ⟨k + 1, by go_num, by omega, HNX, HB2⟩
    ·have HRE : Hid (res = some s) := qH0 (by rw [HST.out, if_pos (by rw [HT1.out, decide_eq_true HTY.out]; rfl)])
     have hx2 := (HB2.out.block _ (qaa HX1.out)).trans HX1.out
     have s0 := kcell hx2 0 _ rfl; have s1 := kcell hx2 1 _ rfl; have s2 := kcell hx2 2 _ rfl; have s3 := kcell hx2 3 _ rfl
     have u0 := qab hx2 0; have u1 := qab hx2 1; have u2 := qab hx2 2; have u3 := qab hx2 3
     have HX2 := qH0 hx2
     clear hx2
     go_wp2
     refine bodyPost_ret (qbV rfl _ (put4s w2 w.heap.size (.slice p0 q0 r0) (.int .i64 s.ty) (.int .u32 (s.ttl : Int)) (.slice p3 q3 r3)) rfl rfl (qc5 HX2.out _ _ _ _)) rfl ?_
     have hf := qgs (n := w.heap.size + 1) w2 (Nat.lt_succ_self _) (.slice p0 q0 r0) (.int .i64 s.ty) (.int .u32 (s.ttl : Int)) (.slice p3 q3 r3)
     have hbw := qck (qB0 HB1.out HB2.out) (Nat.le_refl w.heap.size) (.slice p0 q0 r0) (.int .i64 s.ty) (.int .u32 (s.ttl : Int)) (.slice p3 q3 r3)
     exact ⟨[.slice p0 q0 r0, .int .i64 s.ty, .int .u32 (s.ttl : Int), .slice p3 q3 r3], by rw [HRE.out]; rfl, by rw [HRE.out]; exact HRF.out _ ((FarKeep.of_below HB2.out).trans HB2.out.size hf), hbw⟩
   ·have htyb : (s.ty == t) = false := by simpa using hty
    have HNX : Hid (∀ j (hj : j < S.length), j < k + 1 → (decide (S[j].ty = t) && sameN S[j].owner o) = false) := qH0 (fun j hj h => by
     by_cases e : j < k
     ·exact HNO2.out j hj e
     ·obtain rfl : j = k := by omega
      rw [HSK.out, decide_eq_false hty, Bool.false_and])
    clear hcs hty
    go_wp2
    go_roundw
    case measure => simp [intOf]; omega
    case rel => exact ⟨k + 1, by go_num, by omega, HNX, HB⟩
  ·obtain rfl : k = n := by omega
   have HRE : Hid (res = none) := qH0 (by
    rw [HFD.out, List.find?_eq_none]
    intro x hx
    obtain ⟨j, hj, rfl⟩ := List.mem_iff_getElem.1 hx
    rw [HNO2.out j hj (by have := HNS.out; omega)]; simp)
   have hx2 := (HB.out.block _ (qaa HX1.out)).trans HX1.out
   have s0 := kcell hx2 0 _ rfl; have s1 := kcell hx2 1 _ rfl; have s2 := kcell hx2 2 _ rfl; have s3 := kcell hx2 3 _ rfl
   have u0 := qab hx2 0; have u1 := qab hx2 1; have u2 := qab hx2 2; have u3 := qab hx2 3
   have HX2 := qH0 hx2
   clear hx2
   go_wp2
   refine bodyPost_ret (qbV rfl _ (put4s wr w.heap.size (.slice none 0 0) (.int .i64 0) (.int .u32 0) (.slice none 0 0)) rfl rfl (qc5 HX2.out _ _ _ _)) rfl ?_
   exact ⟨[.slice none 0 0, .int .i64 0, .int .u32 0, .slice none 0 0], by rw [HRE.out]; rfl, by rw [HRE.out]; exact qkN _ _, qck HBW.out (Nat.le_refl w.heap.size) _ _ _ _⟩
def dataM (rs : List Rc) (n : Nm) (t : Int) : List Dat := ((ofM rs n t).getD ⟨[], 0, 0, []⟩).data
def qji (w0 w : World) (ds : List Dat) (e : Ending) (w' : World) : Prop := ∃ v css, e = .returned v ∧ SlK w' v css ∧ Dts w0 css ds ∧ Below w.heap.size w w'
theorem qlt {w0 w : World} {za v1 : Option Addr} {zn zc m c : Nat} {o n : Nm} {rs : List Rc} {vn : Value} (t : Int) (h : ZonS w0 za zn zc v1 m c o rs) (hb0 : Below w0.heap.size w0 w) (hO : NmAt w vn n) (hko : NmOK n) (hm : m ≤ 1000000) :
 Calls Tryz.prog 79 #[.agg #[.slice za zn zc, .slice v1 m c], vn, .int .i64 t] w (qji w0 w (dataM rs n t)) := by
 obtain ⟨-, -, ⟨css, hA, hR⟩, hOK, hl⟩ := h
 have hcl : css.length = m := by
  obtain ⟨_, _, e, -⟩ := id hA
  injection e with _ e _
  exact e.symm
 have hc := fun (W : World) (hb : Below w.heap.size w W) => ref_Of (.slice v1 m c) vn n t css rs w0 W (hA.below (qB0 hb0 hb)) hR (qB0 hb0 hb) (hO.below hb) hko hOK (by omega)
 obtain ⟨an, cn, rfl, -⟩ := nmAt_sl.1 hO
 obtain ⟨qn, hqn⟩ : ∃ k, (List.map strV n).length = k := ⟨_, rfl⟩
 rw [hqn] at hc ⊢
 have hD : dataM rs n t = ((ofM rs n t).getD ⟨[], 0, 0, []⟩).data := rfl
 obtain ⟨D, hDD⟩ : ∃ D, dataM rs n t = D := ⟨_, rfl⟩
 rw [hDD] at hD ⊢
 have HD := qH0 hD
 have hB0 := (Below.refl w.heap.size w).alloc (qN0) (.cells #[.slice za zn zc, .slice v1 m c] 60)
 have X0 := qH0 (knew w (.cells #[.slice za zn zc, .slice v1 m c] 60))
 have hcc := hc _ hB0
 have HB0 := qH0 hB0
 have y1 := kcell X0.out 1 _ rfl
 clear hA hR hOK hO hko hc hB0 hqn hD hDD hcl hb0
 obtain ⟨res, hres⟩ : ∃ r, ofM rs n t = r := ⟨_, rfl⟩
 rw [hres] at hcc HD
 clear hres
 go_enter Tryz.func79, Tryz.ntmps79
 go_wp2_with fail
 refine hcc.mono ?_
 rintro e w1 ⟨cs, rfl, ⟨⟨p0, q0, r0⟩, ⟨p3, q3, r3⟩, ds, rfl, h0, h1, h2⟩, hb1⟩
 unfold slW at h1 ⊢
 simp only at h1 ⊢
 have hA1 := (Below.refl w1.heap.size w1).alloc (qN0) (.cells #[.slice p0 q0 r0, .int .i64 (res.getD ⟨[], 0, 0, []⟩).ty, .int .u32 ((res.getD ⟨[], 0, 0, []⟩).ttl : Int), .slice p3 q3 r3] 41)
 have z3 := kcell (knew w1 (.cells #[.slice p0 q0 r0, .int .i64 (res.getD ⟨[], 0, 0, []⟩).ty, .int .u32 ((res.getD ⟨[], 0, 0, []⟩).ttl : Int), .slice p3 q3 r3] 41)) 3 _ rfl
 have HS := qH0 (h1.below hA1)
 have HDT := qH0 h2
 have HB1 := qH0 (HB0.out.trans ((qB0 hb1 hA1).mono HB0.out.size))
 clear h0 h1 h2 hb1 hA1 hcc y1
 generalize (res.getD ⟨[], 0, 0, []⟩).ty = ty at *
 generalize ((res.getD ⟨[], 0, 0, []⟩).ttl : Int) = tl at *
 go_wp2
 go_ret
 exact ⟨_, ds, rfl, HS.out, by rw [HD.out]; exact HDT.out, HB1.out⟩
theorem qhr {fn : Func} {t : Tmp} (h : fn.results = #[.cell t 60]) (tmps : Array Value) (W : World) {a : Nat} {x0 x1 : Value}
 (ht : tmps.getD t undef = .pointer (some ⟨a, 0, none⟩)) (hb : W.heap[a]? = some (.cells #[x0, x1] 60)) : (results fn tmps).run Tryz.prog W = .ok (.agg #[x0, x1]) W := by
 have ht' : tmps[t]?.getD undef = .pointer (some ⟨a, 0, none⟩) := by rw [← ht]; simp
 have hu : ∀ w, Sem.run Tryz.prog (underlying 60) w = .ok _ w := run_underlying Tryz.underlying60
 have y0 := kcell hb 0 _ rfl; have y1 := kcell hb 1 _ rfl
 simp [results, h, ht', loadVar, asAddr, go_sem, hu, y0, y1, isAgg]
theorem qna {w : World} (vo vl : Value) (o : Nm) (l : List Rc) (hO : NmAt w vo o) (hko : NmOK o) (hL : RowC w vl l) (hOK : ∀ r ∈ l, RcOK r) (hl : l.length ≤ 1000000) :
 Calls Tryz.prog 29 #[vo, vl] w (qjq w o (canonM l)) := by
 obtain ⟨css, hA, hR⟩ := hL
 have hB0 := (Below.refl w.heap.size w).alloc (qN0) (.cells #[.slice none 0 0, .slice none 0 0] 60)
 have X0 := qH0 (knew w (.cells #[.slice none 0 0, .slice none 0 0] 60))
 have hc := qfG vl css l w _ (hA.below hB0) hR hB0 hOK (by rw [hR.1]; exact hl)
 have HOKC := qH0 (qb4 l hOK)
 have HLC := qH0 (show (canonM l).length ≤ 1048576 by have := qaL l; omega)
 have HB0 := qH0 hB0; have HNO := qH0 hO; have HKO := qH0 hko
 obtain ⟨ao, co, rfl, -⟩ := nmAt_sl.1 hO
 obtain ⟨qo, hqo⟩ : ∃ k, (List.map strV o).length = k := ⟨_, rfl⟩
 rw [hqo] at HNO ⊢
 obtain ⟨al, cl, rfl, -⟩ := id hA
 obtain ⟨nl, hnl⟩ : ∃ k, css.length = k := ⟨_, rfl⟩
 rw [hnl] at hc ⊢
 obtain ⟨C, hC⟩ : ∃ C, canonM l = C := ⟨_, rfl⟩
 unfold qh1 at hc
 rw [hC] at hc HOKC HLC ⊢
 clear hA hR hOK hO hko hB0 hqo hnl hC hl
 go_enter Tryz.func29, Tryz.ntmps29
 go_wp2_with fail
 refine hc.mono ?_
 rintro e w1 ⟨v1, csd, rfl, ho, hr, hb1⟩
 obtain ⟨a1, c1, rfl⟩ := OwnK.shape ho
 obtain ⟨m, hm⟩ : ∃ m, csd.length = m := ⟨_, rfl⟩
 have hcm : C.length = m := by rw [← hm]; exact hr.1.symm
 rw [hm] at ho ⊢
 have hx1 := (hb1.block _ (qaa X0.out)).trans X0.out
 have HX1 := qH0 hx1
 have HB1 := qH0 (qB0 HB0.out hb1)
 have HO1 := qH0 ho; have HR1 := qH0 hr
 have HM := qH0 (show m ≤ 1048576 by have := HLC.out; omega)
 have y0 := kcell hx1 0 _ rfl; have y1 := kcell hx1 1 _ rfl; have z0 := qab hx1 0; have z1 := qab hx1 1
 clear hc ho hr hb1 hx1 hm hcm
 go_wp2_with fail
 have q0 := kset HX1.out 0 (.slice ao qo co)
 have q1 := kset q0 1 (.slice a1 m c1)
 refine bodyPost_ret (qhr rfl _ _ rfl q1) rfl ?_
 have hbw : Below w.heap.size w ((w1.setCell ⟨w.heap.size, 0, none⟩ (.slice ao qo co)).setCell ⟨w.heap.size, 1, none⟩ (.slice a1 m c1)) := (HB1.out.setCell (p := ⟨w.heap.size, 0, none⟩) (qN0) _).setCell (p := ⟨w.heap.size, 1, none⟩) (qN0) _
 have hf : FarKeep (w.heap.size + 1) w1 ((w1.setCell ⟨w.heap.size, 0, none⟩ (.slice ao qo co)).setCell ⟨w.heap.size, 1, none⟩ (.slice a1 m c1)) := (FarKeep.set _ _ _ _ (Nat.lt_succ_self _)).trans (qah w1 w.heap.size 0 (.slice ao qo co)).size (FarKeep.set _ _ _ _ (Nat.lt_succ_self _))
 have ho := HO1.out
 rw [World.size_alloc] at ho
 exact ⟨ao, qo, co, a1, m, c1, rfl, ⟨HNO.out.below hbw, HKO.out, ⟨csd, SlK.of_own (OwnK.move ho hf) HR1.out.ck, HR1.out.below hbw⟩, HOKC.out, HM.out⟩, hbw⟩
def qmx (w0 w : World) (s : Option St) (e : Ending) (w' : World) : Prop := ∃ cs, e = .returned (.tuple #[.agg cs.toArray, .bool s.isSome]) ∧ (∀ W', FarKeep w.heap.size w' W' → RSetP w0 W' cs (s.getD ⟨[], 0, 0, []⟩)) ∧ Below w.heap.size w w'
theorem qjC (W : World) (B : Nat) (v0 v1 v2 v3 : Value) : (put4s W B v0 v1 v2 v3).heap.size = W.heap.size := by unfold put4s; simp
theorem qj5 (w0 W : World) : RSetP w0 W [.slice none 0 0, .int .i64 0, .int .u32 0, .slice none 0 0] ⟨[], 0, 0, []⟩ :=
 ⟨(none, 0, 0), (none, 0, 0), [], rfl, nm_nil w0, SlK.nil W, Dts.nil w0⟩
theorem qlI (v vo : Value) (o : Nm) (t : Int) (cs0 : List (List Value)) (l : List Rc) (w0 w : World) (hA : SlK w v cs0) (hR : Rcs w0 cs0 l) (hb0 : Below w0.heap.size w0 w) (hO : NmAt w vo o) (hko : NmOK o) (hOK : ∀ r ∈ l, RcOK r) (hl : cs0.length ≤ 1000000) :
 Calls Tryz.prog 22 #[v, vo, .int .i64 t] w (qmx w0 w (ofM l o t)) := by
 have hc := fun (W : World) (hb : Below w.heap.size w W) => qig w0 W v cs0 l (hA.below hb) hR (qB0 hb0 hb) hOK hl
 have hoks : ∀ s ∈ setsM (canonM l), NmOK s.owner := fun s h => (qfY hOK h).1
 have hfd := qh4 l o t
 have hsl : (setsM (canonM l)).length ≤ 1000000 := by
  have h1 := qes _ (canonM l) (qN0)
  have h2 := qaL l
  have h3 : l.length ≤ 1000000 := by rw [← hR.1]; exact hl
  omega
 obtain ⟨S, hS⟩ : ∃ S, setsM (canonM l) = S := ⟨_, rfl⟩
 rw [hS] at hoks hfd hsl
 have hc2 := hc
 simp only [hS] at hc2
 obtain ⟨res, hres⟩ : ∃ r, ofM l o t = r := ⟨_, rfl⟩
 rw [hres] at hfd ⊢
 have HB00 := qH0 hb0; have HFD := qH0 hfd; have HOKS := qH0 hoks; have HNO := qH0 hO; have HKO := qH0 hko
 have HSL := qH0 hsl; have HCC := qH0 hc2
 obtain ⟨a, c, rfl, -⟩ := id hA
 obtain ⟨ao, co, rfl, -⟩ := nmAt_sl.1 hO
 obtain ⟨qo, hqo⟩ : ∃ k, (List.map strV o).length = k := ⟨_, rfl⟩
 rw [hqo] at HNO ⊢
 obtain ⟨n0, hn0⟩ : ∃ k, cs0.length = k := ⟨_, rfl⟩
 rw [hn0] at HCC ⊢
 clear hA hR hb0 hO hko hOK hl hc hc2 hoks hfd hsl hS hres hqo hn0
 have hA0 := (Below.refl w.heap.size w).alloc (qN0) (.cells #[.slice none 0 0, .int .i64 0, .int .u32 0, .slice none 0 0] 41)
 have hX := knew w (.cells #[.slice none 0 0, .int .i64 0, .int .u32 0, .slice none 0 0] 41)
 have HX := qH0 hX; have HA0 := qH0 hA0
 have hc := HCC.out _ hA0
 clear hA0 hX HCC
 go_enter Tryz.func22, Tryz.ntmps22
 go_wp2_with fail
 refine hc.mono ?_
 rintro e w1 ⟨v1, css, rfl, hcl, hrs, hb1⟩
 have HB1 := qH0 (qB0 HA0.out hb1)
 have HX1 := qH0 ((hb1.block _ (qaa HX.out)).trans HX.out)
 obtain ⟨hs1, he1⟩ := hrs w1 (FarKeep.refl _ _)
 have HRS := qH0 (fun (W' : World) (hf : FarKeep (w.heap.size + 1) w1 W') => (hrs W' (by rw [World.size_alloc]; exact hf)).2)
 obtain ⟨sa, sc, rfl, -⟩ := id hs1
 obtain ⟨n, hn⟩ : ∃ n, css.length = n := ⟨_, rfl⟩
 have HE1 := qH0 he1
 rw [hn] at hs1 ⊢
 have hcl2 : S.length = n := by rw [← hn]; exact hcl.symm
 have HR1 := qH0 hs1; have HN := qH0 hn; have HNS := qH0 hcl2
 have HL4 := qH0 (show ∀ cs ∈ css, cs.length = 4 from fun cs hc => by
  obtain ⟨i, hi, rfl⟩ := List.mem_iff_getElem.1 hc
  obtain ⟨x0, x3, ds, e, _⟩ := he1 i hi (by omega)
  rw [e]; rfl)
 have hnx : n ≤ 1000000 := by have := HSL.out; omega
 clear hc hrs hb1 hs1 he1 HA0 HX hn hcl hcl2
 go_wp2
 go_loopw [9] (fun vi wr => ∃ k : Nat, vi = .int .i64 k ∧ k ≤ n ∧ Hid (∀ j (hj : j < S.length), j < k → (decide (S[j].ty = t) && sameN S[j].owner o) = false) ∧ Hid (Below w1.heap.size w1 wr)) (fun vi _ => n - (intOf vi).toNat)
 case atStart => exact ⟨0, rfl, Nat.zero_le _, qH0 (fun j hj h => absurd h (Nat.not_lt_zero _)), qH0 (qL0)⟩
 case round =>
  obtain ⟨k, rfl, hk, HNO2, HB⟩ := hrel
  have HBW := qH0 (qB0 HB1.out HB.out)
  by_cases hlt : k < n
  ·have hltz : (k : Int) < (n : Int) := by omega
   have hk0 : k < css.length := by have := HN.out; omega
   have hk1 : k < S.length := by have := HNS.out; omega
   obtain ⟨b, off, rfl, hb, hel⟩ := HR1.out.elem4 HL4.out (by omega)
   obtain ⟨⟨p0, q0, r0⟩, ⟨p3, q3, r3⟩, ds, e0, hn1, -⟩ := HE1.out k hk0 hk1
   unfold slW at e0 hn1
   simp only at e0 hn1
   have hce := fun W hb => hel k hk0 _ _ _ _ e0 W hb
   have hks := HOKS.out _ (List.getElem_mem hk1)
   have hst := qfB (p := fun s : St => decide (s.ty = t) && sameN s.owner o) hk1 HNO2.out
   rw [← HFD.out] at hst
   have HRF := qH0 (fun (W' : World) (hf : FarKeep (w.heap.size + 1) w1 W') => (show RSetP w0 W' [.slice p0 q0 r0, .int .i64 (S[k]'hk1).ty, .int .u32 ((S[k]'hk1).ttl : Int), .slice p3 q3 r3] (S[k]'hk1) by
    have h := HRS.out W' hf k hk0 hk1
    rw [e0] at h; exact h))
   have HSK := qH0 (show ∀ (h : k < S.length) , (S[k]'h) = (S[k]'hk1) from fun _ => rfl)
   obtain ⟨s, hs⟩ : ∃ s, S[k]'hk1 = s := ⟨_, rfl⟩
   rw [hs] at hce hks hst hn1 HRF HSK
   obtain ⟨d0, d1, d2, d3⟩ := hce wr HB.out
   have HCE := qH0 hce
   have HST := qH0 hst
   have hcs := qbq (.slice p0 q0 r0) (.slice ao qo co) s.owner o _ rfl wr (hn1.below (qB0 HB00.out HBW.out)) (HNO.out.below HBW.out) hks HKO.out
   obtain ⟨t1, ht1⟩ : ∃ b, sameN s.owner o = b := ⟨_, rfl⟩
   rw [ht1] at hcs
   have HT1 := qH0 ht1
   clear hce hst hs hn1 ht1 hks hk1 hk0 e0 hel hb
   by_cases hty : s.ty = t
   ·have htyb : (s.ty == t) = true := by simpa using hty
    have HTY := qH0 hty
    clear hty
    go_wp2_with fail
    refine hcs.mono ?_
    rintro e w2 ⟨rfl, hb2⟩
    have HB2 := qH0 (qB0 HB.out hb2)
    obtain ⟨c0, c1, c2, c3⟩ := HCE.out w2 HB2.out
    clear hcs hb2 d0 d1 d2 d3 htyb
    cases t1
    ·have HNX : Hid (∀ j (hj : j < S.length), j < k + 1 → (decide (S[j].ty = t) && sameN S[j].owner o) = false) := qH0 (fun j hj h => by
      by_cases e : j < k
      ·exact HNO2.out j hj e
      ·obtain rfl : j = k := by omega
       rw [HSK.out, HT1.out, Bool.and_false])
     clear c0 c1 c2 c3
     go_wp2
     go_roundw
     case measure => simp [intOf]; omega
     case rel => exact ⟨k + 1, by go_num, by omega, HNX, HB2⟩
    ·have HRE : Hid (res = some s) := qH0 (by rw [HST.out, if_pos (by rw [HT1.out, decide_eq_true HTY.out]; rfl)])
     have hx2 := (HB2.out.block _ (qaa HX1.out)).trans HX1.out
     have s0 := kcell hx2 0 _ rfl; have s1 := kcell hx2 1 _ rfl; have s2 := kcell hx2 2 _ rfl; have s3 := kcell hx2 3 _ rfl
     have u0 := qab hx2 0; have u1 := qab hx2 1; have u2 := qab hx2 2; have u3 := qab hx2 3
     have HX2 := qH0 hx2
     clear hx2
     go_wp2
     refine bodyPost_ret (qbV rfl _ (put4s w2 w.heap.size (.slice p0 q0 r0) (.int .i64 s.ty) (.int .u32 (s.ttl : Int)) (.slice p3 q3 r3)) rfl rfl (qc5 HX2.out _ _ _ _)) rfl ?_
     have hf := qgs (n := w.heap.size + 1) w2 (Nat.lt_succ_self _) (.slice p0 q0 r0) (.int .i64 s.ty) (.int .u32 (s.ttl : Int)) (.slice p3 q3 r3)
     have hbw := qck (qB0 HB1.out HB2.out) (Nat.le_refl w.heap.size) (.slice p0 q0 r0) (.int .i64 s.ty) (.int .u32 (s.ttl : Int)) (.slice p3 q3 r3)
     exact ⟨[.slice p0 q0 r0, .int .i64 s.ty, .int .u32 (s.ttl : Int), .slice p3 q3 r3], by rw [HRE.out]; rfl, by rw [HRE.out]; exact fun W' hW => HRF.out _ (((FarKeep.of_below HB2.out).trans HB2.out.size hf).trans (Nat.le_trans HB2.out.size (Nat.le_of_eq (qjC _ _ _ _ _ _).symm)) (hW.mono (Nat.le_succ _))), hbw⟩
   ·have htyb : (s.ty == t) = false := by simpa using hty
    have HNX : Hid (∀ j (hj : j < S.length), j < k + 1 → (decide (S[j].ty = t) && sameN S[j].owner o) = false) := qH0 (fun j hj h => by
     by_cases e : j < k
     ·exact HNO2.out j hj e
     ·obtain rfl : j = k := by omega
      rw [HSK.out, decide_eq_false hty, Bool.false_and])
    clear hcs hty
    go_wp2
    go_roundw
    case measure => simp [intOf]; omega
    case rel => exact ⟨k + 1, by go_num, by omega, HNX, HB⟩
  ·obtain rfl : k = n := by omega
   have HRE : Hid (res = none) := qH0 (by
    rw [HFD.out, List.find?_eq_none]
    intro x hx
    obtain ⟨j, hj, rfl⟩ := List.mem_iff_getElem.1 hx
    rw [HNO2.out j hj (by have := HNS.out; omega)]; simp)
   have hx2 := (HB.out.block _ (qaa HX1.out)).trans HX1.out
   have s0 := kcell hx2 0 _ rfl; have s1 := kcell hx2 1 _ rfl; have s2 := kcell hx2 2 _ rfl; have s3 := kcell hx2 3 _ rfl
   have u0 := qab hx2 0; have u1 := qab hx2 1; have u2 := qab hx2 2; have u3 := qab hx2 3
   have HX2 := qH0 hx2
   clear hx2
   go_wp2
   refine bodyPost_ret (qbV rfl _ (put4s wr w.heap.size (.slice none 0 0) (.int .i64 0) (.int .u32 0) (.slice none 0 0)) rfl rfl (qc5 HX2.out _ _ _ _)) rfl ?_
   exact ⟨[.slice none 0 0, .int .i64 0, .int .u32 0, .slice none 0 0], by rw [HRE.out]; rfl, by rw [HRE.out]; exact fun W' _ => qj5 _ W', qck HBW.out (Nat.le_refl w.heap.size) _ _ _ _⟩
def qdF (w0 w : World) (ds : List Dat) (e : Ending) (w' : World) : Prop := ∃ v, e = .returned v ∧ (∀ W', FarKeep w.heap.size w' W' → ∃ css, SlK W' v css ∧ Dts w0 css ds) ∧ Below w.heap.size w w'
theorem qfR {w0 w : World} {za v1 : Option Addr} {zn zc m c : Nat} {o n : Nm} {rs : List Rc} {vn : Value} (t : Int) (h : ZonS w0 za zn zc v1 m c o rs) (hb0 : Below w0.heap.size w0 w) (hO : NmAt w vn n) (hko : NmOK n) (hm : m ≤ 1000000) :
 Calls Tryz.prog 79 #[.agg #[.slice za zn zc, .slice v1 m c], vn, .int .i64 t] w (qdF w0 w (dataM rs n t)) := by
 obtain ⟨-, -, ⟨css, hA, hR⟩, hOK, hl⟩ := h
 have hcl : css.length = m := by
  obtain ⟨_, _, e, -⟩ := id hA
  injection e with _ e _
  exact e.symm
 have hc := fun (W : World) (hb : Below w.heap.size w W) => qlI (.slice v1 m c) vn n t css rs w0 W (hA.below (qB0 hb0 hb)) hR (qB0 hb0 hb) (hO.below hb) hko hOK (by omega)
 obtain ⟨an, cn, rfl, -⟩ := nmAt_sl.1 hO
 obtain ⟨qn, hqn⟩ : ∃ k, (List.map strV n).length = k := ⟨_, rfl⟩
 rw [hqn] at hc ⊢
 have hD : dataM rs n t = ((ofM rs n t).getD ⟨[], 0, 0, []⟩).data := rfl
 obtain ⟨D, hDD⟩ : ∃ D, dataM rs n t = D := ⟨_, rfl⟩
 rw [hDD] at hD ⊢
 have HD := qH0 hD
 have hB0 := (Below.refl w.heap.size w).alloc (qN0) (.cells #[.slice za zn zc, .slice v1 m c] 60)
 have X0 := qH0 (knew w (.cells #[.slice za zn zc, .slice v1 m c] 60))
 have hcc := hc _ hB0
 have HB0 := qH0 hB0
 have y1 := kcell X0.out 1 _ rfl
 clear hA hR hOK hO hko hc hB0 hqn hD hDD hcl hb0
 obtain ⟨res, hres⟩ : ∃ r, ofM rs n t = r := ⟨_, rfl⟩
 rw [hres] at hcc HD
 clear hres
 go_enter Tryz.func79, Tryz.ntmps79
 go_wp2_with fail
 refine hcc.mono ?_
 rintro e w1 ⟨cs, rfl, hRS, hb1⟩
 obtain ⟨⟨p0, q0, r0⟩, ⟨p3, q3, r3⟩, ds, rfl, h0, h1, h2⟩ := hRS w1 (FarKeep.refl _ _)
 unfold slW at h1 hRS ⊢
 simp only at h1 hRS ⊢
 have HRF := qH0 (fun W' (hW : FarKeep (w.heap.size + 1) w1 W') => (show ∃ css, SlK W' (.slice p3 q3 r3) css ∧ Dts w0 css (res.getD ⟨[], 0, 0, []⟩).data from by
  obtain ⟨⟨i0, j0, k0⟩, ⟨i3, j3, k3⟩, ds', e, k0, k1, k2⟩ := hRS W' (by rw [World.size_alloc]; exact hW)
  unfold slW at e k1
  simp only [List.cons.injEq, Value.slice.injEq, and_true, true_and] at e
  obtain ⟨-, rfl, rfl, rfl⟩ := e
  exact ⟨ds', k1, k2⟩))
 clear hRS
 have hA1 := (Below.refl w1.heap.size w1).alloc (qN0) (.cells #[.slice p0 q0 r0, .int .i64 (res.getD ⟨[], 0, 0, []⟩).ty, .int .u32 ((res.getD ⟨[], 0, 0, []⟩).ttl : Int), .slice p3 q3 r3] 41)
 have z3 := kcell (knew w1 (.cells #[.slice p0 q0 r0, .int .i64 (res.getD ⟨[], 0, 0, []⟩).ty, .int .u32 ((res.getD ⟨[], 0, 0, []⟩).ttl : Int), .slice p3 q3 r3] 41)) 3 _ rfl
 have HFA := qH0 (FarKeep.of_below (n := w.heap.size + 1) hA1); have HSA := qH0 hA1.size
 have HB1 := qH0 (HB0.out.trans ((qB0 hb1 hA1).mono HB0.out.size))
 clear h0 h1 h2 hb1 hA1 hcc y1
 generalize (res.getD ⟨[], 0, 0, []⟩).ty = ty at *
 generalize ((res.getD ⟨[], 0, 0, []⟩).ttl : Int) = tl at *
 go_wp2
 go_ret
 exact ⟨_, rfl, fun W' hW => by rw [HD.out]; exact HRF.out _ (HFA.out.trans HSA.out (hW.mono (Nat.le_succ _))), HB1.out⟩
def hintsR (rs : List Rc) : List Nm → List (Nm × List Dat) → List (Nm × List Dat)
 | [], out => out
 | h :: r, out => if (out.any fun g => decide (textN g.1 = textN h)) = false ∧ glueM rs h ≠ [] then hintsR rs r (out ++ [(h, glueM rs h)]) else hintsR rs r out
def headsR (ds : List Dat) : List Nm := ds.map fun d => d.names.headD []
def headR (ds : List Dat) : Nm := ((ds.head?.map (·.names)).getD []).headD []
def atR (rs : List Rc) (n : Nm) (t : Int) (b : Bool) : Lk :=
 if dataM rs n t ≠ [] then ⟨1, dataM rs n t, [], b, []⟩ else if dataM rs n 5 ≠ [] then ⟨5, (dataM rs n 5).take 1, headR (dataM rs n 5), b, []⟩ else ⟨2, [], [], b, []⟩
def stepR (o : Nm) (rs : List Rc) (q : Nm) (s : Nat) : Option Lk :=
 if o.length < s ∧ hasM rs (ancN q s) 2 = true then some ⟨4, dataM rs (ancN q s) 2, ancN q s, false, hintsR rs (headsR (dataM rs (ancN q s) 2)) []⟩
 else if s < q.length ∧ hasM rs (ancN q s) 39 = true then
  some (if (swapN q (ancN q s) (headR (dataM rs (ancN q s) 39))).2 = 0 then ⟨5, (dataM rs (ancN q s) 39).take 1, (swapN q (ancN q s) (headR (dataM rs (ancN q s) 39))).1, false, []⟩ else ⟨6, [], [], false, []⟩)
 else none
def lookR (o : Nm) (rs : List Rc) (q : Nm) (t : Int) : Lk :=
 if underN q o = false then ⟨7, [], [], false, []⟩ else
 match (List.range' o.length (q.length + 1 - o.length)).findSome? (stepR o rs q) with
 | some r => r
 | none => if qaq o rs q then atR rs q t false else if qaT o rs q then atR rs (starM o rs q) t true else ⟨3, [], [], false, []⟩
theorem qkD {d : Dat} (h : checkD d = 0) (ht : d.ty = 2 ∨ d.ty = 5 ∨ d.ty = 39) : ∃ n, d.names = [n] ∧ checkN n = 0 := by
 unfold checkD at h
 split at h
 ·simp at h
 ·split at h
  ·simp at h
  ·rename_i hc
   have hc2 : qa7 d = true := by cases e : qa7 d <;> simp_all
   have h1 : d.names.length = 1 := by
    unfold qa7 at hc2
    have := (of_decide_eq_true hc2).1
    have e : qa6 d.ty = (1, 0, 0) := by rcases ht with e | e | e <;> rw [e] <;> rfl
    rw [e] at this
    have h3 : (d.names.length : Int) = 1 := this
    omega
   match hn : d.names, h1 with
   | [n], _ =>
    refine ⟨n, rfl, ?_⟩
    rw [hn] at h
    by_cases hz : qav [n] = 0
    ·simp only [qav] at hz
     split at hz
     ·assumption
     ·exact hz
    ·rw [if_pos hz] at h; exact absurd h hz
theorem qeB (rs : List Rc) (n : Nm) (t : Int) : hasM rs n t = (ofM rs n t).isSome := by
 cases h : ofM rs n t with
 | none =>
  have h2 := ofM_none.1 h
  rw [Option.isSome_none]
  unfold hasM
  rw [List.any_eq_false]
  intro r hr
  have := h2 r hr
  unfold belM at this
  rw [this]; simp
 | some s =>
  rw [Option.isSome_some]
  unfold hasM
  by_cases e : (rs.any fun r => decide (r.data.ty = t) && sameN r.owner n) = true
  ·exact e
  ·exfalso
   rw [Bool.not_eq_true, List.any_eq_false] at e
   have : ofM rs n t = none := ofM_none.2 (fun r hr => by have := e r hr; unfold belM; simpa using this)
   rw [this] at h; cases h
theorem qkC {a b : Nm} (ha : checkN a = 0) (hb : checkN b = 0) (h : textN a = textN b) : a = b := by
 have h1 := qeW ha []
 have h2 := qeW hb []
 rw [h, h2] at h1
 injection h1 with h1
 exact h1.symm
theorem qcG (rs : List Rc) : ∀ (l : List Nm) (out : List (Nm × List Dat)) (seen : List (List UInt8)), (∀ h ∈ l, checkN h = 0) → (∀ g ∈ out, textN g.1 ∈ seen) → (∀ h ∈ l, textN h ∈ seen → glueM rs h = [] ∨ (out.any fun g => decide (textN g.1 = textN h)) = true) →
 hintsR rs l out = out ++ (toldM l seen).filterMap fun h => if glueM rs h = [] then none else some (h, glueM rs h)
 | [], out, seen, _, _, _ => by simp [hintsR, toldM]
 | h :: r, out, seen, hc, ho, hs => by
  have hc2 := fun x hx => hc x (List.mem_cons_of_mem h hx)
  unfold hintsR toldM
  by_cases hm : textN h ∈ seen
  ·rw [if_pos hm, if_neg (by rintro ⟨h1, h2⟩; rcases hs h (by simp) hm with e | e; exact h2 e; rw [h1] at e; cases e)]
   exact qcG rs r out seen hc2 ho (fun x hx => hs x (List.mem_cons_of_mem h hx))
  ·rw [if_neg hm]
   have hnot : (out.any fun g => decide (textN g.1 = textN h)) = false := by
    rw [List.any_eq_false]
    intro g hg e
    exact hm (of_decide_eq_true e ▸ ho g hg)
   by_cases hg : glueM rs h = []
   ·rw [if_neg (fun e => e.2 hg), List.filterMap_cons, if_pos hg]
    refine qcG rs r out (textN h :: seen) hc2 (fun g hg => List.mem_cons_of_mem _ (ho g hg)) (fun x hx hm2 => ?_)
    rcases List.mem_cons.1 hm2 with e | e
    ·rw [qkC (hc2 x hx) (hc h (by simp)) e]; exact .inl hg
    ·exact hs x (List.mem_cons_of_mem h hx) e
   ·rw [if_pos ⟨hnot, hg⟩, List.filterMap_cons, if_neg hg]
    rw [qcG rs r (out ++ [(h, glueM rs h)]) (textN h :: seen) hc2 (fun g hg2 => by
     rcases List.mem_append.1 hg2 with e | e
     ·exact List.mem_cons_of_mem _ (ho g e)
     ·rw [List.mem_singleton.1 e]; exact List.mem_cons_self) (fun x hx hm2 => by
     rcases List.mem_cons.1 hm2 with e | e
     ·right; rw [List.any_append]; simp [e]
     ·rcases hs x (List.mem_cons_of_mem h hx) e with e | e
      ·exact .inl e
      ·right; rw [List.any_append, e]; rfl), List.append_assoc]
    rfl
theorem qln {ds : List Dat} (h : ∀ d ∈ ds, ∃ n, d.names = [n] ∧ checkN n = 0) : headsR ds = tgtM ds ∧ ∀ n ∈ headsR ds, checkN n = 0 := by
 induction ds with
 | nil => exact ⟨rfl, fun n hn => by cases hn⟩
 | cons d r ih =>
  obtain ⟨i1, i2⟩ := ih (fun x hx => h x (List.mem_cons_of_mem d hx))
  obtain ⟨n, e, hc⟩ := h d (by simp)
  have e1 : headsR (d :: r) = n :: headsR r := by unfold headsR; rw [List.map_cons, e]; rfl
  have e2 : tgtM (d :: r) = n :: tgtM r := by unfold tgtM; rw [List.filterMap_cons, e]; rfl
  rw [e1, e2, i1]
  refine ⟨rfl, fun x hx => ?_⟩
  rcases List.mem_cons.1 hx with rfl | hx
  ·exact hc
  ·exact i2 x (i1 ▸ hx)
theorem qga {rs : List Rc} {n : Nm} {t : Int} {s : St} (hr : ∀ r ∈ rs, checkD r.data = 0) (ht : t = 2 ∨ t = 5 ∨ t = 39) (h : ofM rs n t = some s) : ∀ d ∈ s.data, ∃ n, d.names = [n] ∧ checkN n = 0 := fun d hd =>
 qkD (ofM_P (P := fun d => checkD d = 0) hr h d hd) (by rw [(qch h).2 d hd]; exact ht)
theorem qdJ {rs : List Rc} {n : Nm} {t : Int} {s : St} (hr : ∀ r ∈ rs, checkD r.data = 0) (ht : t = 2 ∨ t = 5 ∨ t = 39) (h : ofM rs n t = some s) : pointD s = true := by
 have h1 := qga hr ht h
 have h2 := (qch h).1
 unfold pointD
 cases e : s.data with
 | nil => exact absurd e h2
 | cons d r =>
  obtain ⟨x, hx, _⟩ := h1 d (by rw [e]; simp)
  simp [hx]
theorem at_R {rs : List Rc} (hr : ∀ r ∈ rs, checkD r.data = 0) (n : Nm) (t : Int) (b : Bool) : atR rs n t b = { atM rs n t with wild := b } := by
 unfold atR atM dataM
 cases h1 : ofM rs n t with
 | some s => simp [(qch h1).1]
 | none =>
  cases h2 : ofM rs n 5 with
  | none => simp
  | some c => simp [(qch h2).1, qdJ hr (.inr (.inl rfl)) h2, headR, firstN]
theorem step_R {o : Nm} {rs : List Rc} {q : Nm} (hr : ∀ r ∈ rs, checkD r.data = 0) (s : Nat) : stepM o (onM rs q) rs q s = stepR o rs q s := by
 unfold stepM stepR
 rw [ofM_on (qbr q s), ofM_on (qbr q s), qeB, qeB]
 have h39 : (match (if s < q.length then ofM rs (ancN q s) 39 else none) with
  | some d => if pointD d then some (qaK q (ancN q s) d) else none
  | none => none) = (if s < q.length ∧ (ofM rs (ancN q s) 39).isSome = true then
  some (if (swapN q (ancN q s) (headR (dataM rs (ancN q s) 39))).2 = 0 then (⟨5, (dataM rs (ancN q s) 39).take 1, (swapN q (ancN q s) (headR (dataM rs (ancN q s) 39))).1, false, []⟩ : Lk) else ⟨6, [], [], false, []⟩)
  else none) := by
  by_cases hs : s < q.length
  ·rw [if_pos hs]
   cases h : ofM rs (ancN q s) 39 with
   | none => simp
   | some d =>
    simp only [qdJ hr (.inr (.inr rfl)) h, if_true, Option.isSome_some, and_true, if_pos hs]
    unfold qaK dataM headR firstN
    rw [h]; rfl
  ·rw [if_neg hs, if_neg (fun e => hs e.1)]
 by_cases ho : o.length < s
 ·rw [if_pos ho]
  cases h : ofM rs (ancN q s) 2 with
  | none =>
   simp only [Option.isSome_none, Bool.false_eq_true, and_false, if_false]
   exact h39
  | some d =>
   simp only [Option.isSome_some, and_true, if_pos ho]
   have h1 := qln (qga hr (.inl rfl) h)
   have hty : d.ty = 2 := by
    rcases qc0 rs (ancN q s) 2 with ⟨e, _⟩ | ⟨y, r, e, h2⟩
    ·rw [e] at h; cases h
    ·rw [h] at h2
     injection h2 with h2
     have := (qch h).2 y.data (by rw [h2]; simp [stR])
     rw [h2]; exact this
   have hd : dataM rs (ancN q s) 2 = d.data := by unfold dataM; rw [h]; rfl
   rw [hd, qcG rs _ [] [] h1.2 (by simp) (by simp)]
   unfold referM
   rw [h1.1, hty]; rfl
 ·rw [if_neg ho, if_neg (show ¬ (o.length < s ∧ (ofM rs (ancN q s) 2).isSome = true) from fun e => ho e.1)]
  exact h39
theorem look_R {o : Nm} {rs : List Rc} {q : Nm} (t : Int) (hr : ∀ r ∈ rs, checkD r.data = 0) : lookR o rs q t = lookM o rs q t := by
 unfold lookR lookM
 rw [show stepM o (onM rs q) rs q = stepR o rs q from funext (step_R hr)]
 have e1 : atR rs q t false = atM (onM rs q) q t := by
  rw [at_R hr]
  have hu : underN q q = true := (qbi _ _).2 ⟨[], rfl⟩
  unfold atM
  rw [ofM_on hu, ofM_on hu]
  split
  ·rfl
  ·split
   ·split <;> rfl
   ·rfl
 rw [e1, at_R hr]
 rfl
def qcK (w0 w : World) (r : Lk) (e : Ending) (w' : World) : Prop := ∃ cs, e = .returned (.agg cs.toArray) ∧ (∀ W', FarKeep w.heap.size w' W' → Below w0.heap.size w0 W' → LkAt W' cs r) ∧ Below w.heap.size w w'
theorem lr_fin {fn : Func} {t : Tmp} (h : fn.results = #[.cell t 88]) (tmps : Array Value) {W : World} {a : Nat} {z0 z1 z2 z3 z4 x0 x1 x2 x3 x4 : Value} (hx : W.heap[a]? = some (.cells #[z0, z1, z2, z3, z4] 88))
 (ht : tmps.getD t undef = .pointer (some ⟨a, 0, none⟩)) : (results fn tmps).run Tryz.prog (put5 W a x0 x1 x2 x3 x4) = .ok (.agg #[x0, x1, x2, x3, x4]) (put5 W a x0 x1 x2 x3 x4) :=
 qdy h tmps _ ht (qc2 hx x0 x1 x2 x3 x4)
theorem qlH {W : World} {a : Nat} {x : Obj} (h : W.heap[a]? = some x) : W.drew.heap[a]? = some x := h
theorem qne {fn : Func} {t : Tmp} (h : fn.results = #[.cell t 88]) (tmps : Array Value) {W : World} {a : Nat} {x0 x1 x2 x3 x4 : Value} (hx : W.heap[a]? = some (.cells #[x0, x1, x2, x3, x4] 88))
 (ht : tmps.getD t undef = .pointer (some ⟨a, 0, none⟩)) : (results fn tmps).run Tryz.prog W.drew = .ok (.agg #[x0, x1, x2, x3, x4]) W.drew :=
 qdy h tmps W.drew ht (qlH hx)
theorem qmf {n : Nat} {W W' : World} (h : FarKeep n W.drew W') : FarKeep n W W' := h
theorem qka {n : Nat} {w W : World} (h : Below n w W) : Below n w W.drew := h.trans ⟨rfl, rfl, rfl, qN0, fun _ _ => rfl⟩
theorem Dts.dtsR {w0 W : World} {v : Value} {l : List Dat} (h : ∃ css, SlK W v css ∧ Dts w0 css l) (hb : Below w0.heap.size w0 W) : DtsR W v l := by
 obtain ⟨css, h1, h2⟩ := h
 exact ⟨css, h1, h2.1, fun j a b => ⟨(h2.2 j a b).1, (h2.2 j a b).2.below hb⟩⟩
theorem DtsR.firstC {W : World} {b off n c : Nat} {l : List Dat} (h : DtsR W (.slice (some ⟨b, off, none⟩) n c) l) (h0 : 0 < l.length) : DtsR W (.slice (some ⟨b, off, none⟩) 1 c) (l.take 1) := by
 obtain ⟨ds, ⟨a', c', e, h1, h2, h3⟩, h4⟩ := h
 injection e with e1 e2 e3
 have hd : 0 < ds.length := by rw [h4.1]; exact h0
 have hl : (ds.take 1).length = 1 := by rw [List.length_take]; omega
 have hc : c = c' := e3
 refine ⟨ds.take 1, ⟨some ⟨b, off, none⟩, c, by rw [hl], by rw [hl]; omega, (fun e => by cases e), ?_⟩, (by rw [hl, List.length_take]; omega), fun j a1 a2 => ?_⟩
 ·rcases h3 with h3 | ⟨b', off', e4, h5, h6⟩
  ·subst h3; simp at hd
  ·refine .inr ⟨b, off, rfl, ?_, fun j u hu => ?_⟩
   ·rw [e4] at e1; injection e1 with e1; injection e1 with e5 e6; rw [e5]; exact h5
   ·rw [e4] at e1; injection e1 with e1; injection e1 with e5 e6
    rw [e5, e6]
    apply h6
    have hp : (ds.take 1).flatten <+: ds.flatten := by
     conv => rhs; rw [← List.take_append_drop 1 ds, List.flatten_append]
     exact List.prefix_append _ _
    obtain ⟨t, ht⟩ := hp
    rw [← ht, List.getElem?_append_left (List.getElem?_eq_some_iff.1 hu).1]; exact hu
 ·have q := h4.2 j (by rw [List.length_take] at a1; omega) (by rw [List.length_take] at a2; omega)
  simp only [List.getElem_take]
  exact q
theorem qf0 {w0 W : World} {a : Option Addr} {n c : Nat} {ds : List Dat} (h : ∃ css, SlK W (.slice a n c) css ∧ Dts w0 css ds) {i : Nat} (hi : i < ds.length) (hp : ds[i].names ≠ []) : ∃ b off g go m k v0, a = some ⟨b, off, none⟩ ∧ n = ds.length ∧ n ≤ c ∧ 0 < m ∧ NmAt w0 v0 (ds[i].names.headD []) ∧ (∀ W', Below W.heap.size W W' → W'.cell? ⟨b, off + i * 5 + 1, none⟩ = some (.slice (some ⟨g, go, none⟩) m k)) ∧ ∀ W', Below w0.heap.size w0 W' → W'.cell? ⟨g, go, none⟩ = some v0 := by
 obtain ⟨css, hA, hR⟩ := h
 obtain ⟨hnl, hc⟩ : n = css.length ∧ css.length ≤ c := by
  obtain ⟨a', c', e, h1, _⟩ := id hA
  injection e with _ e2 e3
  have e4 : c = c' := e3
  exact ⟨e2, by omega⟩
 have hd1 : i < css.length := by rw [hR.1]; exact hi
 obtain ⟨b, off, rfl, hb, hel⟩ := hA.elem5 hR.ck (by omega)
 have hd := (hR.2 i hd1 hi).2
 have hpl : 0 < ds[i].names.length := List.length_pos_iff.2 hp
 have hf : ds[i].names.headD [] = ds[i].names[0] := by
  rw [List.headD_eq_head?_getD, List.head?_eq_getElem?, List.getElem?_eq_getElem hpl]; rfl
 obtain ⟨an, cn, x4, x5, x6, vs, e0, s1, sl, hcn, s2⟩ := qcn hd
 have hv : 0 < vs.length := by omega
 obtain ⟨a', c', e1, h1, _, h2⟩ := id s1
 rcases h2 with h2 | ⟨g, go, e2, hg, h3⟩
 ·subst h2; simp at hv
 ·injection e1 with e1 _ _
  rw [e2] at e1
  refine ⟨b, off, g, go, ds[i].names.length, cn, vs[0], rfl, by rw [hnl, hR.1], by omega, hpl, by rw [hf]; exact s2 0 hv hpl, fun W' hB => ?_, fun W' hB => ?_⟩
  ·have hcl := hel i hd1 _ _ _ _ _ e0 W' hB
   have := hcl.2.1; rw [e1] at this; simpa using this
  ·have := h3 0 hv
   rw [Nat.add_zero] at this
   exact Below.cell hB (p := ⟨g, go, none⟩) hg |>.trans this
theorem qkr {w0 W : World} {n X B off ne tc : Nat} {z0 z1 z2 z3 z4 : Value} {T : TypeId} {D : List Dat} (hX : X < n) (hx : W.heap[X]? = some (.cells #[z0, z1, z2, z3, z4] T)) (h : ∀ W', FarKeep n W W' → ∃ css, SlK W' (.slice (some ⟨B, off, none⟩) ne tc) css ∧ Dts w0 css D) (h0 : 0 < D.length) : B ≠ X := by
 rintro rfl
 obtain ⟨css, hA, hR⟩ := h (put5 W B (.bool true) (.bool true) (.bool true) (.bool true) (.bool true)) (qaR _ hX _ _ _ _ _)
 have hd1 : 0 < css.length := by rw [hR.1]; exact h0
 obtain ⟨b, off', e, hb, hel⟩ := hA.elem5 hR.ck hd1
 injection e with e; injection e with e1 e2 
 subst e1; subst e2
 obtain ⟨an, cn, x4, x5, x6, vs, e0, -⟩ := qcn (hR.2 0 hd1 h0).2
 have hcl := (hel 0 hd1 _ _ _ _ _ e0 _ (qL0)).1
 have hp := qc2 hx (.bool true) (.bool true) (.bool true) (.bool true) (.bool true)
 simp only [World.cell?, hp] at hcl
 have : ∀ k : Nat, (#[Value.bool true, .bool true, .bool true, .bool true, .bool true] : Array Value)[k]? = some (.int .i64 D[0].ty) → False := by
  intro k hk
  match k, hk with
  | 0, h => simp at h
  | 1, h => simp at h
  | 2, h => simp at h
  | 3, h => simp at h
  | 4, h => simp at h
  | k + 5, h => simp at h
 exact this _ (by simpa using hcl)
theorem ref_at {w0 w : World} {za v1 : Option Addr} {zn zc m c : Nat} {o n : Nm} {rs : List Rc} {vn : Value} (t : Int) (b : Bool) (h : ZonS w0 za zn zc v1 m c o rs) (hb0 : Below w0.heap.size w0 w) (hO : NmAt w vn n) (hko : NmOK n) (hm : m ≤ 1000000) (hone : ∀ d ∈ dataM rs n 5, ∃ x, d.names = [x] ∧ checkN x = 0) :
 Calls Tryz.prog 98 #[.agg #[.slice za zn zc, .slice v1 m c], vn, .int .i64 t, .bool b] w (qcK w0 w (atR rs n t b)) := by
 have HCD := qH0 (fun (t : Int) (W : World) (hb : Below w.heap.size w W) => qfR t h (qB0 hb0 hb) (hO.below hb) hko hm)
 obtain ⟨an, cn, rfl, -⟩ := nmAt_sl.1 hO
 obtain ⟨qn, hqn⟩ : ∃ k, (List.map strV n).length = k := ⟨_, rfl⟩
 rw [hqn] at HCD ⊢
 have HAT := qH0 (show atR rs n t b = if dataM rs n t ≠ [] then ⟨1, dataM rs n t, [], b, []⟩ else if dataM rs n 5 ≠ [] then ⟨5, (dataM rs n 5).take 1, headR (dataM rs n 5), b, []⟩ else ⟨2, [], [], b, []⟩ from rfl)
 unfold qdF at HCD
 generalize atR rs n t b = res at *
 have C1 := qH0 (fun W hb => HCD.out t W hb)
 have C2 := qH0 (fun W hb => HCD.out 5 W hb)
 obtain ⟨D1, hD1⟩ : ∃ d, dataM rs n t = d := ⟨_, rfl⟩
 obtain ⟨D2, hD2⟩ : ∃ d, dataM rs n 5 = d := ⟨_, rfl⟩
 rw [hD1] at HAT C1
 rw [hD2] at HAT C2 hone
 have HONE := qH0 hone; have HB00 := qH0 hb0
 clear hO hko hqn h hb0 HCD hD1 hD2 hone
 have hBz := (Below.refl w.heap.size w).alloc (qN0) (.cells #[.slice za zn zc, .slice v1 m c] 60)
 have hX := knew w (.cells #[.slice za zn zc, .slice v1 m c] 60)
 obtain ⟨W0, hW0⟩ : ∃ W, w.alloc (.cells #[.slice za zn zc, .slice v1 m c] 60) = W := ⟨_, rfl⟩
 rw [hW0] at hX hBz
 have hzs : W0.heap.size = w.heap.size + 1 := by rw [← hW0]; simp
 have hBr := (Below.refl W0.heap.size W0).alloc (qN0) (.cells #[.int .i64 0, .slice none 0 0, .slice none 0 0, .bool false, .slice none 0 0] 88)
 have hXr := knew W0 (.cells #[.int .i64 0, .slice none 0 0, .slice none 0 0, .bool false, .slice none 0 0] 88)
 obtain ⟨W1, hW1⟩ : ∃ W, W0.alloc (.cells #[.int .i64 0, .slice none 0 0, .slice none 0 0, .bool false, .slice none 0 0] 88) = W := ⟨_, rfl⟩
 rw [hW1] at hXr hBr
 have HS1 := qH0 (show W1.heap.size = w.heap.size + 2 by rw [← hW1]; simp; omega)
 have HZ1 := qH0 ((hBr.block _ (qaa hX)).trans hX)
 have HX1 := qH0 hXr
 have HB1 := qH0 (qB0 hBz hBr)
 have hc := C1.out W1 HB1.out
 have y0 := kcell HZ1.out 0 _ rfl; have y1 := kcell HZ1.out 1 _ rfl
 have HZS := qH0 hzs
 clear hBz hX hBr hXr C1 hzs
 go_enter Tryz.func98, Tryz.ntmps98
 go_wp2_with fail
 refine hc.mono ?_
 rintro e w2 ⟨vd, rfl, hf2, hb2⟩
 obtain ⟨css2, hs2, hd2⟩ := hf2 w2 (FarKeep.refl _ _)
 obtain ⟨sa, sc, rfl, -⟩ := id hs2
 have hl2 : css2.length = D1.length := hd2.1
 obtain ⟨nd, hnd⟩ : ∃ k, D1.length = k := ⟨_, rfl⟩
 rw [hl2, hnd] at hf2
 rw [hl2, hnd]
 have HF2 := qH0 hf2
 have HX2 := qH0 ((hb2.block _ (qaa HX1.out)).trans HX1.out)
 have hz2 := (hb2.block _ (qaa HZ1.out)).trans HZ1.out
 have HB2 := qH0 (qB0 HB1.out hb2)
 have HW2 := qH0 hb2.size
 have y0 := kcell hz2 0 _ rfl; have y1 := kcell hz2 1 _ rfl
 have hc2 := C2.out w2 HB2.out
 clear hc hf2 hb2 hs2 hd2 hl2 HX1 HZ1 HB1 C2 hz2
 by_cases hD : D1 = []
 ·obtain rfl : nd = 0 := by rw [← hnd, hD]; rfl
  have HAT2 : Hid (res = if D2 ≠ [] then ⟨5, D2.take 1, headR D2, b, []⟩ else ⟨2, [], [], b, []⟩) := qH0 (by rw [HAT.out, if_neg (by simp [hD])])
  clear HAT HF2 hnd hD
  go_wp2_with fail
  refine hc2.mono ?_
  rintro e w3 ⟨vd, rfl, hf3, hb3⟩
  obtain ⟨css3, hs3, hd3⟩ := hf3 w3 (FarKeep.refl _ _)
  obtain ⟨ta, tc, rfl, -⟩ := id hs3
  have hl3 : css3.length = D2.length := hd3.1
  obtain ⟨ne, hne⟩ : ∃ k, D2.length = k := ⟨_, rfl⟩
  rw [hl3, hne] at hf3
  rw [hl3, hne]
  have HF3 := qH0 hf3
  have HX3 := qH0 ((hb3.block _ (qaa HX2.out)).trans HX2.out)
  have HB3 := qH0 (qB0 HB2.out hb3)
  obtain ⟨z0, z1, z2, z3, z4, u0, u1, u2, u3, u4⟩ := qK5 HX3.out
  clear hc2 hf3 hb3 hs3 hd3 hl3 HX2 HB2 y0 y1
  by_cases hE : D2 = []
  ·obtain rfl : ne = 0 := by rw [← hne, hE]; rfl
   have HAT3 : Hid (res = ⟨2, [], [], b, []⟩) := qH0 (by rw [HAT2.out, if_neg (by simp [hE])])
   clear HAT2 hne hE
   go_wp2
   refine bodyPost_ret (lr_fin rfl _ HX3.out rfl) rfl ?_
   rw [HAT3.out]
   exact ⟨_, rfl, fun W' hk _ => qbb W' 2 b, qas HB3.out (by have := HZS.out; omega) _ _ _ _ _⟩
  ·have hl0 : 0 < D2.length := List.length_pos_iff.2 hE
   have HAT3 : Hid (res = ⟨5, D2.take 1, headR D2, b, []⟩) := qH0 (by rw [HAT2.out, if_pos hE])
   obtain ⟨x, hx, -⟩ := HONE.out D2[0] (List.getElem_mem hl0)
   have hrow := HF3.out w3 (FarKeep.refl _ _)
   obtain ⟨B, off, g, go, mm, kk, v0, rfl, -, hnc, hmm, hnm, hk1, hk2⟩ := qf0 hrow hl0 (by rw [hx]; simp)
   have hh : headR D2 = D2[0].names.headD [] := by
    unfold headR
    rw [List.head?_eq_getElem?, List.getElem?_eq_getElem hl0]; rfl
   rw [← hh] at hnm
   have HNM := qH0 hnm
   have k1 := hk1 w3 (qL0)
   have k2 := hk2 w3 (qB0 HB00.out HB3.out)
   have hz : (0 : Int) < (ne : Int) := by omega
   have hz1 : (1 : Int) ≤ (ne : Int) := by omega
   have hz2 : (1 : Int) ≤ (tc : Int) := by omega
   have hz3 : (0 : Int) < (mm : Int) := by omega
   obtain ⟨a0, c0, rfl, -⟩ := nmAt_sl.1 hnm
   have HL0 := qH0 hl0
   rw [show off + 0 * 5 + 1 = off + 1 by omega] at k1 hk1
   generalize (List.map strV (headR D2)).length = hq at *
   clear hrow hnm hh hx hne hE HAT2 hl0
   have HNB := qH0 (qkr (X := W0.heap.size) (n := W1.heap.size) (by have := HS1.out; have := HZS.out; omega) HX3.out (fun W' hW => HF3.out W' (hW.mono HW2.out)) HL0.out)
   have HNG := qH0 (show g ≠ W0.heap.size from fun e => by
    have h1 := World.block_lt_of_cell? w0 ⟨g, go, none⟩ (hk2 w0 (qL0))
    have h2 := HB00.out.size; have h3 := HZS.out
    simp only at h1; omega)
   have KP := qH0 (fun (W : World) (i : Nat) (v : Value) (h : W.cell? ⟨B, off + 1, none⟩ = some (.slice (some ⟨g, go, none⟩) mm kk) ∧ W.cell? ⟨g, go, none⟩ = some (.slice a0 hq c0)) => (show (W.setCell ⟨W0.heap.size, i, none⟩ v).cell? ⟨B, off + 1, none⟩ = some (.slice (some ⟨g, go, none⟩) mm kk) ∧ (W.setCell ⟨W0.heap.size, i, none⟩ v).cell? ⟨g, go, none⟩ = some (.slice a0 hq c0) from
    ⟨(World.cell?_setCell_far W ⟨W0.heap.size, i, none⟩ ⟨B, off + 1, none⟩ v (fun e => HNB.out e.symm)).trans h.1, (World.cell?_setCell_far W ⟨W0.heap.size, i, none⟩ ⟨g, go, none⟩ v (fun e => HNG.out e.symm)).trans h.2⟩))
   have KR := qH0 (fun (W : World) (h : W.cell? ⟨B, off + 1, none⟩ = some (.slice (some ⟨g, go, none⟩) mm kk) ∧ W.cell? ⟨g, go, none⟩ = some (.slice a0 hq c0)) => (show W.drew.cell? ⟨B, off + 1, none⟩ = some (.slice (some ⟨g, go, none⟩) mm kk) ∧ W.drew.cell? ⟨g, go, none⟩ = some (.slice a0 hq c0) from h))
   have hS0 := And.intro k1 k2
   clear hk1 hk2 k1 k2
   go_wp2_with fail
   go_region_held3 (fun W => W.cell? ⟨B, off + 1, none⟩ = some (.slice (some ⟨g, go, none⟩) mm kk) ∧ W.cell? ⟨g, go, none⟩ = some (.slice a0 hq c0))
    (first | with_reducible assumption | (with_reducible exact KR.out _ (by with_reducible assumption)) | (with_reducible exact KR.out _ (KP.out _ _ _ (KP.out _ _ _ (KP.out _ _ _ (KP.out _ _ _ (KP.out _ _ _ (by with_reducible assumption))))))) | (with_reducible exact KP.out _ _ _ (KP.out _ _ _ (KP.out _ _ _ (KP.out _ _ _ (KP.out _ _ _ (by with_reducible assumption)))))))
    (fail)
   all_goals
    go_wp2
    refine bodyPost_ret (qne rfl _ (qc2 HX3.out (.int .i64 5) (.slice (some ⟨B, off, none⟩) 1 tc) (.slice a0 hq c0) (.bool b) (.slice none 0 0)) rfl) rfl ?_
    rw [HAT3.out]
    refine ⟨_, rfl, fun W' hk hw => ?_, qka (qas HB3.out (show w.heap.size ≤ W0.heap.size by have := HZS.out; omega) _ _ _ _ _)⟩
    have hk2 := qmf hk
    have hfs := HF3.out W' ((qaR _ (by have := HZS.out; have := HS1.out; have := HW2.out; omega) _ _ _ _ _).trans (qar _ _ _ _ _ _ _).size (hk2.mono (by have := HS1.out; have := HW2.out; omega)))
    exact ⟨(some ⟨B, off, none⟩, 1, tc), (a0, hq, c0), (none, 0, 0), rfl, (Dts.dtsR hfs hw).firstC HL0.out, HNM.out.below hw, GlR.nil W'⟩
 ·have HAT2 : Hid (res = ⟨1, D1, [], b, []⟩) := qH0 (by rw [HAT.out, if_pos hD])
  have hz : (0 : Int) < (nd : Int) := by have := List.length_pos_iff.2 hD; omega
  obtain ⟨z0, z1, z2, z3, z4, u0, u1, u2, u3, u4⟩ := qK5 HX2.out
  clear HAT hnd hD hc2 y0 y1
  go_wp2
  refine bodyPost_ret (lr_fin rfl _ HX2.out rfl) rfl ?_
  rw [HAT2.out]
  refine ⟨_, rfl, fun W' hk hw => ?_, qas HB2.out (by have := HZS.out; omega) _ _ _ _ _⟩
  have hfs := HF2.out W' ((qaR _ (by have := HZS.out; have := HS1.out; omega) _ _ _ _ _).trans (qar _ _ _ _ _ _ _).size (hk.mono (by have := HS1.out; omega)))
  exact ⟨(sa, nd, sc), (none, 0, 0), (none, 0, 0), rfl, Dts.dtsR hfs hw, (OwnG.nmAt (OwnG.nil W' 0) : NmAt W' (.slice none 0 0) []), GlR.nil W'⟩
theorem Dts.append {W : World} {a b : List (List Value)} {l m : List Dat} (h : Dts W a l) (g : Dts W b m) : Dts W (a ++ b) (l ++ m) := by
 refine ⟨by simp [h.1, g.1], fun i h1 h2 => ?_⟩
 by_cases hi : i < a.length
 ·have hi2 : i < l.length := by have := h.1; omega
  rw [List.getElem_append_left hi, List.getElem_append_left hi2]
  exact h.2 i hi hi2
 ·have hl := h.1
  have hi2 : ¬ i < l.length := by omega
  rw [List.length_append] at h1 h2
  rw [List.getElem_append_right (by omega), List.getElem_append_right (by omega)]
  have e : i - a.length = i - l.length := by rw [hl]
  simp only [e]
  exact g.2 (i - l.length) (by omega) (by omega)
def GlueD (w0 w : World) (ds : List Dat) (e : Ending) (w' : World) : Prop := ∃ v css, e = .returned v ∧ OwnC 5 107 w' w.heap.size v css ∧ Dts w0 css ds ∧ Below w.heap.size w w'
theorem qlX {w0 w : World} {za v1 : Option Addr} {zn zc m c : Nat} {o n : Nm} {rs : List Rc} {vn : Value} (h : ZonS w0 za zn zc v1 m c o rs) (hb0 : Below w0.heap.size w0 w) (hO : NmAt w vn n) (hko : NmOK n) (hm : m ≤ 1000000) :
 Calls Tryz.prog 43 #[.agg #[.slice za zn zc, .slice v1 m c], vn] w (GlueD w0 w (glueM rs n)) := by
 have hln : rs.length = m := by
  obtain ⟨-, -, ⟨css, ⟨_, _, e, -⟩, h2⟩, -⟩ := id h
  injection e with _ e _
  rw [e]; exact h2.1.symm
 have HCD := qH0 (fun (t : Int) (W : World) (hb : Below w.heap.size w W) => qlt t h (qB0 hb0 hb) (hO.below hb) hko hm)
 obtain ⟨an, cn, rfl, -⟩ := nmAt_sl.1 hO
 obtain ⟨qn, hqn⟩ : ∃ k, (List.map strV n).length = k := ⟨_, rfl⟩
 rw [hqn] at HCD ⊢
 have HL1 := qH0 (show (dataM rs n 1).length ≤ 1000000 by have := qbO rs n 1; unfold dataM; omega)
 have HL2 := qH0 (show (dataM rs n 28).length ≤ 1000000 by have := qbO rs n 28; unfold dataM; omega)
 have HG := qH0 (show glueM rs n = dataM rs n 1 ++ dataM rs n 28 from rfl)
 unfold qji at HCD
 generalize glueM rs n = res at *
 have C1 := qH0 (fun W hb => HCD.out 1 W hb)
 have C2 := qH0 (fun W hb => HCD.out 28 W hb)
 obtain ⟨D1, hD1⟩ : ∃ d, dataM rs n 1 = d := ⟨_, rfl⟩
 obtain ⟨D2, hD2⟩ : ∃ d, dataM rs n 28 = d := ⟨_, rfl⟩
 rw [hD1] at HL1 HG C1
 rw [hD2] at HL2 HG C2
 clear hO hko hqn h hb0 HCD hD1 hD2 hln
 have hBz := (Below.refl w.heap.size w).alloc (qN0) (.cells #[.slice za zn zc, .slice v1 m c] 60)
 obtain ⟨W0, hW0⟩ : ∃ W, w.alloc (.cells #[.slice za zn zc, .slice v1 m c] 60) = W := ⟨_, rfl⟩
 have hX := knew w (.cells #[.slice za zn zc, .slice v1 m c] 60)
 rw [hW0] at hX hBz
 have HX := qH0 hX; have HBZ := qH0 hBz
 have hzs : W0.heap.size = w.heap.size + 1 := by rw [← hW0]; simp
 have HZS := qH0 hzs
 have KC := qH0 (fun W (hb : Below W0.heap.size W0 W) => (show (W.cell? ⟨w.heap.size, 0, none⟩ = some (.slice za zn zc) ∧ W.cell? ⟨w.heap.size, 1, none⟩ = some (.slice v1 m c) ∧ Below W0.heap.size W0 W) from
  ⟨kcell ((hb.block _ (qaa HX.out)).trans HX.out) 0 _ rfl, kcell ((hb.block _ (qaa HX.out)).trans HX.out) 1 _ rfl, hb⟩))
 have KR := qH0 (fun W (h : W.cell? ⟨w.heap.size, 0, none⟩ = some (.slice za zn zc) ∧ W.cell? ⟨w.heap.size, 1, none⟩ = some (.slice v1 m c) ∧ Below W0.heap.size W0 W) => KC.out W.drew (h.2.2.trans ⟨rfl, rfl, rfl, qN0, fun _ _ => rfl⟩))
 have KA := qH0 (fun W o (h : W.cell? ⟨w.heap.size, 0, none⟩ = some (.slice za zn zc) ∧ W.cell? ⟨w.heap.size, 1, none⟩ = some (.slice v1 m c) ∧ Below W0.heap.size W0 W) => KC.out (W.alloc o) (h.2.2.alloc h.2.2.size o))
 have KS := qH0 (fun W W' (h : W.cell? ⟨w.heap.size, 0, none⟩ = some (.slice za zn zc) ∧ W.cell? ⟨w.heap.size, 1, none⟩ = some (.slice v1 m c) ∧ Below W0.heap.size W0 W) (hb : Below W.heap.size W W') => KC.out W' (h.2.2.trans (hb.mono h.2.2.size)))
 have hS0 := KC.out W0 (qL0)
 have hbD : Below W0.heap.size W0 W0.drew := ⟨rfl, rfl, rfl, qN0, fun _ _ => rfl⟩
 have hbE : Below W0.heap.size W0 (W0.alloc (.cells #[] 107)).drew := hbD.alloc (qN0) _
 have HC1E := qH0 (C1.out _ (qB0 HBZ.out hbE))
 have HC1D := qH0 (C1.out _ (qB0 HBZ.out hbD))
 have HOE := qH0 (show OwnC 5 107 (W0.alloc (.cells #[] 107)).drew W0.heap.size (.slice (some ⟨W0.heap.size, 0, none⟩) 0 0) [] from qaB 5 107 W0.drew)
 have HBE := qH0 hbE; have HBD := qH0 hbD
 have HA1 := qH0 (fun (W : World) (g : Option Addr) (p q : Nat) (v : Option Addr) (ds : List (List Value)) (ho : OwnC 5 107 W W0.heap.size (.slice g 0 0) []) (hs : SlK W (.slice v p q) ds) (hd : Dts w0 ds D1) (hb : Below W0.heap.size W0 W) (ops : Array Oper) (o : Oper) (a : Act) (K : Act → World → Prop) (Q : Exit → Act → World → Prop) (E : Prop) (h1 : o.guard = none) (h2 : o.op = .call { callee := .builtin .append, args := #[.tmp 5, .tmp 8], argTypes := #[39, 39] }) (h3 : a.eval (.tmp 5) = .slice g 0 0) (h4 : a.eval (.tmp 8) = .slice v p q) h => qbp (ops := ops) (a := a) (K := K) (Q := Q) (E := E) W h1 (.tmp 5) (.tmp 8) qa3 (by decide) h2 W0.heap.size _ [] h3 ho _ ds h4 hs (qbS hd) (qdq hd) hb.size (by have h8 := HL1.out; have h9 := hd.1; simp only [List.length_nil]; unfold maxLen; omega) (by have h8 := HL1.out; have h9 := hd.1; simp only [List.length_nil]; omega) h)
 have HA2 := qH0 (fun (W : World) (x : Value) (p q : Nat) (v : Option Addr) (ds es : List (List Value)) (ho : OwnC 5 107 W W0.heap.size x ds) (hd1 : Dts w0 ds D1) (hs : SlK W (.slice v p q) es) (hd : Dts w0 es D2) (hb : Below W0.heap.size W0 W) (ops : Array Oper) (o : Oper) (a : Act) (K : Act → World → Prop) (Q : Exit → Act → World → Prop) (E : Prop) (h1 : o.guard = none) (h2 : o.op = .call { callee := .builtin .append, args := #[.tmp 9, .tmp 12], argTypes := #[39, 39] }) (h3 : a.eval (.tmp 9) = x) (h4 : a.eval (.tmp 12) = .slice v p q) h => qbp (ops := ops) (a := a) (K := K) (Q := Q) (E := E) W h1 (.tmp 9) (.tmp 12) qa3 (by decide) h2 W0.heap.size _ ds h3 ho _ es h4 hs (qbS hd) (qdq hd) hb.size (by have h8 := HL1.out; have h9 := hd.1; have h10 := HL2.out; have h11 := hd1.1; unfold maxLen; omega) (by have h8 := HL1.out; have h9 := hd.1; have h10 := HL2.out; have h11 := hd1.1; omega) h)
 have y0 := hS0.1; have y1 := hS0.2.1
 clear hX hBz hzs hbE hbD
 go_enter Tryz.func43, Tryz.ntmps43
 go_wp2_with fail
 clear hW0
 go_region_held3 (fun W => W.cell? ⟨w.heap.size, 0, none⟩ = some (.slice za zn zc) ∧ W.cell? ⟨w.heap.size, 1, none⟩ = some (.slice v1 m c) ∧ Below W0.heap.size W0 W)
  (first | with_reducible assumption | (with_reducible exact KR.out _ (by with_reducible assumption)) | (with_reducible exact KA.out _ _ (by with_reducible assumption)) | (with_reducible exact KR.out _ (KA.out _ _ (by with_reducible assumption))) | (with_reducible exact KA.out _ _ (KR.out _ (by with_reducible assumption))))
  (first
    | ((with_reducible refine (HC1E.out).mono ?_); rintro e w7 ⟨v7, ds7, rfl, hs7, hd7, hb7⟩; have hS7 := KS.out _ _ (KC.out _ HBE.out) hb7; obtain ⟨va, vc, rfl, -⟩ := id hs7; generalize List.length ds7 = nd at hs7; have HO7 := qH0 (OwnK.below HOE.out hb7); have HS7 := qH0 hs7; have HD7 := qH0 hd7; have HB7 := qH0 hS7.2.2; have hS2 := hS7; clear hs7 hd7 hb7)
    | ((with_reducible refine (HC1D.out).mono ?_); rintro e w7 ⟨v7, ds7, rfl, hs7, hd7, hb7⟩; have hS7 := KS.out _ _ (KC.out _ HBD.out) hb7; obtain ⟨va, vc, rfl, -⟩ := id hs7; generalize List.length ds7 = nd at hs7; have hbx := (Below.refl w7.heap.size w7).alloc (qN0) (.cells #[] 107); have HO8 := qH0 (OwnK.weaken (qaB 5 107 w7) hS7.2.2.size); have HS8 := qH0 (hs7.below hbx); have HD7 := qH0 hd7; have HB8 := qH0 (KA.out w7 (.cells #[] 107) hS7).2.2; have hS2 := hS7; clear hs7 hd7 hb7 hbx)
    | ((with_reducible refine HA1.out _ _ _ _ _ _ HO7.out HS7.out HD7.out HB7.out _ _ _ _ _ _ ?_ ?_ ?_ ?_ ?_); exact rfl; exact rfl; exact rfl; exact rfl; intro v8 w8 ho8 hg8; rw [List.nil_append] at ho8; have hb8 := HB7.out.grown hg8 HB7.out.size (OwnK.base_le HO7.out); have hS2 := KC.out _ hb8; have HO9 := qH0 ho8; have HC2 := qH0 (C2.out w8 (qB0 HBZ.out hb8)); clear ho8 hg8)
    | ((with_reducible refine HA1.out _ _ _ _ _ _ HO8.out HS8.out HD7.out HB8.out _ _ _ _ _ _ ?_ ?_ ?_ ?_ ?_); exact rfl; exact rfl; exact rfl; exact rfl; intro v8 w8 ho8 hg8; rw [List.nil_append] at ho8; have hb8 := HB8.out.grown hg8 HB8.out.size (OwnK.base_le HO8.out); have hS2 := KC.out _ hb8; have HO9 := qH0 ho8; have HC2 := qH0 (C2.out w8 (qB0 HBZ.out hb8)); clear ho8 hg8)
    | ((with_reducible refine (HC2.out).mono ?_); rintro e w9 ⟨v9, ds9, rfl, hs9, hd9, hb9⟩; have hS9 := KS.out _ _ (by with_reducible assumption) hb9; obtain ⟨vb, vd, rfl, -⟩ := id hs9; generalize List.length ds9 = ne at hs9; have HOA := qH0 (OwnK.below HO9.out hb9); have HS9 := qH0 hs9; have HD9 := qH0 hd9; have HB9 := qH0 hS9.2.2; have hS2 := hS9; clear hs9 hd9 hb9)
    | ((with_reducible refine HA2.out _ _ _ _ _ _ _ HOA.out HD7.out HS9.out HD9.out HB9.out _ _ _ _ _ _ ?_ ?_ ?_ ?_ ?_); exact rfl; exact rfl; exact rfl; exact rfl; intro v10 w10 ho10 hg10; have hb10 := HB9.out.grown hg10 HB9.out.size (OwnK.base_le HOA.out); have hS2 := KC.out _ hb10; have HOZ := qH0 ho10; have HBF := qH0 hb10; obtain ⟨az, cz, ez⟩ := OwnK.shape ho10; generalize List.length (ds7 ++ _) = nz at ez; subst ez; clear ho10 hg10))
 all_goals
  go_wp2_with fail
  go_ret
  exact ⟨_, _, rfl, OwnK.weaken HOZ.out (by have := HZS.out; omega), by rw [HG.out]; exact HD7.out.append HD9.out, qB0 HBZ.out HBF.out⟩
def RHt (w0 W : World) (base : Nat) (gss : List (List Value)) (gl : List (Nm × List Dat)) : Prop := gss.length = gl.length ∧ ∀ j (h1 : j < gss.length) (h2 : j < gl.length), ∃ (x0 x1 : Option Addr × Nat × Nat) (css : List (List Value)), gss[j] = [slW x0, slW x1] ∧ NmAt w0 (slW x0) gl[j].1 ∧ OwnC 5 107 W base (slW x1) css ∧ Dts w0 css gl[j].2
theorem RHt.below {w0 W W' : World} {base : Nat} {gss : List (List Value)} {gl : List (Nm × List Dat)} (h : RHt w0 W base gss gl) (hb : Below W.heap.size W W') : RHt w0 W' base gss gl := by
 refine ⟨h.1, fun j a b => ?_⟩
 obtain ⟨x0, x1, css, e, h1, h2, h3⟩ := h.2 j a b
 exact ⟨x0, x1, css, e, h1, OwnK.below h2 hb, h3⟩
theorem RHt.move {w0 W W' : World} {base : Nat} {gss : List (List Value)} {gl : List (Nm × List Dat)} (h : RHt w0 W base gss gl) (hb : FarKeep base W W') : RHt w0 W' base gss gl := by
 refine ⟨h.1, fun j a b => ?_⟩
 obtain ⟨x0, x1, css, e, h1, h2, h3⟩ := h.2 j a b
 exact ⟨x0, x1, css, e, h1, OwnK.move h2 hb, h3⟩
theorem RHt.grown {w0 W W' : World} {base base' : Nat} {gss : List (List Value)} {gl : List (Nm × List Dat)} {v' : Value} {yss : List (List Value)} (h : RHt w0 W base gss gl) (h' : OwnC 2 155 W base' v' yss) (hg : W.grownBy W' v'.ownBlock) : RHt w0 W' base gss gl := by
 refine ⟨h.1, fun j a b => ?_⟩
 obtain ⟨x0, x1, css, e, h1, h2, h3⟩ := h.2 j a b
 exact ⟨x0, x1, css, e, h1, OwnK.kept_cc h2 h' (by decide) hg, h3⟩
theorem RHt.len2 {w0 W : World} {base : Nat} {gss : List (List Value)} {gl : List (Nm × List Dat)} (h : RHt w0 W base gss gl) : ∀ cs ∈ gss, cs.length = 2 := fun cs hc => by
 obtain ⟨i, hi, rfl⟩ := List.mem_iff_getElem.1 hc
 obtain ⟨_, _, _, e, _⟩ := h.2 i hi (by have := h.1; omega)
 rw [e]; rfl
theorem RHt.snoc {w0 W : World} {base : Nat} {gss : List (List Value)} {gl : List (Nm × List Dat)} {x0 x1 : Option Addr × Nat × Nat} {css : List (List Value)} {g : Nm × List Dat} (h : RHt w0 W base gss gl) (h1 : NmAt w0 (slW x0) g.1) (h2 : OwnC 5 107 W base (slW x1) css) (h3 : Dts w0 css g.2) : RHt w0 W base (gss ++ [[slW x0, slW x1]]) (gl ++ [g]) := by
 refine ⟨by simp [h.1], fun j a b => ?_⟩
 by_cases hj : j < gss.length
 ·rw [List.getElem_append_left hj]
  have e2 : (gl ++ [g])[j] = gl[j]'(by have := h.1; omega) := List.getElem_append_left (by have := h.1; omega)
  rw [e2]
  exact h.2 j hj (by have := h.1; omega)
 ·obtain rfl : j = gss.length := by simp at a; omega
  have e1 : (gss ++ [[slW x0, slW x1]])[gss.length]'a = [slW x0, slW x1] := by simp
  have e2 : (gl ++ [g])[gss.length]'b = g := by simp [h.1]
  rw [e1, e2]
  exact ⟨x0, x1, css, rfl, h1, h2, h3⟩
theorem RHt.nil (w0 W : World) (base : Nat) : RHt w0 W base [] [] := ⟨rfl, fun j a => absurd a (by simp)⟩
theorem RHt.glR {w0 W : World} {base : Nat} {v : Value} {gss : List (List Value)} {gl : List (Nm × List Dat)} (ho : OwnC 2 155 W base v gss) (h : RHt w0 W base gss gl) (hb : Below w0.heap.size w0 W) : GlR W v gl := by
 refine ⟨gss, SlK.of_own ho h.len2, h.1, fun j a b => ?_⟩
 obtain ⟨x0, x1, css, e, h1, h2, h3⟩ := h.2 j a b
 exact ⟨x0, x1, e, h1.below hb, Dts.dtsR ⟨css, SlK.of_own h2 (qbS h3), h3⟩ hb⟩
def HtPost (w0 w : World) (gl : List (Nm × List Dat)) (e : Ending) (w' : World) : Prop := ∃ v, e = .returned v ∧ (∀ W', FarKeep w.heap.size w' W' → Below w0.heap.size w0 W' → GlR W' v gl) ∧ Below w.heap.size w w'
def hadR (gl : List (Nm × List Dat)) (h : Nm) : Bool := gl.any fun g => decide (textN g.1 = textN h)
theorem qdw (rs : List Rc) : ∀ (l : List Nm) (out : List (Nm × List Dat)) (h : Nm), hintsR rs (l ++ [h]) out = if hadR (hintsR rs l out) h = false ∧ glueM rs h ≠ [] then hintsR rs l out ++ [(h, glueM rs h)] else hintsR rs l out
 | [], out, h => rfl
 | x :: r, out, h => by
  rw [List.cons_append]
  unfold hintsR
  split
  ·exact qdw rs r _ h
  ·exact qdw rs r _ h
theorem qlO (gl : List (Nm × List Dat)) (k : Nat) (h : Nm) (hk : k < gl.length) : hadR (gl.take (k + 1)) h = (hadR (gl.take k) h || decide (textN gl[k].1 = textN h)) := by
 unfold hadR
 rw [List.take_succ_eq_append_getElem hk, List.any_append]
 simp
theorem qkg : ElemK 2 155 86 48 := ⟨Tryz.underlying86, _, _, rfl, rfl, rfl, rfl, rfl⟩
theorem qeu (rs : List Rc) : ∀ (l : List Nm) (out : List (Nm × List Dat)), ∀ g ∈ hintsR rs l out, g ∈ out ∨ g.1 ∈ l
 | [], out, g, hg => .inl hg
 | x :: r, out, g, hg => by
  unfold hintsR at hg
  split at hg
  ·rcases qeu rs r _ g hg with h | h
   ·rcases List.mem_append.1 h with h | h
    ·exact .inl h
    ·rw [List.mem_singleton.1 h]; exact .inr (by simp)
   ·exact .inr (List.mem_cons_of_mem x h)
  ·rcases qeu rs r _ g hg with h | h
   ·exact .inl h
   ·exact .inr (List.mem_cons_of_mem x h)
theorem qkS {w0 w : World} {za v1 : Option Addr} {zn zc m c : Nat} {o : Nm} {rs : List Rc} {vl : Value} {ds : List Dat} (h : ZonS w0 za zn zc v1 m c o rs) (hb0 : Below w0.heap.size w0 w) (hL : ∃ css, SlK w vl css ∧ Dts w0 css ds) (hone : ∀ d ∈ ds, ∃ x, d.names = [x] ∧ checkN x = 0) (hok : ∀ n ∈ headsR ds, NmOK n) (hm : m ≤ 1000000) (hl : ds.length ≤ 1000000) :
 Calls Tryz.prog 96 #[.agg #[.slice za zn zc, .slice v1 m c], vl] w (HtPost w0 w (hintsR rs (headsR ds) [])) := by
 have HG := qH0 (fun (vn : Value) (n : Nm) (hO : NmAt w0 vn n) (hko : NmOK n) (W : World) (hb : Below w.heap.size w W) => qlX h (qB0 hb0 hb) (hO.below (qB0 hb0 hb)) hko hm)
 obtain ⟨la, lc, rfl⟩ : ∃ la lc, vl = .slice la ds.length lc := by
  obtain ⟨css, ⟨a, c, e, _⟩, h2⟩ := hL
  exact ⟨a, c, by rw [e, h2.1]⟩
 have HL := qH0 hL; have HONE := qH0 hone; have HOK := qH0 hok; have HB00 := qH0 hb0
 obtain ⟨nd, hnd⟩ : ∃ k, ds.length = k := ⟨_, rfl⟩
 rw [hnd] at HL hl ⊢
 have HND := qH0 hnd
 clear h hb0 hL hone hok hm hnd
 have hBz := (Below.refl w.heap.size w).alloc (qN0) (.cells #[.slice za zn zc, .slice v1 m c] 60)
 have hX := knew w (.cells #[.slice za zn zc, .slice v1 m c] 60)
 obtain ⟨W0, hW0⟩ : ∃ W, w.alloc (.cells #[.slice za zn zc, .slice v1 m c] 60) = W := ⟨_, rfl⟩
 rw [hW0] at hX hBz
 have HZS := qH0 (show W0.heap.size = w.heap.size + 1 by rw [← hW0]; simp)
 have HX := qH0 hX; have HBZ := qH0 hBz
 clear hX hBz
 go_enter Tryz.func96, Tryz.ntmps96
 go_wp2_with fail
 go_loopw [5, 6] (fun vo vi wr => ∃ (i q : Nat) (ga : Option Addr) (gc : Nat) (gss : List (List Value)), vo = .slice ga q gc ∧ vi = .int .i64 i ∧ i ≤ nd ∧ q ≤ i ∧ Hid (gss.length = q) ∧ Hid (OwnC 2 155 wr W0.heap.size (.slice ga q gc) gss) ∧ Hid (RHt w0 wr W0.heap.size gss (hintsR rs ((headsR ds).take i) [])) ∧ Hid (Below W0.heap.size W0 wr)) (fun _ vi _ => nd - (intOf vi).toNat)
 case atStart => exact ⟨0, 0, none, 0, [], rfl, rfl, Nat.zero_le _, Nat.zero_le _, qH0 rfl, qH0 (OwnK.nil _ _), qH0 (RHt.nil _ _ _), qH0 (qL0)⟩
 case round =>
  obtain ⟨i, q, ga, gc, gss, rfl, rfl, hi, hq, HQ, HO, HR, HB⟩ := hrel
  obtain ⟨wz, hwz⟩ : ∃ W, W = wr := ⟨_, rfl⟩
  subst hwz
  have HBW := qH0 (qB0 HBZ.out HB.out)
  by_cases hlt : i < nd
  ·have hltz : (i : Int) < (nd : Int) := by omega
   have hid : i < ds.length := by have := HND.out; omega
   obtain ⟨x, hx, hcx⟩ := HONE.out ds[i] (List.getElem_mem hid)
   obtain ⟨B, off, g, go, mm, kk, v0, rfl, -, hnc, hmm, hnm, hk1, hk2⟩ := qf0 HL.out hid (by rw [hx]; simp)
   have hhx : ds[i].names.headD [] = x := by rw [hx]; rfl
   rw [hhx] at hnm
   have hhi : (headsR ds)[i]? = some x := by unfold headsR; rw [List.getElem?_map, List.getElem?_eq_getElem hid]; simp [hx]
   have k1 := hk1 wz HBW.out
   have k2 := hk2 wz (qB0 HB00.out HBW.out)
   have HK := qH0 (HOK.out x (List.mem_of_getElem? hhi))
   have HST := qH0 (show hintsR rs ((headsR ds).take (i + 1)) [] = if hadR (hintsR rs ((headsR ds).take i) []) x = false ∧ glueM rs x ≠ [] then hintsR rs ((headsR ds).take i) [] ++ [(x, glueM rs x)] else hintsR rs ((headsR ds).take i) [] by
    rw [← qdw]; congr 1; rw [List.take_add_one, hhi]; rfl)
   have HNM := qH0 hnm
   have hg := HG.out v0 x hnm HK.out
   obtain ⟨a0, c0, rfl, -⟩ := nmAt_sl.1 hnm
   have HGL := qH0 hg
   have hmz : (0 : Int) < (mm : Int) := by omega
   have HMO := qH0 (show ∀ g ∈ hintsR rs ((headsR ds).take i) [], NmOK g.1 from fun g hg => by
    rcases qeu rs _ _ g hg with h | h
    ·cases h
    ·exact HOK.out _ (List.mem_of_mem_take h))
   clear hnm hk1 hk2 hx hhx hg hhi hid
   generalize hintsR rs ((headsR ds).take i) [] = out at *
   generalize (List.map strV x).length = xl at *
   have HOQ := qH0 (show out.length = q by rw [← HR.out.1]; exact HQ.out)
   have HSL := qH0 (SlK.of_own HO.out HR.out.len2)
   go_wp2_with fail
   go_loopw [8, 9] (fun vh vk wr => ∃ k : Nat, vk = .int .i64 k ∧ vh = .bool (hadR (out.take k) x) ∧ k ≤ q ∧ Hid (Below wz.heap.size wz wr)) (fun _ vk _ => q - (intOf vk).toNat)
   case atStart => exact ⟨0, rfl, rfl, Nat.zero_le _, qH0 (qL0)⟩
   case round =>
    obtain ⟨k, rfl, rfl, hkq, HBQ⟩ := hrel
    by_cases hklt : k < q
    ·have hkz : (k : Int) < (q : Int) := by omega
     have hko : k < out.length := by have := HOQ.out; omega
     have hkg : k < gss.length := by have := HQ.out; omega
     have hhs := qlO out k x hko
     generalize hadR (out.take k) x = hd at *
     have HHS := qH0 hhs
     cases hd
     ·obtain ⟨⟨x0, y0, z0⟩, x1, cs5, e0, hn0, -⟩ := HR.out.2 k hkg hko
      have hq0 : SlK wz (.slice ga q gc) gss := by have := HSL.out; exact this
      obtain ⟨gb, gof, rfl, hgb, hel⟩ := hq0.elem2 HR.out.len2 (by omega)
      obtain ⟨cz0, -⟩ := hel k hkg _ _ e0 wr HBQ.out
      unfold slW at cz0 hn0
      simp only at cz0 hn0
      have hBQ2 := qB0 HBW.out HBQ.out
      have HB0Q := qH0 (qB0 HB00.out hBQ2)
      have HT1 := qH0 (fun W (hb : Below wr.heap.size wr W) => qhv (.slice x0 y0 z0) out[k].1 _ rfl W (hn0.below (qB0 HB0Q.out hb)) (HMO.out _ (List.getElem_mem hko)))
      have HT2 := qH0 (fun W (hb : Below wr.heap.size wr W) => qhv (.slice a0 xl c0) x _ rfl W (HNM.out.below (qB0 HB0Q.out hb)) HK.out)
      have ht1 := HT1.out wr (qL0)
      clear hn0 hq0 hel hhs hgb e0
      generalize textN out[k].1 = T1 at *
      generalize textN x = T2 at *
      go_wp2_with fail
      refine ht1.mono ?_
      rintro e w2 ⟨rfl, hb2⟩
      have ht2 := HT2.out w2 hb2
      have HBQ2 := qH0 (qB0 HBQ.out hb2)
      clear ht1
      go_wp2_with fail
      refine ht2.mono ?_
      rintro e w3 ⟨rfl, hb3⟩
      have HBQ3 := qH0 (qB0 HBQ2.out hb3)
      clear ht2
      by_cases hT : T1 = T2
      ·have HHT : Hid (hadR (out.take (k + 1)) x = true) := qH0 (by rw [HHS.out, hT]; simp)
       subst hT
       go_wp2
       exact ⟨⟨k + 1, by go_num, by rw [HHT.out], by omega, HBQ3⟩, by simp [intOf]; omega⟩
      ·have HHT : Hid (hadR (out.take (k + 1)) x = false) := qH0 (by rw [HHS.out]; simp [hT])
       go_wp2
       exact ⟨⟨k + 1, by go_num, by rw [HHT.out]; simp [hT], by omega, HBQ3⟩, by simp [intOf]; omega⟩
     ·have HHT : Hid (hadR (out.take (k + 1)) x = true) := qH0 (by rw [HHS.out]; rfl)
      go_wp2_with fail
      exact ⟨⟨k + 1, by go_num, by rw [HHT.out], by omega, HBQ⟩, by simp [intOf]; omega⟩
    ·obtain rfl : k = q := by omega
     have HBR := qH0 (qB0 HB.out HBQ.out)
     have hx := (HBR.out.block _ (qaa HX.out)).trans HX.out
     have y0 := kcell hx 0 _ rfl; have y1 := kcell hx 1 _ rfl
     have hgl := HGL.out wr (qB0 HBZ.out HBR.out)
     have HO2 := qH0 (OwnK.below HO.out HBQ.out)
     have HR2 := qH0 (HR.out.below HBQ.out)
     have HHD := qH0 (show out.take k = out from List.take_of_length_le (by rw [HOQ.out]; exact qN0))
     rw [HHD.out]
     clear hx
     go_wp2_with fail
     refine hgl.mono ?_
     rintro e w5 ⟨v5, css5, rfl, ho5, hd5, hb5⟩
     obtain ⟨a5, c5, rfl⟩ := OwnK.shape ho5
     have HB5 := qH0 (qB0 HBR.out hb5)
     have HO5 := qH0 (OwnK.below HO2.out hb5)
     have HR5 := qH0 (HR2.out.below hb5)
     have HG5 := qH0 ho5; have HD5 := qH0 hd5
     have HS5 := qH0 HBR.out.size
     have hl5 : css5.length = (glueM rs x).length := hd5.1
     have hs5 := HST.out
     clear ho5 hd5 hb5 hgl y0 y1
     generalize css5.length = n5 at *
     cases hh : hadR out x
     ·rw [hh] at hs5
      by_cases hge : glueM rs x = []
      ·have h50 : n5 = 0 := by rw [hl5, hge]; rfl
       subst h50
       have HS6 := qH0 (show hintsR rs ((headsR ds).take (i + 1)) [] = out by rw [hs5, if_neg (by simp [hge])])
       clear hs5 hh hl5 hge
       go_wp2
       go_roundw
       case measure => simp [intOf]; omega
       case rel => exact ⟨i + 1, k, ga, gc, gss, rfl, by go_num, by omega, by omega, HQ, HO5, by rw [HS6.out]; exact HR5, HB5⟩
      ·have h5z : (0 : Int) < (n5 : Int) := by have := List.length_pos_iff.2 hge; omega
       have HS6 := qH0 (show hintsR rs ((headsR ds).take (i + 1)) [] = out ++ [(x, glueM rs x)] by rw [hs5, if_pos ⟨rfl, hge⟩])
       have HLN := qH0 (show gss.length ≤ 1048576 by have := HQ.out; omega)
       clear hs5 hh hl5 hge
       go_wp2_with (at_builtin; refine qbn w5 rfl (.tmp 52) (.tmp 56) qkg (by decide) rfl W0.heap.size (.slice ga k gc) gss rfl HO5.out [.slice a0 xl c0, .slice a5 n5 c5] rfl (by intro u hu; simp only [List.mem_cons, List.not_mem_nil, or_false] at hu; rcases hu with rfl | rfl <;> rfl) 1 (by rfl) HB5.out.size (by have := HLN.out; unfold maxLen; omega) (by have := HLN.out; omega) ?_; intro v6 w6 hown6 hg6; obtain ⟨a9, m9, c9, e9⟩ : ∃ a m c, v6 = .slice a m c := (by obtain ⟨a, c, e⟩ := OwnK.shape hown6; exact ⟨a, _, c, e⟩); subst e9; have hm9 : m9 = k + 1 := (by obtain ⟨a, c, e⟩ := OwnK.shape hown6; injection e with _ e _; rw [e, List.length_append, HQ.out]; rfl); subst hm9; have HO6 := qH0 hown6; have HG6 := qH0 hg6; clear hown6 hg6)
       have HR6 := qH0 ((HR5.out.grown HO5.out HG6.out).snoc (x0 := (a0, xl, c0)) (x1 := (a5, n5, c5)) (g := (x, glueM rs x)) HNM.out (OwnK.kept_cc (HG5.out.weaken HS5.out) HO5.out (by decide) HG6.out) HD5.out)
       have HB6 := qH0 (HB5.out.grown HG6.out HB5.out.size (OwnK.base_le HO5.out))
       go_roundw
       case measure => simp [intOf]; omega
       case rel => exact ⟨i + 1, k + 1, a9, c9, _, rfl, by go_num, by omega, by omega, qH0 (by rw [List.length_append, HQ.out]; rfl), HO6, by rw [HS6.out]; exact HR6, HB6⟩
     ·have HS6 := qH0 (show hintsR rs ((headsR ds).take (i + 1)) [] = out by rw [hs5, hh]; simp)
      clear hs5 hh hl5
      go_wp2
      go_roundw
      case measure => simp only [intOf]; omega
      case rel => exact ⟨i + 1, k, ga, gc, gss, rfl, by go_num, by omega, by omega, HQ, HO5, by rw [HS6.out]; exact HR5, HB5⟩
  ·obtain rfl : i = nd := by omega
   go_wp2
   go_ret
   have htk : (headsR ds).take i = headsR ds := List.take_of_length_le (by unfold headsR; rw [List.length_map]; exact Nat.le_of_eq HND.out)
   have hR := HR.out
   rw [htk] at hR
   refine ⟨_, rfl, fun W' hk hw => ?_, qB0 HBZ.out HB.out⟩
   have hk2 : FarKeep W0.heap.size wz W' := hk.mono (by have := HZS.out; omega)
   exact RHt.glR (OwnK.move HO.out hk2) (hR.move hk2) hw
theorem qjK {o : Nm} {rs : List Rc} {q : Nm} (t : Int) (hU : underN q o = true) (h : ∀ s, o.length ≤ s → s ≤ q.length → stepR o rs q s = none) : lookR o rs q t = if qaq o rs q then atR rs q t false else if qaT o rs q then atR rs (starM o rs q) t true else ⟨3, [], [], false, []⟩ := by
 unfold lookR
 rw [if_neg (by rw [hU]; simp), qeI (fun x => h _ (by omega) (by have := x.isLt; omega))]
theorem qj4 {o : Nm} {rs : List Rc} {q : Nm} (t : Int) (hU : underN q o = true) {s : Nat} {r : Lk} (h1 : o.length ≤ s) (h2 : s ≤ q.length) (hs : stepR o rs q s = some r) (h : ∀ j, o.length ≤ j → j < s → stepR o rs q j = none) : lookR o rs q t = r := by
 unfold lookR
 rw [if_neg (by rw [hU]; simp)]
 have e : (List.range' o.length (q.length + 1 - o.length)).findSome? (stepR o rs q) = some r := by
  have e1 : q.length + 1 - o.length = (s - o.length) + (1 + (q.length - s)) := by omega
  rw [e1, List.range'_append_1.symm, List.findSome?_append, qeI (fun x => h _ (by omega) (by have := x.isLt; omega)), Option.none_or]
  rw [show 1 + (q.length - s) = (q.length - s) + 1 by omega, List.range'_succ, List.findSome?_cons, show o.length + (s - o.length) = s by omega, hs]
 rw [e]
theorem qkT {rs : List Rc} {n : Nm} {t : Int} (h : hasM rs n t = true) : 0 < (dataM rs n t).length := by
 rw [qeB] at h
 cases e : ofM rs n t with
 | none => rw [e] at h; cases h
 | some s =>
  have := (qch e).1
  unfold dataM
  rw [e]
  exact List.length_pos_iff.2 this
theorem far_to {n : Nat} {w3 w5 w6 W' : World} (h1 : Below w5.heap.size w5 w6) (h2 : FarKeep n w6 W') : FarKeep n w5 W' := fun g a b => (h2 g a (Nat.lt_of_lt_of_le b h1.size)).trans (h1.block g b)
theorem qmk {o : Nm} {rs : List Rc} {n : Nm} (hn : NmOK n) (h : n.length < 1048576) : NmOK (starM o rs n) := by
 have h1 := qey (o := o) (rs := rs) hn
 have h2 := qdH (o := o) (n := n) rs
 refine ⟨by unfold starM; simp; omega, fun x hx => ?_⟩
 unfold starM at hx
 rcases List.mem_cons.1 hx with rfl | hx
 ·simp
 ·exact h1.2 x hx
theorem qmo {w0 w : World} {za v1 : Option Addr} {zn zc m c : Nat} {o q : Nm} {rs : List Rc} {vq : Value} (t : Int) (h : ZonS w0 za zn zc v1 m c o rs) (hb0 : Below w0.heap.size w0 w) (hO : NmAt w0 vq q) (hkq : NmOK q) (hlq : q.length < 1048576) (hm : m ≤ 1000000)
 (hone : ∀ n t, t = 2 ∨ t = 5 ∨ t = 39 → ∀ d ∈ dataM rs n t, ∃ x, d.names = [x] ∧ checkN x = 0) (hhd : ∀ s, ∀ n ∈ headsR (dataM rs (ancN q s) 2), NmOK n) (hdl : ∀ n t, (dataM rs n t).length ≤ 1000000) (hall : ∀ k s, hasM rs (ancN q s) 39 = true → NmOK (q.take k ++ headR (dataM rs (ancN q s) 39))) :
 Calls Tryz.prog 50 #[.agg #[.slice za zn zc, .slice v1 m c], vq, .int .i64 t] w (qcK w0 w (lookR o rs q t)) := by
 have HZN := qH0 (show zn = o.length from nm_len h.1)
 have HKO := qH0 h.2.1
 have CU := qH0 (fun (W : World) (hb : Below w.heap.size w W) => qd4 vq (.slice za zn zc) q o _ rfl W (hO.below (qB0 hb0 hb)) (h.1.below (qB0 hb0 hb)) hkq h.2.1)
 have CH := qH0 (fun (t : Int) (v : Value) (n : Nm) (hv : NmAt w0 v n) (hk : NmOK n) (W : World) (hb : Below w.heap.size w W) => qnf t (h.below (qB0 hb0 hb)) (hv.below (qB0 hb0 hb)) hk)
 have CD := qH0 (fun (t : Int) (v : Value) (n : Nm) (hv : NmAt w0 v n) (hk : NmOK n) (W : World) (hb : Below w.heap.size w W) => qfR t h (qB0 hb0 hb) (hv.below (qB0 hb0 hb)) hk hm)
 have CT := qH0 (fun (vl : Value) (ds : List Dat) (W : World) (hb : Below w.heap.size w W) (hL : ∃ css, SlK W vl css ∧ Dts w0 css ds) (h1 : ∀ d ∈ ds, ∃ x, d.names = [x] ∧ checkN x = 0) (h2 : ∀ n ∈ headsR ds, NmOK n) (h3 : ds.length ≤ 1000000) => qkS h (qB0 hb0 hb) hL h1 h2 hm h3)
 have CE := qH0 (fun (W : World) (hb : Below w.heap.size w W) => qcF (h.below (qB0 hb0 hb)) (hO.below (qB0 hb0 hb)) hkq)
 have CS := qH0 (fun (W : World) (hb : Below w.heap.size w W) => qj7 (h.below (qB0 hb0 hb)) (hO.below (qB0 hb0 hb)) hkq hlq)
 have CA := qH0 (fun (v : Value) (n : Nm) (b : Bool) (W : World) (hb : Below w.heap.size w W) (hv : NmAt W v n) (hk : NmOK n) => ref_at t b h (qB0 hb0 hb) hv hk hm (hone n 5 (.inr (.inl rfl))))
 have HNQ := qH0 hO; have HKQ := qH0 hkq; have HB00 := qH0 hb0; have HLQ := qH0 hlq
 have HONE := qH0 hone; have HHD := qH0 hhd; have HDL := qH0 hdl; have HALL := qH0 hall
 obtain ⟨aq, cq, rfl, -⟩ := nmAt_sl.1 hO
 obtain ⟨qn, hqn⟩ : ∃ k, (List.map strV q).length = k := ⟨_, rfl⟩
 have HQN := qH0 (show q.length = qn by rw [← hqn, List.length_map])
 rw [hqn] at CU CE CS HNQ ⊢
 have HNONE := qH0 (fun hU hh => qjK (o := o) (rs := rs) (q := q) t hU hh)
 have HSOME := qH0 (fun hU s r h1 h2 hs hh => qj4 (o := o) (rs := rs) (q := q) t hU (s := s) (r := r) h1 h2 hs hh)
 have HREF := qH0 (fun (hU : underN q o = false) => (show lookR o rs q t = ⟨7, [], [], false, []⟩ by unfold lookR; rw [if_pos hU]))
 generalize lookR o rs q t = res at *
 clear h hb0 hO hkq hlq hqn hone hhd hdl hall hm
 have hBz := (Below.refl w.heap.size w).alloc (qN0) (.cells #[.slice za zn zc, .slice v1 m c] 60)
 have hX := knew w (.cells #[.slice za zn zc, .slice v1 m c] 60)
 obtain ⟨W0, hW0⟩ : ∃ W, w.alloc (.cells #[.slice za zn zc, .slice v1 m c] 60) = W := ⟨_, rfl⟩
 rw [hW0] at hX hBz
 have hzs : W0.heap.size = w.heap.size + 1 := by rw [← hW0]; simp
 have hBr := (Below.refl W0.heap.size W0).alloc (qN0) (.cells #[.int .i64 0, .slice none 0 0, .slice none 0 0, .bool false, .slice none 0 0] 88)
 have hXr := knew W0 (.cells #[.int .i64 0, .slice none 0 0, .slice none 0 0, .bool false, .slice none 0 0] 88)
 obtain ⟨W1, hW1⟩ : ∃ W, W0.alloc (.cells #[.int .i64 0, .slice none 0 0, .slice none 0 0, .bool false, .slice none 0 0] 88) = W := ⟨_, rfl⟩
 rw [hW1] at hXr hBr
 have HS1 := qH0 (show W1.heap.size = w.heap.size + 2 by rw [← hW1]; simp; omega)
 have HZ1 := qH0 ((hBr.block _ (qaa hX)).trans hX)
 have HX1 := qH0 hXr
 have HB1 := qH0 (qB0 hBz hBr)
 have HZS := qH0 hzs
 have HY := qH0 (fun (W : World) (hb : Below W1.heap.size W1 W) => And.intro (kcell ((hb.block _ (qaa HZ1.out)).trans HZ1.out) 0 _ rfl) (kcell ((hb.block _ (qaa HZ1.out)).trans HZ1.out) 1 _ rfl))
 have HX := qH0 (fun (W : World) (hb : Below W1.heap.size W1 W) => (hb.block _ (qaa HX1.out)).trans HX1.out)
 have HBW := qH0 (fun (W : World) (hb : Below W1.heap.size W1 W) => qB0 HB1.out hb)
 have FIN := qH0 (fun (W : World) (hb : Below W1.heap.size W1 W) (k : Int) (d n g : Option Addr × Nat × Nat) (b : Bool) (hl : ∀ W', FarKeep W1.heap.size W W' → Below w0.heap.size w0 W' → LkAt W' [.int .i64 k, slW d, slW n, .bool b, slW g] res) => (show qcK w0 w res (.returned (.agg #[.int .i64 k, slW d, slW n, .bool b, slW g])) (put5 W W0.heap.size (.int .i64 k) (slW d) (slW n) (.bool b) (slW g)) from
  ⟨_, rfl, fun W' hk hw => hl W' ((qaR _ (by have := HS1.out; have := HZS.out; omega) _ _ _ _ _).trans (qar _ _ _ _ _ _ _).size (hk.mono (by have := HS1.out; omega))) hw, qas (HBW.out W hb) (show w.heap.size ≤ W0.heap.size by have := HZS.out; omega) _ _ _ _ _⟩))
 have hc := CU.out W1 HB1.out
 obtain ⟨y0, y1⟩ := HY.out W1 (qL0)
 obtain ⟨u, hu⟩ : ∃ u, underN q o = u := ⟨_, rfl⟩
 rw [hu] at hc HNONE HSOME HREF
 have HU := qH0 hu
 have HUL := qH0 (fun h => qa1 (a := q) (b := o) h)
 rw [hu] at HUL
 clear hBz hX hBr hXr CU hzs hu
 go_enter Tryz.func50, Tryz.ntmps50
 go_wp2_with fail
 clear hW0 hW1
 refine hc.mono ?_
 rintro e w2 ⟨rfl, hb2⟩
 have HB2 := qH0 hb2
 clear hc hb2 y0 y1
 cases u
 ·have hx := HX.out w2 HB2.out
  obtain ⟨z0, z1, z2, z3, z4, u0, u1, u2, u3, u4⟩ := qK5 hx
  go_wp2
  refine bodyPost_ret (lr_fin rfl _ hx rfl) rfl ?_
  have H1 := HREF.out trivial
  exact FIN.out w2 HB2.out 7 (none, 0, 0) (none, 0, 0) (none, 0, 0) false (fun W' _ _ => by rw [H1]; exact qbb W' 7 false)
 have hqle : zn ≤ qn := by have := HUL.out rfl; have := HQN.out; have := HZN.out; omega
 have hqn20 : qn < 1048576 := by have := HLQ.out; have := HQN.out; omega
 obtain ⟨y0, y1⟩ := HY.out w2 HB2.out
 go_wp2
 clear y0 y1
 go_loopw [7, 8] (fun vi vn wr => ∃ i : Int, vi = .int .i64 i ∧ -1 ≤ i ∧ i ≤ (qn : Int) - (zn : Int) ∧ Hid (∀ s : Nat, zn ≤ s → (s : Int) < (qn : Int) - i → stepR o rs q s = none) ∧ Hid (Below W1.heap.size W1 wr)) (fun vi _ _ => (intOf vi + 1).toNat)
 case atStart => exact ⟨(qn : Int) - (zn : Int), by go_num, by omega, by omega, qH0 (fun s a b => by omega), HB2⟩
 case round =>
  obtain ⟨i, rfl, hi1, hi2, HN, HB⟩ := hrel
  by_cases hlt : 0 ≤ i
  ·obtain ⟨k, rfl⟩ : ∃ k : Nat, i = (k : Int) := ⟨i.toNat, by omega⟩
   have hkz : (0 : Int) ≤ (k : Int) := by omega
   have hkq : (k : Int) ≤ (qn : Int) := by omega
   have hqc : qn ≤ cq := nm_cap HNQ.out
   have hkcz : (k : Int) ≤ (cq : Int) := by omega
   have hqcz : (qn : Int) ≤ (cq : Int) := by omega
   have HKO' := qH0 (show NmOK (q.drop k) by rw [qbN (by have := HQN.out; omega)]; exact qiq HKQ.out _)
   have HSK := qH0 (show ancN q (qn - k) = q.drop k by rw [qbN (by have := HQN.out; omega), HQN.out])
   go_upto_region 6 with (fail)
   go_cut [8] (fun v wx => wr = wx ∧ ∃ (a : Option Addr) (n c : Nat), v = .slice a n c ∧ Hid (NmAt w0 (.slice a n c) (q.drop k)))
   case first =>
    rcases qgY HNQ.out (show k ≤ qn by omega) with ⟨hck, hm⟩ | ⟨hck, hq0, hk0, ⟨ad, rfl⟩, hm⟩ | ⟨hck, hq0, g, off, rfl, hm⟩
    ·subst hck
     obtain rfl : qn = cq := by omega
     simp only [Nat.sub_self] at hm
     have HM := qH0 hm
     clear hm
     go_wp2_with fail
     go_meet
     exact ⟨rfl, _, _, _, rfl, HM⟩
    ·subst hk0
     subst hq0
     simp only [Nat.sub_zero] at hm
     have HM := qH0 hm
     clear hm
     go_wp2_with fail
     go_meet
     exact ⟨rfl, _, _, _, rfl, HM⟩
    ·have HM := qH0 hm
     clear hm
     go_wp2_with fail
     go_meet
     exact ⟨rfl, _, _, _, rfl, HM⟩
   case rest =>
   rename World => wy
   obtain ⟨rfl, na, nn, nc, rfl, HNM⟩ := hcut
   go_upto_region 7 with (fail)
   go_cut [46] (fun v wx => ∃ b : Bool, v = .bool b ∧ Hid (b = (decide (k + zn < qn) && hasM rs (q.drop k) 2)) ∧ Hid (Below W1.heap.size W1 wx))
   case first =>
    obtain ⟨y0, y1⟩ := HY.out wr HB.out
    by_cases hl2 : k + zn < qn
    ·have hlz : (k : Int) < (qn : Int) - (zn : Int) := by omega
     have hc := CH.out 2 _ _ HNM.out HKO'.out wr (HBW.out wr HB.out)
     have HD2 : Hid (decide (k + zn < qn) = true) := qH0 (by simp; omega)
     go_wp2_with fail
     refine hc.mono ?_
     rintro e w3 ⟨rfl, hb3⟩
     have HB3 := qH0 (qB0 HB.out hb3)
     clear hc hb3 y0 y1
     go_wp2_with fail
     go_meet
     exact ⟨_, rfl, qH0 (by rw [HD2.out]; simp), HB3⟩
    ·have hlz : ¬ (k : Int) < (qn : Int) - (zn : Int) := by omega
     have HD2 : Hid (decide (k + zn < qn) = false) := qH0 (by simp; omega)
     go_wp2_with fail
     go_meet
     exact ⟨false, rfl, qH0 (by rw [HD2.out]; simp), HB⟩
   case rest =>
   rename World => w3
   obtain ⟨b2, rfl, HB2E, HB3⟩ := hcut
   cases b2
   ·go_upto_region 10 with (fail)
    go_cut [62] (fun v wx => ∃ b : Bool, v = .bool b ∧ Hid (b = (decide (0 < k) && hasM rs (q.drop k) 39)) ∧ Hid (Below W1.heap.size W1 wx))
    case first =>
     obtain ⟨y0, y1⟩ := HY.out w3 HB3.out
     by_cases hl2 : 0 < k
     ·have hlz : (0 : Int) < (k : Int) := by omega
      have hc := CH.out 39 _ _ HNM.out HKO'.out w3 (HBW.out w3 HB3.out)
      have HD2 : Hid (decide (0 < k) = true) := qH0 (by simp; omega)
      go_wp2_with fail
      refine hc.mono ?_
      rintro e w4 ⟨rfl, hb4⟩
      have HB4 := qH0 (qB0 HB3.out hb4)
      clear hc hb4 y0 y1
      go_wp2_with fail
      go_meet
      exact ⟨_, rfl, qH0 (by rw [HD2.out]; simp), HB4⟩
     ·have hlz : ¬ (0 : Int) < (k : Int) := by omega
      have HD2 : Hid (decide (0 < k) = false) := qH0 (by simp; omega)
      go_wp2_with fail
      go_meet
      exact ⟨false, rfl, qH0 (by rw [HD2.out]; simp), HB3⟩
    case rest =>
    rename World => w4
    obtain ⟨b3, rfl, HB3E, HB4⟩ := hcut
    have HNO2 := qH0 (show ¬ (o.length < qn - k ∧ hasM rs (ancN q (qn - k)) 2 = true) by
     rintro ⟨e1, e2⟩
     rw [HSK.out] at e2
     have e3 := HB2E.out
     rw [e2, show decide (k + zn < qn) = true by simp; have := HZN.out; omega] at e3
     cases e3)
    cases b3
    ·have HST := qH0 (show stepR o rs q (qn - k) = none by
      unfold stepR
      rw [if_neg HNO2.out, if_neg]
      rintro ⟨e1, e2⟩
      rw [HSK.out] at e2
      have e3 := HB3E.out
      rw [e2, show decide (0 < k) = true by simp; have := HQN.out; omega] at e3
      cases e3)
     go_wp2
     go_roundw
     case measure => simp [intOf]
     case rel => exact ⟨(k : Int) - 1, by go_num, by omega, by omega, qH0 (fun s a b => by
      by_cases hs : (s : Int) < (qn : Int) - (k : Int)
      ·exact HN.out s a hs
      ·obtain rfl : s = qn - k := by omega
       exact HST.out), HB4⟩
    ·have hh3 : 0 < k ∧ hasM rs (q.drop k) 39 = true := by
      have e3 := HB3E.out
      simpa using e3.symm
     have HH3 := qH0 hh3
     have hc := CD.out 39 _ _ HNM.out HKO'.out w4 (HBW.out w4 HB4.out)
     unfold qdF at hc
     have HST := qH0 (show stepR o rs q (qn - k) = some (if (swapN q (q.drop k) (headR (dataM rs (q.drop k) 39))).2 = 0 then ⟨5, (dataM rs (q.drop k) 39).take 1, (swapN q (q.drop k) (headR (dataM rs (q.drop k) 39))).1, false, []⟩ else ⟨6, [], [], false, []⟩) by
      unfold stepR
      rw [if_neg HNO2.out, HSK.out, if_pos ⟨by have := HQN.out; omega, hh3.2⟩])
     have HRES := qH0 (HSOME.out trivial (qn - k) _ (by have := HZN.out; omega) (by have := HQN.out; omega) HST.out (fun j a b => HN.out j (by have := HZN.out; omega) (by omega)))
     have HALK := qH0 (fun j => HALL.out j (qn - k) (by rw [HSK.out]; exact hh3.2))
     have HONK := qH0 (HONE.out (q.drop k) 39 (.inr (.inr rfl)))
     have hdp := qkT hh3.2
     clear hh3
     rw [HSK.out] at HALK
     obtain ⟨D, hD⟩ : ∃ D, dataM rs (q.drop k) 39 = D := ⟨_, rfl⟩
     rw [hD] at hc HRES HALK HONK hdp
     have HDP := qH0 hdp
     clear hD HST hdp
     obtain ⟨y0, y1⟩ := HY.out w4 HB4.out
     go_wp2_with fail
     refine hc.mono ?_
     rintro e w5 ⟨vd, rfl, hf5, hb5⟩
     obtain ⟨css5, hs5, hd5⟩ := hf5 w5 (FarKeep.refl _ _)
     obtain ⟨ta, tc, rfl, -⟩ := id hs5
     have hl5 : css5.length = D.length := hd5.1
     obtain ⟨ne, hne⟩ : ∃ k, D.length = k := ⟨_, rfl⟩
     rw [hl5, hne] at hf5
     rw [hl5, hne]
     have HF5 := qH0 hf5
     have HB5 := qH0 (qB0 HB4.out hb5)
     have HW4 := qH0 HB4.out.size
     have hl0 : 0 < D.length := HDP.out
     obtain ⟨x, hx, -⟩ := HONK.out (D[0]'hl0) (List.getElem_mem hl0)
     have hrow := HF5.out w5 (FarKeep.refl _ _)
     obtain ⟨B, off, g, go, mm, kk, v0, rfl, -, hnc, hmm, hnm, hk1, hk2⟩ := qf0 hrow hl0 (by rw [hx]; simp)
     have hh : headR D = (D[0]'hl0).names.headD [] := by
      unfold headR
      rw [List.head?_eq_getElem?, List.getElem?_eq_getElem hl0]; rfl
     rw [← hh] at hnm
     have HNH := qH0 hnm
     have k1 := hk1 w5 (qL0)
     have k2 := hk2 w5 (HB00.out.trans ((HBW.out w5 HB5.out).mono HB00.out.size))
     have hne0 : 0 < ne := by rw [← hne]; exact HDP.out
     have hz1 : (1 : Int) ≤ (ne : Int) := by omega
     have hz2 : (1 : Int) ≤ (tc : Int) := by omega
     have hz3 : (0 : Int) < (mm : Int) := by omega
     have hz4 : (0 : Int) < (ne : Int) := by omega
     obtain ⟨a0, c0, rfl, -⟩ := nmAt_sl.1 hnm
     rw [show off + 0 * 5 + 1 = off + 1 by omega] at k1
     have HKH : Hid (NmOK (headR D)) := qH0 (by have := HALK.out 0; simpa using this)
     have HCS := qH0 (fun (W : World) (hb : Below w.heap.size w W) => ql1 (.slice aq qn cq) (.slice na nn nc) (.slice a0 (List.map strV (headR D)).length c0) q (q.drop k) (headR D) W (HNQ.out.below (qB0 HB00.out hb)) (HNM.out.below (qB0 HB00.out hb)) (HNH.out.below (qB0 HB00.out hb)) HKQ.out HKO'.out HKH.out (HALK.out _))
     generalize (List.map strV (headR D)).length = hq at *
     obtain ⟨SW, hSW⟩ : ∃ S, swapN q (q.drop k) (headR D) = S := ⟨_, rfl⟩
     unfold qcc at HCS
     rw [hSW] at HCS HRES
     have hc2 := HCS.out w5 (HBW.out w5 HB5.out)
     clear hl0 hc hf5 hb5 hs5 hd5 hl5 hrow hnm hh hx hne hSW hk1 hk2 HCS y0 y1
     go_wp2_with fail
     refine hc2.mono ?_
     rintro e w6 ⟨v6, rfl, ho6, hb6⟩
     obtain ⟨SWn, SWe⟩ := SW
     have HO6 := qH0 ho6
     obtain ⟨a6, c6, rfl⟩ := ho6.shape
     have HB6 := qH0 (qB0 HB5.out hb6)
     have HW5 := qH0 HB5.out.size
     have HK6 := qH0 hb6
     have HZ6 := qH0 hb6.size
     clear hc2 ho6 hb6 k1 k2
     simp only at HO6 HRES ⊢
     generalize SWn.length = n6 at *
     have hx := HX.out w6 HB6.out
     obtain ⟨z0, z1, z2, z3, z4, u0, u1, u2, u3, u4⟩ := qK5 hx
     by_cases he : SWe = 0
     ·subst he
      have HR2 : Hid (res = ⟨5, D.take 1, SWn, false, []⟩) := qH0 (by have := HRES.out; simpa using this)
      clear HRES
      go_wp2
      refine bodyPost_ret (lr_fin rfl _ hx rfl) rfl ?_
      refine FIN.out w6 HB6.out 5 (some ⟨B, off, none⟩, 1, tc) (a6, n6, c6) (none, 0, 0) false (fun W' hk hw => ?_)
      rw [HR2.out]
      exact ⟨(some ⟨B, off, none⟩, 1, tc), (a6, n6, c6), (none, 0, 0), rfl, (Dts.dtsR (HF5.out W' (far_to (w3 := w5) HK6.out (hk.mono HW4.out))) hw).firstC HDP.out, OwnG.nmAt (qe8 HO6.out (hk.mono HW5.out)), GlR.nil W'⟩
     ·have hez : ¬ SWe = 0 := he
      have HR2 : Hid (res = ⟨6, [], [], false, []⟩) := qH0 (by have := HRES.out; simpa [he] using this)
      clear HRES
      go_wp2
      refine bodyPost_ret (lr_fin rfl _ hx rfl) rfl ?_
      exact FIN.out w6 HB6.out 6 (none, 0, 0) (none, 0, 0) (none, 0, 0) false (fun W' _ _ => by rw [HR2.out]; exact qbb W' 6 false)
   ·have hh3 : k + zn < qn ∧ hasM rs (q.drop k) 2 = true := by
     have e3 := HB2E.out
     simpa using e3.symm
    have hc := CD.out 2 _ _ HNM.out HKO'.out w3 (HBW.out w3 HB3.out)
    unfold qdF at hc
    have HRES := qH0 (HSOME.out trivial (qn - k) _ (by have := HZN.out; omega) (by have := HQN.out; omega) (show stepR o rs q (qn - k) = some ⟨4, dataM rs (q.drop k) 2, q.drop k, false, hintsR rs (headsR (dataM rs (q.drop k) 2)) []⟩ by
     unfold stepR
     rw [HSK.out, if_pos ⟨by have := HZN.out; omega, hh3.2⟩]) (fun j a b => HN.out j (by have := HZN.out; omega) (by omega)))
    have hone := HONE.out (q.drop k) 2 (.inl rfl)
    have hhd := HHD.out (qn - k)
    have hdl := HDL.out (q.drop k) 2
    rw [HSK.out] at hhd
    obtain ⟨D, hD⟩ : ∃ D, dataM rs (q.drop k) 2 = D := ⟨_, rfl⟩
    rw [hD] at hc HRES hone hhd hdl
    have HONK := qH0 hone; have HHDK := qH0 hhd; have HDLK := qH0 hdl
    clear hD hone hhd hdl hh3
    obtain ⟨y0, y1⟩ := HY.out w3 HB3.out
    go_wp2_with fail
    refine hc.mono ?_
    rintro e w5 ⟨vd, rfl, hf5, hb5⟩
    obtain ⟨css5, hs5, hd5⟩ := hf5 w5 (FarKeep.refl _ _)
    obtain ⟨ta, tc, rfl, -⟩ := id hs5
    generalize css5.length = ne at *
    have HF5 := qH0 hf5
    have HB5 := qH0 (qB0 HB3.out hb5)
    have HW4 := qH0 HB3.out.size
    have hc2 := CT.out (.slice ta ne tc) D w5 (HBW.out w5 HB5.out) (hf5 w5 (FarKeep.refl _ _)) HONK.out HHDK.out HDLK.out
    unfold HtPost at hc2
    clear hc hf5 hb5 hs5 hd5 y0 y1
    obtain ⟨y0, y1⟩ := HY.out w5 HB5.out
    go_wp2_with fail
    refine hc2.mono ?_
    rintro e w6 ⟨vg, rfl, hf6, hb6⟩
    have HB6 := qH0 (qB0 HB5.out hb6)
    have HW5 := qH0 HB5.out.size
    have HK6 := qH0 hb6
    have HZ6 := qH0 hb6.size
    obtain ⟨gss, ⟨ga, gc, rfl, -⟩, -⟩ := hf6 w6 (FarKeep.refl _ _) (HB00.out.trans ((HBW.out w6 HB6.out).mono HB00.out.size))
    generalize gss.length = gn at *
    have HF6 := qH0 hf6
    clear hc2 hf6 hb6 y0 y1
    have hx := HX.out w6 HB6.out
    obtain ⟨z0, z1, z2, z3, z4, u0, u1, u2, u3, u4⟩ := qK5 hx
    go_wp2
    refine bodyPost_ret (lr_fin rfl _ hx rfl) rfl ?_
    refine FIN.out w6 HB6.out 4 (ta, ne, tc) (na, nn, nc) (ga, gn, gc) false (fun W' hk hw => ?_)
    rw [HRES.out]
    exact ⟨(ta, ne, tc), (na, nn, nc), (ga, gn, gc), rfl, Dts.dtsR (HF5.out W' (far_to (w3 := w5) HK6.out (hk.mono HW4.out))) hw, HNM.out.below hw, HF6.out W' (hk.mono HW5.out) hw⟩
  ·obtain rfl : i = -1 := by omega
   have HRES := qH0 (HNONE.out trivial (fun s a b => HN.out s (by have := HZN.out; omega) (by have := HQN.out; omega)))
   obtain ⟨y0, y1⟩ := HY.out wr HB.out
   have hc := CE.out wr (HBW.out wr HB.out)
   obtain ⟨ex, hex⟩ : ∃ e, qaq o rs q = e := ⟨_, rfl⟩
   rw [hex] at hc HRES
   clear hex
   go_wp2_with fail
   refine hc.mono ?_
   rintro e w3 ⟨rfl, hb3⟩
   have HB3 := qH0 (qB0 HB.out hb3)
   clear hc hb3 y0 y1
   obtain ⟨y0, y1⟩ := HY.out w3 HB3.out
   cases ex
   ·have hc := CS.out w3 (HBW.out w3 HB3.out)
    unfold qeJ at hc
    obtain ⟨sb, hsb⟩ : ∃ b, qaT o rs q = b := ⟨_, rfl⟩
    rw [hsb] at hc HRES
    clear hsb
    go_wp2_with fail
    refine hc.mono ?_
    rintro e w4 ⟨sa, sk, sc, rfl, hs4, hb4⟩
    have HB4 := qH0 (qB0 HB3.out hb4)
    have HS4 := qH0 hs4
    clear hc hb4 hs4 y0 y1
    obtain ⟨y0, y1⟩ := HY.out w4 HB4.out
    cases sb
    ·have hx := HX.out w4 HB4.out
     obtain ⟨z0, z1, z2, z3, z4, u0, u1, u2, u3, u4⟩ := qK5 hx
     have HR2 : Hid (res = ⟨3, [], [], false, []⟩) := qH0 (by have := HRES.out; simpa using this)
     clear HRES
     go_wp2
     refine bodyPost_ret (lr_fin rfl _ hx rfl) rfl ?_
     exact FIN.out w4 HB4.out 3 (none, 0, 0) (none, 0, 0) (none, 0, 0) false (fun W' _ _ => by rw [HR2.out]; exact qbb W' 3 false)
    ·have hc := CA.out (.slice sa sk sc) (starM o rs q) true w4 (HBW.out w4 HB4.out) HS4.out (qmk HKQ.out HLQ.out)
     unfold qcK at hc
     have HR2 : Hid (res = atR rs (starM o rs q) t true) := qH0 (by have := HRES.out; simpa using this)
     rw [← HR2.out] at hc
     clear HRES HR2
     go_wp2_with fail
     refine hc.mono ?_
     rintro e w9 ⟨cs9, rfl, hf9, hb9⟩
     have HB9 := qH0 (qB0 HB4.out hb9)
     have HW9 := qH0 HB4.out.size
     obtain ⟨⟨d1, d2, d3⟩, ⟨n1, n2, n3⟩, ⟨g1, g2, g3⟩, rfl⟩ := (hf9 w9 (FarKeep.refl _ _) (HB00.out.trans ((HBW.out w9 HB9.out).mono HB00.out.size))).shape
     have HF9 := qH0 hf9
     clear hc hf9 hb9 y0 y1
     unfold slW at HF9 ⊢
     simp only at HF9 ⊢
     have FIN9 := qH0 (FIN.out w9 HB9.out res.kind (d1, d2, d3) (n1, n2, n3) (g1, g2, g3) res.wild (fun W' hk hw => HF9.out W' (hk.mono HW9.out) hw))
     generalize res.kind = rk at *
     generalize res.wild = rw9 at *
     have hx := HX.out w9 HB9.out
     obtain ⟨z0, z1, z2, z3, z4, u0, u1, u2, u3, u4⟩ := qK5 hx
     go_wp2
     refine bodyPost_ret (lr_fin rfl _ hx rfl) rfl ?_
     exact FIN9.out
   ·have hc := CA.out (.slice aq qn cq) q false w3 (HBW.out w3 HB3.out) (HNQ.out.below (HB00.out.trans ((HBW.out w3 HB3.out).mono HB00.out.size))) HKQ.out
    unfold qcK at hc
    have HR2 : Hid (res = atR rs q t false) := qH0 (by have := HRES.out; simpa using this)
    rw [← HR2.out] at hc
    clear HRES HR2
    go_wp2_with fail
    refine hc.mono ?_
    rintro e w9 ⟨cs9, rfl, hf9, hb9⟩
    have HB9 := qH0 (qB0 HB3.out hb9)
    have HW9 := qH0 HB3.out.size
    obtain ⟨⟨d1, d2, d3⟩, ⟨n1, n2, n3⟩, ⟨g1, g2, g3⟩, rfl⟩ := (hf9 w9 (FarKeep.refl _ _) (HB00.out.trans ((HBW.out w9 HB9.out).mono HB00.out.size))).shape
    have HF9 := qH0 hf9
    clear hc hf9 hb9 y0 y1
    unfold slW at HF9 ⊢
    simp only at HF9 ⊢
    have FIN9 := qH0 (FIN.out w9 HB9.out res.kind (d1, d2, d3) (n1, n2, n3) (g1, g2, g3) res.wild (fun W' hk hw => HF9.out W' (hk.mono HW9.out) hw))
    generalize res.kind = rk at *
    generalize res.wild = rw9 at *
    have hx := HX.out w9 HB9.out
    obtain ⟨z0, z1, z2, z3, z4, u0, u1, u2, u3, u4⟩ := qK5 hx
    go_wp2
    refine bodyPost_ret (lr_fin rfl _ hx rfl) rfl ?_
    exact FIN9.out
theorem ql5 {w0 W : World} {base n c : Nat} {a : Option Addr} {csd : List (List Value)} {l : List Rc} (ho : OwnC 7 109 W base (.slice a n c) csd) (h : OfRs w0 W base csd l) (hb : Below w0.heap.size w0 W) : RowC W (.slice a n c) l := by
 have hr : Rcs W csd l := ⟨h.1, fun i a b => (h.2 i a b).rcAt hb⟩
 exact ⟨csd, SlK.of_own ho hr.ck, hr⟩
theorem qnb {P : Dat → Prop} {rs : List Rc} (hl : ∀ r ∈ rs, P r.data) (n : Nm) (t : Int) : ∀ d ∈ dataM rs n t, P d := by
 intro d hd
 unfold dataM at hd
 cases e : ofM rs n t with
 | none => rw [e] at hd; cases hd
 | some s => rw [e] at hd; exact ofM_P hl e d hd
theorem qgP {rs : List Rc} (hr : ∀ r ∈ rs, checkD r.data = 0) (n : Nm) (t : Int) (ht : t = 2 ∨ t = 5 ∨ t = 39) : ∀ d ∈ dataM rs n t, ∃ x, d.names = [x] ∧ checkN x = 0 := by
 intro d hd
 unfold dataM at hd
 cases e : ofM rs n t with
 | none => rw [e] at hd; cases hd
 | some s => rw [e] at hd; exact qga hr ht e d hd
theorem qko {rs : List Rc} (n : Nm) (t : Int) : (dataM rs n t).length ≤ rs.length := by
 unfold dataM
 cases e : ofM rs n t with
 | none => exact Nat.zero_le _
 | some s => exact qcN e
theorem qlr {rs : List Rc} (hr : ∀ r ∈ rs, ∀ n ∈ r.data.names, fewN n = true) (hc : ∀ r ∈ rs, checkD r.data = 0) (n : Nm) : ∀ x ∈ headsR (dataM rs n 2), NmOK x := by
 intro x hx
 unfold headsR at hx
 obtain ⟨d, hd, rfl⟩ := List.mem_map.1 hx
 obtain ⟨y, hy, -⟩ := qgP hc n 2 (.inl rfl) d hd
 rw [hy]
 exact qbU (qnb (P := fun d => ∀ n ∈ d.names, fewN n = true) hr n 2 d hd y (by rw [hy]; simp))
theorem hall_R {q : Nm} {rs : List Rc} (hc : ∀ r ∈ rs, checkD r.data = 0) (h : ∀ s d, ofM (onM rs q) (ancN q s) 39 = some d → pointD d = true → ∀ k, NmOK (q.take k ++ firstN d)) : ∀ k s, hasM rs (ancN q s) 39 = true → NmOK (q.take k ++ headR (dataM rs (ancN q s) 39)) := by
 intro k s hh
 rw [qeB] at hh
 cases e : ofM rs (ancN q s) 39 with
 | none => rw [e] at hh; cases hh
 | some d =>
  have h1 := h s d (by rw [ofM_on (qbr q s)]; exact e) (qdJ hc (.inr (.inr rfl)) e) k
  have h2 : headR (dataM rs (ancN q s) 39) = firstN d := by unfold dataM headR firstN; rw [e]; rfl
  rw [h2]; exact h1
theorem qiw {l : List Rc} (h : goodRs l = true) : ∀ r ∈ canonM l, checkD r.data = 0 := by
 refine qfd (P := fun d => checkD d = 0) l (fun r hr => ?_)
 unfold goodRs at h
 simp only [Bool.and_eq_true, List.all_eq_true] at h
 have h2 := h.2 r hr
 unfold okR at h2
 have h3 := of_decide_eq_true h2
 unfold checkR at h3
 by_cases e : checkN r.owner = 0
 ·rw [if_neg (by simp [e])] at h3
  split at h3
  ·simp at h3
  ·exact h3
 ·rw [if_pos e] at h3; exact absurd h3 e
abbrev qS5 (Bx By : Nat) (kx : Int) (a1 : Option Addr) (nx c1 : Nat) (a2 : Option Addr) (mx c2 : Nat) (ex : Bool) (a4 : Option Addr) (gx c4 : Nat) (b1 : Option Addr) (d1 : Nat) (b2 : Option Addr) (d2 : Nat) (b4 : Option Addr) (d4 : Nat) (wc W : World) : Prop := W.cell? ⟨Bx, 0, none⟩ = some (.int .i64 kx) ∧ W.cell? ⟨Bx, 1, none⟩ = some (.slice a1 nx c1) ∧ W.cell? ⟨Bx, 2, none⟩ = some (.slice a2 mx c2) ∧ W.cell? ⟨Bx, 3, none⟩ = some (.bool ex) ∧ W.cell? ⟨Bx, 4, none⟩ = some (.slice a4 gx c4) ∧ W.cell? ⟨By, 0, none⟩ = some (.int .i64 kx) ∧ W.cell? ⟨By, 1, none⟩ = some (.slice b1 nx d1) ∧ W.cell? ⟨By, 2, none⟩ = some (.slice b2 mx d2) ∧ W.cell? ⟨By, 3, none⟩ = some (.bool ex) ∧ W.cell? ⟨By, 4, none⟩ = some (.slice b4 gx d4) ∧ Below wc.heap.size wc W
theorem qhk {w : World} (vo vl vq : Value) (o : Nm) (l : List Rc) (q : Nm) (hO : NmArg w vo o) (hL : RowArg w vl l) (hQ : NmArg w vq q) (t : Int) :
 Calls Tryz.prog 6 #[vo, vl, vq, .int .i64 t] w fun e w' => e = .returned (.bool true) ∧ Below w.heap.size w w' := by
 have hkn := qiL w
 have HG1 := qH0 (fun (W : World) (hb : Below w.heap.size w W) => qjZ vo vl o l w W hO hL hb)
 have HG2 := qH0 (fun (W : World) (hb : Below w.heap.size w W) => qjl vq q _ rfl w W hQ (hQ.1.below hb))
 have HNO := qH0 hO.1
 have HNQ := qH0 hQ.1
 have HLR := qH0 hL.row
 have HLOK := qH0 hL.ok
 obtain ⟨ao, co, rfl, -⟩ := nmAt_sl.1 hO.1
 obtain ⟨qo, hqo⟩ : ∃ k, (List.map strV o).length = k := ⟨_, rfl⟩
 obtain ⟨aq, cq, rfl, -⟩ := nmAt_sl.1 hQ.1
 obtain ⟨qn, hqn⟩ : ∃ k, (List.map strV q).length = k := ⟨_, rfl⟩
 obtain ⟨al, ml, cl, rfl⟩ : ∃ a m c, vl = .slice a m c := by
  obtain ⟨css, ⟨a, c, e, _⟩, _⟩ := hL
  exact ⟨a, _, c, e⟩
 rw [hqo] at HG1 HNO ⊢
 rw [hqn] at HG2 HNQ ⊢
 clear hO hL hQ hqo hqn
 go_enter Tryz.func6, Tryz.ntmps6
 go_wp2_with fail
 refine hkn.mono ?_
 rintro e w1 ⟨rfl, hb1⟩
 have HB1 := qH0 hb1
 have hc := HG1.out w1 hb1
 clear hkn hb1 HG1
 go_wp2_with fail
 refine hc.mono ?_
 rintro e w2 ⟨rfl, hb2⟩
 have HB2 := qH0 (qB0 HB1.out hb2)
 clear hb2 hc HB1
 obtain ⟨g1, hg1⟩ : ∃ g, (goodN o && goodRs l) = g := ⟨_, rfl⟩
 have HGG1 := qH0 hg1
 rw [hg1]
 clear hg1
 cases g1
 ·go_wp2
  go_ret
  exact ⟨rfl, HB2.out⟩
 have hc := HG2.out w2 HB2.out
 clear HG2
 go_wp2_with fail
 refine hc.mono ?_
 rintro e w3 ⟨rfl, hb3⟩
 have HB3 := qH0 (qB0 HB2.out hb3)
 clear hb3 hc HB2
 obtain ⟨g2, hg2⟩ : ∃ g, goodN q = g := ⟨_, rfl⟩
 have HGG2 := qH0 hg2
 rw [hg2]
 clear hg2
 cases g2
 ·go_wp2
  go_ret
  exact ⟨rfl, HB3.out⟩
 have hg := HGG1.out
 simp only [Bool.and_eq_true] at hg
 have hko : NmOK o := qbU (qcE hg.1)
 have hkq : NmOK q := qbU (qcE HGG2.out)
 have hlq := qlj (qcE HGG2.out)
 have hfr : fewRs l = true := by
  have := hg.2
  unfold goodRs at this; simp only [Bool.and_eq_true] at this; exact this.1
 obtain ⟨hl60, hokl⟩ := HLOK.out hfr
 have hal := qlp (rs := canonM l) (qcE HGG2.out) (qfM hfr)
 have hcd := qiw hg.2
 have HALL := qH0 hal
 have HCD := qH0 hcd
 have HARR := qH0 (hall_R hcd hal)
 have HHD := qH0 (fun s => qlr (qfM hfr) hcd (ancN q s))
 have HOKC := qH0 (qb4 l hokl)
 have HCL := qH0 (show (canonM l).length ≤ 60 by have := qaL l; omega)
 have HKO := qH0 hko; have HKQ := qH0 hkq; have HOKL := qH0 hokl; have HL60 := qH0 hl60
 have HLQ := qH0 (show q.length < 1048576 by omega)
 clear hg hko hkq hfr hl60 hokl hlq HLOK HGG1 HGG2 hal hcd
 have hc := qh7 (.slice ao qo co) (.slice al ml cl) o l (HNO.out.below HB3.out) HKO.out (HLR.out.below HB3.out) HOKL.out (by have := HL60.out; omega)
 obtain ⟨C, hC⟩ : ∃ C, canonM l = C := ⟨_, rfl⟩
 have HC := qH0 hC
 rw [hC] at hc HOKC HCL HALL HCD HARR HHD
 clear hC
 go_wp2_with fail
 refine hc.mono ?_
 rintro e w5 ⟨za, zn, zc, v1, m, c, rfl, hZ, hb5⟩
 have HB5 := qH0 (qB0 HB3.out hb5)
 clear hb5 hc HB3
 have hc := qbh t hZ (HNQ.out.below HB5.out) HKQ.out HLQ.out HALL.out
 obtain ⟨Rx, hR⟩ : ∃ R, lookM o C q t = R := ⟨_, rfl⟩
 have HOX := qH0 (show LkOK Rx by rw [← hR]; exact qfe (o := o) t HKQ.out HOKC.out (by have := HCL.out; omega) HALL.out)
 have HRR := qH0 (show lookR o C q t = Rx by rw [look_R t HCD.out]; exact hR)
 rw [hR] at hc
 clear hR hZ HALL
 go_wp2_with fail
 refine hc.mono ?_
 rintro e w6 ⟨cs, rfl, hk, hb⟩
 have hl := hk _ (FarKeep.refl _ _)
 obtain ⟨a1, c1, a2, c2, a4, c4, rfl⟩ := hl.lens
 obtain ⟨kx, hh⟩ : ∃ z, Rx.kind = z := ⟨_, rfl⟩
 have HKx := qH0 hh
 rw [hh] at hl ⊢
 clear hh
 obtain ⟨nx, hh⟩ : ∃ z, Rx.data.length = z := ⟨_, rfl⟩
 have HNx := qH0 hh
 rw [hh] at hl ⊢
 clear hh
 obtain ⟨mx, hh⟩ : ∃ z, Rx.name.length = z := ⟨_, rfl⟩
 have HMx := qH0 hh
 rw [hh] at hl ⊢
 clear hh
 obtain ⟨ex, hh⟩ : ∃ z, Rx.wild = z := ⟨_, rfl⟩
 have HEx := qH0 hh
 rw [hh] at hl ⊢
 clear hh
 obtain ⟨gx, hh⟩ : ∃ z, Rx.glue.length = z := ⟨_, rfl⟩
 have HGx := qH0 hh
 rw [hh] at hl ⊢
 clear hh
 have HB6 := qH0 (qB0 HB5.out hb)
 clear hk hc hb HB5
 have hA := (Below.refl w6.heap.size w6).alloc (qN0) (.cells #[.int .i64 kx, .slice a1 nx c1, .slice a2 mx c2, .bool ex, .slice a4 gx c4] 84)
 obtain ⟨Bx, hbx⟩ : ∃ b, w6.heap.size = b := ⟨_, rfl⟩
 obtain ⟨w8, hW8⟩ : ∃ W, w6.alloc (.cells #[.int .i64 kx, .slice a1 nx c1, .slice a2 mx c2, .bool ex, .slice a4 gx c4] 84) = W := ⟨_, rfl⟩
 have hX := knew w6 (.cells #[.int .i64 kx, .slice a1 nx c1, .slice a2 mx c2, .bool ex, .slice a4 gx c4] 84)
 rw [hW8] at hA hX
 rw [hbx] at hX
 have HB8 := qH0 (qB0 HB6.out hA)
 have Xx8 := qH0 hX
 have Lx8 := qH0 (hl.below hA)
 clear hA hX hl HB6
 have hc : Calls Tryz.prog 14 #[.slice al ml cl] w8 (qek w w8 l) := by
  obtain ⟨css, h1, h2⟩ := HLR.out
  exact qkf w (.slice al ml cl) css l w8 h1 h2 HB8.out (fun r hr => (HOKL.out r hr).2.2.2.1) (by rw [h2.1]; have := HL60.out; omega)
 unfold qek at hc
 go_wp2_with fail
 clear hW8 hbx
 refine hc.mono ?_
 rintro e w9 ⟨v9, cs9, rfl, ho9, hr9, hb9⟩
 have HB9 := qH0 (qB0 HB8.out hb9)
 have Xx9 := qH0 ((hb9.block _ (qaa Xx8.out)).trans Xx8.out)
 have Lx9 := qH0 (Lx8.out.below hb9)
 obtain ⟨fa, fc, rfl⟩ := OwnK.shape ho9
 have HF9 := qH0 (ql5 ho9 hr9 HB9.out)
 generalize List.length cs9 = fn at *
 clear hc ho9 hr9 hb9 HB8 Xx8 Lx8
 have hc := qna (.slice ao qo co) (.slice fa fn fc) o l (HNO.out.below HB9.out) HKO.out HF9.out HOKL.out (by have := HL60.out; omega)
 rw [HC.out] at hc
 go_wp2_with fail
 refine hc.mono ?_
 rintro e wa ⟨xa, xn, xc, x1, mx', cx', rfl, hZx, hba⟩
 have HBA := qH0 (qB0 HB9.out hba)
 have XxA := qH0 ((hba.block _ (qaa Xx9.out)).trans Xx9.out)
 have LxA := qH0 (Lx9.out.below hba)
 have hmx : mx' ≤ 1000000 := by
  obtain ⟨-, -, ⟨css, ⟨_, _, e, -⟩, h2⟩, -⟩ := id hZx
  injection e with _ e _
  have := HCL.out; rw [e, h2.1]; omega
 clear hc hba HB9 Xx9 Lx9
 have hc := qmo t hZx (qL0) (HNQ.out.below HBA.out) HKQ.out HLQ.out hmx (fun n t ht => qgP HCD.out n t ht) HHD.out (fun n t => by have := qko (rs := C) n t; have := HCL.out; omega) HARR.out
 rw [HRR.out] at hc
 unfold qcK at hc
 clear hZx hmx
 go_wp2_with fail
 refine hc.mono ?_
 rintro e wb ⟨cs, rfl, hk, hb⟩
 have hl := hk _ (FarKeep.refl _ _) hb
 obtain ⟨b1, d1, b2, d2, b4, d4, rfl⟩ := hl.lens
 rw [HKx.out, HNx.out, HMx.out, HEx.out, HGx.out] at hl ⊢
 have HBB := qH0 (qB0 HBA.out hb)
 have XxB := qH0 ((hb.block _ (qaa XxA.out)).trans XxA.out)
 have LxB := qH0 (LxA.out.below hb)
 clear hk hc hb HBA XxA LxA
 have hA := (Below.refl wb.heap.size wb).alloc (qN0) (.cells #[.int .i64 kx, .slice b1 nx d1, .slice b2 mx d2, .bool ex, .slice b4 gx d4] 88)
 obtain ⟨By, hby⟩ : ∃ b, wb.heap.size = b := ⟨_, rfl⟩
 obtain ⟨wc, hWc⟩ : ∃ W, wb.alloc (.cells #[.int .i64 kx, .slice b1 nx d1, .slice b2 mx d2, .bool ex, .slice b4 gx d4] 88) = W := ⟨_, rfl⟩
 have hX := knew wb (.cells #[.int .i64 kx, .slice b1 nx d1, .slice b2 mx d2, .bool ex, .slice b4 gx d4] 88)
 rw [hWc] at hA hX
 rw [hby] at hX
 have HF := qH0 (qB0 HBB.out hA)
 have Xx := qH0 ((hA.block _ (qaa XxB.out)).trans XxB.out)
 have Lx := qH0 (LxB.out.below hA)
 have Xy := qH0 hX
 have Ly := qH0 (hl.below hA)
 clear hA hX hl HBB XxB LxB HCD HARR HHD HOKC HCL HKO HKQ HOKL HL60 HLQ HLR HF9 HNO HNQ HC HRR
 have KC := qH0 (fun W (hb : Below wc.heap.size wc W) => (show (W.cell? ⟨Bx, 0, none⟩ = some (.int .i64 kx) ∧ W.cell? ⟨Bx, 1, none⟩ = some (.slice a1 nx c1) ∧ W.cell? ⟨Bx, 2, none⟩ = some (.slice a2 mx c2) ∧ W.cell? ⟨Bx, 3, none⟩ = some (.bool ex) ∧ W.cell? ⟨Bx, 4, none⟩ = some (.slice a4 gx c4) ∧ W.cell? ⟨By, 0, none⟩ = some (.int .i64 kx) ∧ W.cell? ⟨By, 1, none⟩ = some (.slice b1 nx d1) ∧ W.cell? ⟨By, 2, none⟩ = some (.slice b2 mx d2) ∧ W.cell? ⟨By, 3, none⟩ = some (.bool ex) ∧ W.cell? ⟨By, 4, none⟩ = some (.slice b4 gx d4) ∧ Below wc.heap.size wc W) from have x := (hb.block _ (qaa Xx.out)).trans Xx.out; have y := (hb.block _ (qaa Xy.out)).trans Xy.out; ⟨kcell x 0 _ rfl, kcell x 1 _ rfl, kcell x 2 _ rfl, kcell x 3 _ rfl, kcell x 4 _ rfl, kcell y 0 _ rfl, kcell y 1 _ rfl, kcell y 2 _ rfl, kcell y 3 _ rfl, kcell y 4 _ rfl, hb⟩))
 have KS := qH0 (fun W W' (h : (qS5 Bx By kx a1 nx c1 a2 mx c2 ex a4 gx c4 b1 d1 b2 d2 b4 d4 wc W)) (hb : Below W.heap.size W W') => KC.out W' (h.2.2.2.2.2.2.2.2.2.2.trans (hb.mono h.2.2.2.2.2.2.2.2.2.2.size)))
 have KD := qH0 (fun W (h : (qS5 Bx By kx a1 nx c1 a2 mx c2 ex a4 gx c4 b1 d1 b2 d2 b4 d4 wc W)) => KS.out W W.drew h ⟨rfl, rfl, rfl, qN0, fun _ _ => rfl⟩)
 have C1 := qH0 (fun W (h : (qS5 Bx By kx a1 nx c1 a2 mx c2 ex a4 gx c4 b1 d1 b2 d2 b4 d4 wc W)) => show Calls Tryz.prog 53 #[.agg #[.int .i64 kx, .slice a1 nx c1, .slice a2 mx c2, .bool ex, .slice a4 gx c4], .agg #[.int .i64 kx, .slice a1 nx c1, .slice a2 mx c2, .bool ex, .slice a4 gx c4]] W fun e w' => e = .returned (.bool true) ∧ Below W.heap.size W w' from by
  have hc := qej [.int .i64 kx, .slice a1 nx c1, .slice a2 mx c2, .bool ex, .slice a4 gx c4] [.int .i64 kx, .slice a1 nx c1, .slice a2 mx c2, .bool ex, .slice a4 gx c4] Rx Rx W (Lx.out.below h.2.2.2.2.2.2.2.2.2.2) (Lx.out.below h.2.2.2.2.2.2.2.2.2.2) HOX.out HOX.out
  rw [qc7] at hc; exact hc)
 have C2 := qH0 (fun W (h : (qS5 Bx By kx a1 nx c1 a2 mx c2 ex a4 gx c4 b1 d1 b2 d2 b4 d4 wc W)) => show Calls Tryz.prog 52 #[.agg #[.int .i64 kx, .slice a1 nx c1, .slice a2 mx c2, .bool ex, .slice a4 gx c4]] W fun e w' => ∃ ds, e = .returned (.agg ds.toArray) ∧ LkAt w' ds Rx ∧ Below W.heap.size W w' from qml W [.int .i64 kx, .slice a1 nx c1, .slice a2 mx c2, .bool ex, .slice a4 gx c4] Rx (Lx.out.below h.2.2.2.2.2.2.2.2.2.2) HOX.out)
 have C4 := qH0 (fun W ds (h : (qS5 Bx By kx a1 nx c1 a2 mx c2 ex a4 gx c4 b1 d1 b2 d2 b4 d4 wc W)) (h1 : LkAt W ds Rx) => show Calls Tryz.prog 51 #[.agg ds.toArray, .agg #[.int .i64 kx, .slice b1 nx d1, .slice b2 mx d2, .bool ex, .slice b4 gx d4]] W fun e w' => e = .returned (.bool true) ∧ Below W.heap.size W w' from by
  have hc := qfW ds [.int .i64 kx, .slice b1 nx d1, .slice b2 mx d2, .bool ex, .slice b4 gx d4] Rx Rx W h1 (Ly.out.below h.2.2.2.2.2.2.2.2.2.2) HOX.out HOX.out
  rw [qc7] at hc; exact hc)
 have hS0 := KC.out _ (Below.refl wc.heap.size wc)
 have HS0 := qH0 hS0
 have hSd := KD.out _ hS0
 obtain ⟨y0, y1, y2, y3, y4, y5, y6, y7, y8, y9, -⟩ := HS0.out
 go_wp2_with fail
 clear hWc hby
 go_region_held3 (fun W => W.cell? ⟨Bx, 0, none⟩ = some (.int .i64 kx) ∧ W.cell? ⟨Bx, 1, none⟩ = some (.slice a1 nx c1) ∧ W.cell? ⟨Bx, 2, none⟩ = some (.slice a2 mx c2) ∧ W.cell? ⟨Bx, 3, none⟩ = some (.bool ex) ∧ W.cell? ⟨Bx, 4, none⟩ = some (.slice a4 gx c4) ∧ W.cell? ⟨By, 0, none⟩ = some (.int .i64 kx) ∧ W.cell? ⟨By, 1, none⟩ = some (.slice b1 nx d1) ∧ W.cell? ⟨By, 2, none⟩ = some (.slice b2 mx d2) ∧ W.cell? ⟨By, 3, none⟩ = some (.bool ex) ∧ W.cell? ⟨By, 4, none⟩ = some (.slice b4 gx d4) ∧ Below wc.heap.size wc W)
  (first | with_reducible assumption | exact HS0.out | (with_reducible exact KD.out _ (by with_reducible assumption)))
  (first
    | ((with_reducible refine (C1.out _ (by with_reducible assumption)).mono ?_); rintro e u1 ⟨rfl, hb1⟩; have hS2 := KS.out _ _ (by with_reducible assumption) hb1; have HSA := qH0 hS2; clear hb1)
    | ((with_reducible refine (C2.out _ (by with_reducible assumption)).mono ?_); rintro e u2 ⟨ds2, rfl, hl2, hb2⟩; obtain ⟨⟨i1, i2, i3⟩, ⟨i4, i5, i6⟩, ⟨i7, i8, i9⟩, rfl⟩ := hl2.shape; have L2 := qH0 hl2; have hS2 := KS.out _ _ (by with_reducible assumption) hb2; clear hl2 hb2)
    | ((with_reducible refine (C4.out _ _ (by with_reducible assumption) L2.out).mono ?_); rintro e u4 ⟨rfl, hb4⟩; have hS2 := KS.out _ _ (by with_reducible assumption) hb4; clear hb4))
 all_goals
  go_wp2
  go_ret
  exact ⟨by first | rfl | simp, HF.out.trans (HSA.out.2.2.2.2.2.2.2.2.2.2.mono HF.out.size)⟩
end Go.Proofs.YtckammgnmgkieaaGreat
