/-
  The document's Of.
-/
import Derived.Test.YtckammgnmgkieaaGreatMQ09
import Derived.Test.YtckammgnmgkieaaGreatMQ30
import Derived.Test.YtckammgnmgkieaaGreatMQ17
import Derived.Test.YtckammgnmgkieaaGreatMQ21
import Derived.Test.YtckammgnmgkieaaGreatMQ20
import Derived.Test.YtckammgnmgkieaaGreatMQ13
import Derived.Deep.RegionHeld3
import Derived.Test.YtckammgnmgkieaaGreatMQ10
namespace Go.Proofs.YtckammgnmgkieaaGreat
open Go.RowKit Go.Shelf
set_option maxRecDepth 20000
set_option linter.unusedVariables false
set_option linter.unusedSimpArgs false
theorem results_rset {fn : Func} {t u : Tmp} (h : fn.results = #[.cell t 41, .tmp u]) (tmps : Array Value) (W : World) {a : Nat} {x0 x1 x2 x3 v : Value}
    (ht : tmps.getD t undef = .pointer (some ⟨a, 0, none⟩)) (hu : tmps.getD u undef = v) (hb : W.heap[a]? = some (.cells #[x0, x1, x2, x3] 41)) :
    (results fn tmps).run Tryz.prog W = .ok (.tuple #[.agg #[x0, x1, x2, x3], v]) W := by
  have ht' : tmps[t]?.getD undef = .pointer (some ⟨a, 0, none⟩) := by rw [← ht]; simp
  have hv' : tmps[u]?.getD undef = v := by rw [← hu]; simp
  have hA : ∀ w, Sem.run Tryz.prog (underlying 41) w = .ok _ w := run_underlying Tryz.underlying41
  have c0 := kcell hb 0 _ rfl; have c1 := kcell hb 1 _ rfl; have c2 := kcell hb 2 _ rfl; have c3 := kcell hb 3 _ rfl
  simp [results, h, ht', hv', loadVar, asAddr, go_sem, hA, c0, c1, c2, c3, isAgg]
def put4s (W : World) (B : Nat) (v0 v1 v2 v3 : Value) : World := (((W.setCell ⟨B, 0, none⟩ v0).setCell ⟨B, 1, none⟩ v1).setCell ⟨B, 2, none⟩ v2).setCell ⟨B, 3, none⟩ v3
theorem put4s_box {W : World} {B : Nat} {z0 z1 z2 z3 : Value} {T : TypeId} (h : W.heap[B]? = some (.cells #[z0, z1, z2, z3] T)) (v0 v1 v2 v3 : Value) : (put4s W B v0 v1 v2 v3).heap[B]? = some (.cells #[v0, v1, v2, v3] T) := by
  have q0 := kset h 0 v0
  have q1 := kset q0 1 v1
  have q2 := kset q1 2 v2
  exact kset q2 3 v3
theorem put4s_grown (W : World) (B : Nat) (v0 v1 v2 v3 : Value) : W.grownBy (put4s W B v0 v1 v2 v3) (some B) :=
  kg_trans (kg_trans (kg_trans (grownBy_set W B 0 v0) (grownBy_set _ B 1 v1)) (grownBy_set _ B 2 v2)) (grownBy_set _ B 3 v3)
theorem put4s_far {n : Nat} (W : World) {B : Nat} (hB : B < n) (v0 v1 v2 v3 : Value) : FarKeep n W (put4s W B v0 v1 v2 v3) := fun i h1 h2 => (put4s_grown W B v0 v1 v2 v3).block i h2 (fun e => by injection e; omega)
theorem put4s_below {n : Nat} {w W : World} (h : Below n w W) {B : Nat} (hB : n ≤ B) (v0 v1 v2 v3 : Value) : Below n w (put4s W B v0 v1 v2 v3) :=
  (((h.setCell (p := ⟨B, 0, none⟩) hB _).setCell (p := ⟨B, 1, none⟩) hB _).setCell (p := ⟨B, 2, none⟩) hB _).setCell (p := ⟨B, 3, none⟩) hB _
theorem setR_none (w W : World) : RSetP w W [.slice none 0 0, .int .i64 0, .int .u32 0, .slice none 0 0] ⟨[], 0, 0, []⟩ :=
  ⟨(none, 0, 0), (none, 0, 0), [], rfl, nm_nil w, SlK.nil W, Dts.nil w⟩
theorem find_stepS {α : Type} {p : α → Bool} {l : List α} {k : Nat} (h : k < l.length) (hn : ∀ j (hj : j < l.length), j < k → p l[j] = false) : l.find? p = if p l[k] = true then some l[k] else (l.drop (k + 1)).find? p := by
  have e : l = l.take k ++ l[k] :: l.drop (k + 1) := by rw [← List.drop_eq_getElem_cons h, List.take_append_drop]
  have e1 : (l.take k).find? p = none := by
    rw [List.find?_eq_none]
    intro x hx
    obtain ⟨j, hj, rfl⟩ := List.mem_iff_getElem.1 hx
    rw [List.length_take] at hj
    rw [List.getElem_take, hn j (by omega) (by omega)]; simp
  conv => lhs; rw [e, List.find?_append, e1, Option.none_or, List.find?_cons]
  cases p l[k] <;> simp
def OfPostD (w0 w : World) (s : Option St) (e : Ending) (w' : World) : Prop := ∃ cs, e = .returned (.tuple #[.agg cs.toArray, .bool s.isSome]) ∧ RSetP w0 w' cs (s.getD ⟨[], 0, 0, []⟩) ∧ Below w.heap.size w w'
theorem setsM_len : ∀ (n : Nat) (c : List Rc), c.length ≤ n → (setsM c).length ≤ c.length
  | 0, c, h => by
    obtain rfl : c = [] := List.eq_nil_of_length_eq_zero (by omega)
    rw [setsM_nil]; exact Nat.le_refl _
  | n + 1, [], h => by rw [setsM_nil]; exact Nat.le_refl _
  | n + 1, y :: r, h => by
    have hl : (r.dropWhile (belR y)).length ≤ r.length := (List.dropWhile_sublist _).length_le
    rw [setsM_cons, List.length_cons, List.length_cons]
    have := setsM_len n (r.dropWhile (belR y)) (by simp at h; omega)
    omega
set_option maxRecDepth 100000 in
set_option maxHeartbeats 16000000 in
theorem ref_Of (v vo : Value) (o : Nm) (t : Int) (cs0 : List (List Value)) (l : List Rc) (w0 w : World) (hA : SlK w v cs0) (hR : Rcs w0 cs0 l) (hb0 : Below w0.heap.size w0 w) (hO : NmAt w vo o) (hko : NmOK o) (hOK : ∀ r ∈ l, RcOK r) (hl : cs0.length ≤ 1000000) :
    Calls Tryz.prog 22 #[v, vo, .int .i64 t] w (OfPostD w0 w (ofM l o t)) := by
  have hc := fun (W : World) (hb : Below w.heap.size w W) => ref_Sets w0 W v cs0 l (hA.below hb) hR (hb0.trans (hb.mono hb0.size)) hOK hl
  have hoks : ∀ s ∈ setsM (canonM l), NmOK s.owner := fun s h => (sets_ok hOK h).1
  have hfd := ofM_find l o t
  have hsl : (setsM (canonM l)).length ≤ 1000000 := by
    have h1 := setsM_len _ (canonM l) (Nat.le_refl _)
    have h2 := canonM_length l
    have h3 : l.length ≤ 1000000 := by rw [← hR.1]; exact hl
    omega
  obtain ⟨S, hS⟩ : ∃ S, setsM (canonM l) = S := ⟨_, rfl⟩
  rw [hS] at hoks hfd hsl
  have hc2 := hc
  simp only [hS] at hc2
  obtain ⟨res, hres⟩ : ∃ r, ofM l o t = r := ⟨_, rfl⟩
  rw [hres] at hfd ⊢
  have HB00 := Lib.hid hb0; have HFD := Lib.hid hfd; have HOKS := Lib.hid hoks; have HNO := Lib.hid hO; have HKO := Lib.hid hko
  have HSL := Lib.hid hsl; have HCC := Lib.hid hc2
  obtain ⟨a, c, rfl, -⟩ := id hA
  obtain ⟨ao, co, rfl, -⟩ := nmAt_sl.1 hO
  obtain ⟨qo, hqo⟩ : ∃ k, (List.map strV o).length = k := ⟨_, rfl⟩
  rw [hqo] at HNO ⊢
  obtain ⟨n0, hn0⟩ : ∃ k, cs0.length = k := ⟨_, rfl⟩
  rw [hn0] at HCC ⊢
  clear hA hR hb0 hO hko hOK hl hc hc2 hoks hfd hsl hS hres hqo hn0
  have hA0 := (Below.refl w.heap.size w).alloc (Nat.le_refl _) (.cells #[.slice none 0 0, .int .i64 0, .int .u32 0, .slice none 0 0] 41)
  have hX := knew w (.cells #[.slice none 0 0, .int .i64 0, .int .u32 0, .slice none 0 0] 41)
  have HX := Lib.hid hX; have HA0 := Lib.hid hA0
  have hc := HCC.out _ hA0
  clear hA0 hX HCC
  go_enter Tryz.func22, Tryz.ntmps22
  go_wp2_with fail
  refine hc.mono ?_
  rintro e w1 ⟨v1, css, rfl, hcl, hrs, hb1⟩
  have HB1 := Lib.hid (HA0.out.trans (hb1.mono HA0.out.size))
  have HX1 := Lib.hid ((hb1.block _ (kblock_lt HX.out)).trans HX.out)
  obtain ⟨hs1, he1⟩ := hrs w1 (FarKeep.refl _ _)
  have HRS := Lib.hid (fun (W' : World) (hf : FarKeep (w.heap.size + 1) w1 W') => (hrs W' (by rw [World.size_alloc]; exact hf)).2)
  obtain ⟨sa, sc, rfl, -⟩ := id hs1
  obtain ⟨n, hn⟩ : ∃ n, css.length = n := ⟨_, rfl⟩
  have HE1 := Lib.hid he1
  rw [hn] at hs1 ⊢
  have hcl2 : S.length = n := by rw [← hn]; exact hcl.symm
  have HR1 := Lib.hid hs1; have HN := Lib.hid hn; have HNS := Lib.hid hcl2
  have HL4 := Lib.hid (show ∀ cs ∈ css, cs.length = 4 from fun cs hc => by
    obtain ⟨i, hi, rfl⟩ := List.mem_iff_getElem.1 hc
    obtain ⟨x0, x3, ds, e, _⟩ := he1 i hi (by omega)
    rw [e]; rfl)
  have hnx : n ≤ 1000000 := by have := HSL.out; omega
  clear hc hrs hb1 hs1 he1 HA0 HX hn hcl hcl2
  go_wp2
  go_loopw [9] (fun vi wr => ∃ k : Nat, vi = .int .i64 k ∧ k ≤ n ∧ Hid (∀ j (hj : j < S.length), j < k → (decide (S[j].ty = t) && sameN S[j].owner o) = false) ∧ Hid (Below w1.heap.size w1 wr)) (fun vi _ => n - (intOf vi).toNat)
  case atStart => exact ⟨0, rfl, Nat.zero_le _, Lib.hid (fun j hj h => absurd h (Nat.not_lt_zero _)), Lib.hid (Below.refl _ _)⟩
  case round =>
    obtain ⟨k, rfl, hk, HNO2, HB⟩ := hrel
    have HBW := Lib.hid (HB1.out.trans (HB.out.mono HB1.out.size))
    by_cases hlt : k < n
    · have hltz : (k : Int) < (n : Int) := by omega
      have hk0 : k < css.length := by have := HN.out; omega
      have hk1 : k < S.length := by have := HNS.out; omega
      obtain ⟨b, off, rfl, hb, hel⟩ := HR1.out.elem4 HL4.out (by omega)
      obtain ⟨⟨p0, q0, r0⟩, ⟨p3, q3, r3⟩, ds, e0, hn1, -⟩ := HE1.out k hk0 hk1
      unfold slW at e0 hn1
      simp only at e0 hn1
      have hce := fun W hb => hel k hk0 _ _ _ _ e0 W hb
      have hks := HOKS.out _ (List.getElem_mem hk1)
      have hst := find_stepS (p := fun s : St => decide (s.ty = t) && sameN s.owner o) hk1 HNO2.out
      rw [← HFD.out] at hst
      have HRF := Lib.hid (fun (W' : World) (hf : FarKeep (w.heap.size + 1) w1 W') => (show RSetP w0 W' [.slice p0 q0 r0, .int .i64 (S[k]'hk1).ty, .int .u32 ((S[k]'hk1).ttl : Int), .slice p3 q3 r3] (S[k]'hk1) by
        have h := HRS.out W' hf k hk0 hk1
        rw [e0] at h; exact h))
      have HSK := Lib.hid (show ∀ (h : k < S.length) , (S[k]'h) = (S[k]'hk1) from fun _ => rfl)
      obtain ⟨s, hs⟩ : ∃ s, S[k]'hk1 = s := ⟨_, rfl⟩
      rw [hs] at hce hks hst hn1 HRF HSK
      obtain ⟨d0, d1, d2, d3⟩ := hce wr HB.out
      have HCE := Lib.hid hce
      have HST := Lib.hid hst
      have hcs := kn_RSame (.slice p0 q0 r0) (.slice ao qo co) s.owner o _ rfl wr (hn1.below (HB00.out.trans (HBW.out.mono HB00.out.size))) (HNO.out.below HBW.out) hks HKO.out
      obtain ⟨t1, ht1⟩ : ∃ b, sameN s.owner o = b := ⟨_, rfl⟩
      rw [ht1] at hcs
      have HT1 := Lib.hid ht1
      clear hce hst hs hn1 ht1 hks hk1 hk0 e0 hel hb
      by_cases hty : s.ty = t
      · have htyb : (s.ty == t) = true := by simpa using hty
        have HTY := Lib.hid hty
        clear hty
        go_wp2_with fail
        refine hcs.mono ?_
        rintro e w2 ⟨rfl, hb2⟩
        have HB2 := Lib.hid (HB.out.trans (hb2.mono HB.out.size))
        obtain ⟨c0, c1, c2, c3⟩ := HCE.out w2 HB2.out
        clear hcs hb2 d0 d1 d2 d3 htyb
        cases t1
        · have HNX : Hid (∀ j (hj : j < S.length), j < k + 1 → (decide (S[j].ty = t) && sameN S[j].owner o) = false) := Lib.hid (fun j hj h => by
            by_cases e : j < k
            · exact HNO2.out j hj e
            · obtain rfl : j = k := by omega
              rw [HSK.out, HT1.out, Bool.and_false])
          clear c0 c1 c2 c3
          go_wp2
          go_roundw
          case measure => simp [intOf]; omega
          case rel => exact ⟨k + 1, by go_num, by omega, HNX, HB2⟩
        · have HRE : Hid (res = some s) := Lib.hid (by rw [HST.out, if_pos (by rw [HT1.out, decide_eq_true HTY.out]; rfl)])
          have hx2 := (HB2.out.block _ (kblock_lt HX1.out)).trans HX1.out
          have s0 := kcell hx2 0 _ rfl; have s1 := kcell hx2 1 _ rfl; have s2 := kcell hx2 2 _ rfl; have s3 := kcell hx2 3 _ rfl
          have u0 := kfrozen hx2 0; have u1 := kfrozen hx2 1; have u2 := kfrozen hx2 2; have u3 := kfrozen hx2 3
          have HX2 := Lib.hid hx2
          clear hx2
          go_wp2
          refine bodyPost_ret (results_rset rfl _ (put4s w2 w.heap.size (.slice p0 q0 r0) (.int .i64 s.ty) (.int .u32 (s.ttl : Int)) (.slice p3 q3 r3)) rfl rfl (put4s_box HX2.out _ _ _ _)) rfl ?_
          have hf := put4s_far (n := w.heap.size + 1) w2 (Nat.lt_succ_self _) (.slice p0 q0 r0) (.int .i64 s.ty) (.int .u32 (s.ttl : Int)) (.slice p3 q3 r3)
          have hbw := put4s_below (HB1.out.trans (HB2.out.mono HB1.out.size)) (Nat.le_refl w.heap.size) (.slice p0 q0 r0) (.int .i64 s.ty) (.int .u32 (s.ttl : Int)) (.slice p3 q3 r3)
          exact ⟨[.slice p0 q0 r0, .int .i64 s.ty, .int .u32 (s.ttl : Int), .slice p3 q3 r3], by rw [HRE.out]; rfl, by rw [HRE.out]; exact HRF.out _ ((FarKeep.of_below HB2.out).trans HB2.out.size hf), hbw⟩
      · have htyb : (s.ty == t) = false := by simpa using hty
        have HNX : Hid (∀ j (hj : j < S.length), j < k + 1 → (decide (S[j].ty = t) && sameN S[j].owner o) = false) := Lib.hid (fun j hj h => by
          by_cases e : j < k
          · exact HNO2.out j hj e
          · obtain rfl : j = k := by omega
            rw [HSK.out, decide_eq_false hty, Bool.false_and])
        clear hcs hty
        go_wp2
        go_roundw
        case measure => simp [intOf]; omega
        case rel => exact ⟨k + 1, by go_num, by omega, HNX, HB⟩
    · obtain rfl : k = n := by omega
      have HRE : Hid (res = none) := Lib.hid (by
        rw [HFD.out, List.find?_eq_none]
        intro x hx
        obtain ⟨j, hj, rfl⟩ := List.mem_iff_getElem.1 hx
        rw [HNO2.out j hj (by have := HNS.out; omega)]; simp)
      have hx2 := (HB.out.block _ (kblock_lt HX1.out)).trans HX1.out
      have s0 := kcell hx2 0 _ rfl; have s1 := kcell hx2 1 _ rfl; have s2 := kcell hx2 2 _ rfl; have s3 := kcell hx2 3 _ rfl
      have u0 := kfrozen hx2 0; have u1 := kfrozen hx2 1; have u2 := kfrozen hx2 2; have u3 := kfrozen hx2 3
      have HX2 := Lib.hid hx2
      clear hx2
      go_wp2
      refine bodyPost_ret (results_rset rfl _ (put4s wr w.heap.size (.slice none 0 0) (.int .i64 0) (.int .u32 0) (.slice none 0 0)) rfl rfl (put4s_box HX2.out _ _ _ _)) rfl ?_
      exact ⟨[.slice none 0 0, .int .i64 0, .int .u32 0, .slice none 0 0], by rw [HRE.out]; rfl, by rw [HRE.out]; exact setR_none _ _, put4s_below HBW.out (Nat.le_refl w.heap.size) _ _ _ _⟩
end Go.Proofs.YtckammgnmgkieaaGreat

/-
  The document's zone: what data it has of a name; a zone made.
-/
namespace Go.Proofs.YtckammgnmgkieaaGreat
open Go.RowKit Go.Shelf
set_option maxRecDepth 20000
set_option linter.unusedVariables false
set_option linter.unusedSimpArgs false
def dataM (rs : List Rc) (n : Nm) (t : Int) : List Dat := ((ofM rs n t).getD ⟨[], 0, 0, []⟩).data
def DatPost (w0 w : World) (ds : List Dat) (e : Ending) (w' : World) : Prop := ∃ v css, e = .returned v ∧ SlK w' v css ∧ Dts w0 css ds ∧ Below w.heap.size w w'
set_option maxRecDepth 100000 in
set_option maxHeartbeats 8000000 in
theorem ref_datas {w0 w : World} {za v1 : Option Addr} {zn zc m c : Nat} {o n : Nm} {rs : List Rc} {vn : Value} (t : Int) (h : ZonS w0 za zn zc v1 m c o rs) (hb0 : Below w0.heap.size w0 w) (hO : NmAt w vn n) (hko : NmOK n) (hm : m ≤ 1000000) :
    Calls Tryz.prog 79 #[.agg #[.slice za zn zc, .slice v1 m c], vn, .int .i64 t] w (DatPost w0 w (dataM rs n t)) := by
  obtain ⟨-, -, ⟨css, hA, hR⟩, hOK, hl⟩ := h
  have hcl : css.length = m := by
    obtain ⟨_, _, e, -⟩ := id hA
    injection e with _ e _
    exact e.symm
  have hc := fun (W : World) (hb : Below w.heap.size w W) => ref_Of (.slice v1 m c) vn n t css rs w0 W (hA.below (hb0.trans (hb.mono hb0.size))) hR (hb0.trans (hb.mono hb0.size)) (hO.below hb) hko hOK (by omega)
  obtain ⟨an, cn, rfl, -⟩ := nmAt_sl.1 hO
  obtain ⟨qn, hqn⟩ : ∃ k, (List.map strV n).length = k := ⟨_, rfl⟩
  rw [hqn] at hc ⊢
  have hD : dataM rs n t = ((ofM rs n t).getD ⟨[], 0, 0, []⟩).data := rfl
  obtain ⟨D, hDD⟩ : ∃ D, dataM rs n t = D := ⟨_, rfl⟩
  rw [hDD] at hD ⊢
  have HD := Lib.hid hD
  have hB0 := (Below.refl w.heap.size w).alloc (Nat.le_refl _) (.cells #[.slice za zn zc, .slice v1 m c] 60)
  have X0 := Lib.hid (knew w (.cells #[.slice za zn zc, .slice v1 m c] 60))
  have hcc := hc _ hB0
  have HB0 := Lib.hid hB0
  have y1 := kcell X0.out 1 _ rfl
  clear hA hR hOK hO hko hc hB0 hqn hD hDD hcl hb0
  obtain ⟨res, hres⟩ : ∃ r, ofM rs n t = r := ⟨_, rfl⟩
  rw [hres] at hcc HD
  clear hres
  go_enter Tryz.func79, Tryz.ntmps79
  go_wp2_with fail
  refine hcc.mono ?_
  rintro e w1 ⟨cs, rfl, ⟨⟨p0, q0, r0⟩, ⟨p3, q3, r3⟩, ds, rfl, h0, h1, h2⟩, hb1⟩
  unfold slW at h1 ⊢
  simp only at h1 ⊢
  have hA1 := (Below.refl w1.heap.size w1).alloc (Nat.le_refl _) (.cells #[.slice p0 q0 r0, .int .i64 (res.getD ⟨[], 0, 0, []⟩).ty, .int .u32 ((res.getD ⟨[], 0, 0, []⟩).ttl : Int), .slice p3 q3 r3] 41)
  have z3 := kcell (knew w1 (.cells #[.slice p0 q0 r0, .int .i64 (res.getD ⟨[], 0, 0, []⟩).ty, .int .u32 ((res.getD ⟨[], 0, 0, []⟩).ttl : Int), .slice p3 q3 r3] 41)) 3 _ rfl
  have HS := Lib.hid (h1.below hA1)
  have HDT := Lib.hid h2
  have HB1 := Lib.hid (HB0.out.trans ((hb1.trans (hA1.mono hb1.size)).mono HB0.out.size))
  clear h0 h1 h2 hb1 hA1 hcc y1
  generalize (res.getD ⟨[], 0, 0, []⟩).ty = ty at *
  generalize ((res.getD ⟨[], 0, 0, []⟩).ttl : Int) = tl at *
  go_wp2
  go_ret
  exact ⟨_, ds, rfl, HS.out, by rw [HD.out]; exact HDT.out, HB1.out⟩
theorem results_zoneR {fn : Func} {t : Tmp} (h : fn.results = #[.cell t 60]) (tmps : Array Value) (W : World) {a : Nat} {x0 x1 : Value}
    (ht : tmps.getD t undef = .pointer (some ⟨a, 0, none⟩)) (hb : W.heap[a]? = some (.cells #[x0, x1] 60)) : (results fn tmps).run Tryz.prog W = .ok (.agg #[x0, x1]) W := by
  have ht' : tmps[t]?.getD undef = .pointer (some ⟨a, 0, none⟩) := by rw [← ht]; simp
  have hu : ∀ w, Sem.run Tryz.prog (underlying 60) w = .ok _ w := run_underlying Tryz.underlying60
  have y0 := kcell hb 0 _ rfl; have y1 := kcell hb 1 _ rfl
  simp [results, h, ht', loadVar, asAddr, go_sem, hu, y0, y1, isAgg]
set_option maxRecDepth 100000 in
set_option maxHeartbeats 8000000 in
theorem ref_New {w : World} (vo vl : Value) (o : Nm) (l : List Rc) (hO : NmAt w vo o) (hko : NmOK o) (hL : RowC w vl l) (hOK : ∀ r ∈ l, RcOK r) (hl : l.length ≤ 1000000) :
    Calls Tryz.prog 29 #[vo, vl] w (NewPost w o (canonM l)) := by
  obtain ⟨css, hA, hR⟩ := hL
  have hB0 := (Below.refl w.heap.size w).alloc (Nat.le_refl _) (.cells #[.slice none 0 0, .slice none 0 0] 60)
  have X0 := Lib.hid (knew w (.cells #[.slice none 0 0, .slice none 0 0] 60))
  have hc := ref_CanonW vl css l w _ (hA.below hB0) hR hB0 hOK (by rw [hR.1]; exact hl)
  have HOKC := Lib.hid (canonM_ok' l hOK)
  have HLC := Lib.hid (show (canonM l).length ≤ 1048576 by have := canonM_length l; omega)
  have HB0 := Lib.hid hB0; have HNO := Lib.hid hO; have HKO := Lib.hid hko
  obtain ⟨ao, co, rfl, -⟩ := nmAt_sl.1 hO
  obtain ⟨qo, hqo⟩ : ∃ k, (List.map strV o).length = k := ⟨_, rfl⟩
  rw [hqo] at HNO ⊢
  obtain ⟨al, cl, rfl, -⟩ := id hA
  obtain ⟨nl, hnl⟩ : ∃ k, css.length = k := ⟨_, rfl⟩
  rw [hnl] at hc ⊢
  obtain ⟨C, hC⟩ : ∃ C, canonM l = C := ⟨_, rfl⟩
  unfold CanWPost at hc
  rw [hC] at hc HOKC HLC ⊢
  clear hA hR hOK hO hko hB0 hqo hnl hC hl
  go_enter Tryz.func29, Tryz.ntmps29
  go_wp2_with fail
  refine hc.mono ?_
  rintro e w1 ⟨v1, csd, rfl, ho, hr, hb1⟩
  obtain ⟨a1, c1, rfl⟩ := OwnK.shape ho
  obtain ⟨m, hm⟩ : ∃ m, csd.length = m := ⟨_, rfl⟩
  have hcm : C.length = m := by rw [← hm]; exact hr.1.symm
  rw [hm] at ho ⊢
  have hx1 := (hb1.block _ (kblock_lt X0.out)).trans X0.out
  have HX1 := Lib.hid hx1
  have HB1 := Lib.hid (HB0.out.trans (hb1.mono HB0.out.size))
  have HO1 := Lib.hid ho; have HR1 := Lib.hid hr
  have HM := Lib.hid (show m ≤ 1048576 by have := HLC.out; omega)
  have y0 := kcell hx1 0 _ rfl; have y1 := kcell hx1 1 _ rfl; have z0 := kfrozen hx1 0; have z1 := kfrozen hx1 1
  clear hc ho hr hb1 hx1 hm hcm
  go_wp2_with fail
  have q0 := kset HX1.out 0 (.slice ao qo co)
  have q1 := kset q0 1 (.slice a1 m c1)
  refine bodyPost_ret (results_zoneR rfl _ _ rfl q1) rfl ?_
  have hbw : Below w.heap.size w ((w1.setCell ⟨w.heap.size, 0, none⟩ (.slice ao qo co)).setCell ⟨w.heap.size, 1, none⟩ (.slice a1 m c1)) := (HB1.out.setCell (p := ⟨w.heap.size, 0, none⟩) (Nat.le_refl _) _).setCell (p := ⟨w.heap.size, 1, none⟩) (Nat.le_refl _) _
  have hf : FarKeep (w.heap.size + 1) w1 ((w1.setCell ⟨w.heap.size, 0, none⟩ (.slice ao qo co)).setCell ⟨w.heap.size, 1, none⟩ (.slice a1 m c1)) := (FarKeep.set _ _ _ _ (Nat.lt_succ_self _)).trans (grownBy_set w1 w.heap.size 0 (.slice ao qo co)).size (FarKeep.set _ _ _ _ (Nat.lt_succ_self _))
  have ho := HO1.out
  rw [World.size_alloc] at ho
  exact ⟨ao, qo, co, a1, m, c1, rfl, ⟨HNO.out.below hbw, HKO.out, ⟨csd, SlK.of_own (OwnK.move ho hf) HR1.out.ck, HR1.out.below hbw⟩, HOKC.out, HM.out⟩, hbw⟩
end Go.Proofs.YtckammgnmgkieaaGreat

/-
  The document's glue.
-/
namespace Go.Proofs.YtckammgnmgkieaaGreat
open Go.RowKit Go.Shelf
set_option maxRecDepth 20000
set_option linter.unusedVariables false
set_option linter.unusedSimpArgs false
theorem Dts.append {W : World} {a b : List (List Value)} {l m : List Dat} (h : Dts W a l) (g : Dts W b m) : Dts W (a ++ b) (l ++ m) := by
  refine ⟨by simp [h.1, g.1], fun i h1 h2 => ?_⟩
  by_cases hi : i < a.length
  · have hi2 : i < l.length := by have := h.1; omega
    rw [List.getElem_append_left hi, List.getElem_append_left hi2]
    exact h.2 i hi hi2
  · have hl := h.1
    have hi2 : ¬ i < l.length := by omega
    rw [List.length_append] at h1 h2
    rw [List.getElem_append_right (by omega), List.getElem_append_right (by omega)]
    have e : i - a.length = i - l.length := by rw [hl]
    simp only [e]
    exact g.2 (i - l.length) (by omega) (by omega)
def GlueD (w0 w : World) (ds : List Dat) (e : Ending) (w' : World) : Prop := ∃ v css, e = .returned v ∧ OwnC 5 107 w' w.heap.size v css ∧ Dts w0 css ds ∧ Below w.heap.size w w'
set_option maxRecDepth 100000 in
set_option maxHeartbeats 16000000 in
theorem ref_Glue {w0 w : World} {za v1 : Option Addr} {zn zc m c : Nat} {o n : Nm} {rs : List Rc} {vn : Value} (h : ZonS w0 za zn zc v1 m c o rs) (hb0 : Below w0.heap.size w0 w) (hO : NmAt w vn n) (hko : NmOK n) (hm : m ≤ 1000000) :
    Calls Tryz.prog 43 #[.agg #[.slice za zn zc, .slice v1 m c], vn] w (GlueD w0 w (glueM rs n)) := by
  have hln : rs.length = m := by
    obtain ⟨-, -, ⟨css, ⟨_, _, e, -⟩, h2⟩, -⟩ := id h
    injection e with _ e _
    rw [e]; exact h2.1.symm
  have HCD := Lib.hid (fun (t : Int) (W : World) (hb : Below w.heap.size w W) => ref_datas t h (hb0.trans (hb.mono hb0.size)) (hO.below hb) hko hm)
  obtain ⟨an, cn, rfl, -⟩ := nmAt_sl.1 hO
  obtain ⟨qn, hqn⟩ : ∃ k, (List.map strV n).length = k := ⟨_, rfl⟩
  rw [hqn] at HCD ⊢
  have HL1 := Lib.hid (show (dataM rs n 1).length ≤ 1000000 by have := ofM_len rs n 1; unfold dataM; omega)
  have HL2 := Lib.hid (show (dataM rs n 28).length ≤ 1000000 by have := ofM_len rs n 28; unfold dataM; omega)
  have HG := Lib.hid (show glueM rs n = dataM rs n 1 ++ dataM rs n 28 from rfl)
  unfold DatPost at HCD
  generalize glueM rs n = res at *
  have C1 := Lib.hid (fun W hb => HCD.out 1 W hb)
  have C2 := Lib.hid (fun W hb => HCD.out 28 W hb)
  obtain ⟨D1, hD1⟩ : ∃ d, dataM rs n 1 = d := ⟨_, rfl⟩
  obtain ⟨D2, hD2⟩ : ∃ d, dataM rs n 28 = d := ⟨_, rfl⟩
  rw [hD1] at HL1 HG C1
  rw [hD2] at HL2 HG C2
  clear hO hko hqn h hb0 HCD hD1 hD2 hln
  have hBz := (Below.refl w.heap.size w).alloc (Nat.le_refl _) (.cells #[.slice za zn zc, .slice v1 m c] 60)
  obtain ⟨W0, hW0⟩ : ∃ W, w.alloc (.cells #[.slice za zn zc, .slice v1 m c] 60) = W := ⟨_, rfl⟩
  have hX := knew w (.cells #[.slice za zn zc, .slice v1 m c] 60)
  rw [hW0] at hX hBz
  have HX := Lib.hid hX; have HBZ := Lib.hid hBz
  have hzs : W0.heap.size = w.heap.size + 1 := by rw [← hW0]; simp
  have HZS := Lib.hid hzs
  have KC := Lib.hid (fun W (hb : Below W0.heap.size W0 W) => (show (W.cell? ⟨w.heap.size, 0, none⟩ = some (.slice za zn zc) ∧ W.cell? ⟨w.heap.size, 1, none⟩ = some (.slice v1 m c) ∧ Below W0.heap.size W0 W) from
    ⟨kcell ((hb.block _ (kblock_lt HX.out)).trans HX.out) 0 _ rfl, kcell ((hb.block _ (kblock_lt HX.out)).trans HX.out) 1 _ rfl, hb⟩))
  have KR := Lib.hid (fun W (h : W.cell? ⟨w.heap.size, 0, none⟩ = some (.slice za zn zc) ∧ W.cell? ⟨w.heap.size, 1, none⟩ = some (.slice v1 m c) ∧ Below W0.heap.size W0 W) => KC.out W.drew (h.2.2.trans ⟨rfl, rfl, rfl, Nat.le_refl _, fun _ _ => rfl⟩))
  have KA := Lib.hid (fun W o (h : W.cell? ⟨w.heap.size, 0, none⟩ = some (.slice za zn zc) ∧ W.cell? ⟨w.heap.size, 1, none⟩ = some (.slice v1 m c) ∧ Below W0.heap.size W0 W) => KC.out (W.alloc o) (h.2.2.alloc h.2.2.size o))
  have KS := Lib.hid (fun W W' (h : W.cell? ⟨w.heap.size, 0, none⟩ = some (.slice za zn zc) ∧ W.cell? ⟨w.heap.size, 1, none⟩ = some (.slice v1 m c) ∧ Below W0.heap.size W0 W) (hb : Below W.heap.size W W') => KC.out W' (h.2.2.trans (hb.mono h.2.2.size)))
  -- the two ways: the empty row before the first call, or behind it
  have hS0 := KC.out W0 (Below.refl _ _)
  have hbD : Below W0.heap.size W0 W0.drew := ⟨rfl, rfl, rfl, Nat.le_refl _, fun _ _ => rfl⟩
  have hbE : Below W0.heap.size W0 (W0.alloc (.cells #[] 107)).drew := hbD.alloc (Nat.le_refl _) _
  have HC1E := Lib.hid (C1.out _ (HBZ.out.trans (hbE.mono HBZ.out.size)))
  have HC1D := Lib.hid (C1.out _ (HBZ.out.trans (hbD.mono HBZ.out.size)))
  have HOE := Lib.hid (show OwnC 5 107 (W0.alloc (.cells #[] 107)).drew W0.heap.size (.slice (some ⟨W0.heap.size, 0, none⟩) 0 0) [] from ownC_lit 5 107 W0.drew)
  have HBE := Lib.hid hbE; have HBD := Lib.hid hbD
  have HA1 := Lib.hid (fun (W : World) (g : Option Addr) (p q : Nat) (v : Option Addr) (ds : List (List Value)) (ho : OwnC 5 107 W W0.heap.size (.slice g 0 0) []) (hs : SlK W (.slice v p q) ds) (hd : Dts w0 ds D1) (hb : Below W0.heap.size W0 W) (ops : Array Oper) (o : Oper) (a : Act) (K : Act → World → Prop) (Q : Exit → Act → World → Prop) (E : Prop) (h1 : o.guard = none) (h2 : o.op = .call { callee := .builtin .append, args := #[.tmp 5, .tmp 8], argTypes := #[39, 39] }) (h3 : a.eval (.tmp 5) = .slice g 0 0) (h4 : a.eval (.tmp 8) = .slice v p q) h => step_append_slk (ops := ops) (a := a) (K := K) (Q := Q) (E := E) W h1 (.tmp 5) (.tmp 8) elem_refD (by decide) h2 W0.heap.size _ [] h3 ho _ ds h4 hs (dts_len hd) (dts_one hd) hb.size (by have h8 := HL1.out; have h9 := hd.1; simp only [List.length_nil]; unfold maxLen; omega) (by have h8 := HL1.out; have h9 := hd.1; simp only [List.length_nil]; omega) h)
  have HA2 := Lib.hid (fun (W : World) (x : Value) (p q : Nat) (v : Option Addr) (ds es : List (List Value)) (ho : OwnC 5 107 W W0.heap.size x ds) (hd1 : Dts w0 ds D1) (hs : SlK W (.slice v p q) es) (hd : Dts w0 es D2) (hb : Below W0.heap.size W0 W) (ops : Array Oper) (o : Oper) (a : Act) (K : Act → World → Prop) (Q : Exit → Act → World → Prop) (E : Prop) (h1 : o.guard = none) (h2 : o.op = .call { callee := .builtin .append, args := #[.tmp 9, .tmp 12], argTypes := #[39, 39] }) (h3 : a.eval (.tmp 9) = x) (h4 : a.eval (.tmp 12) = .slice v p q) h => step_append_slk (ops := ops) (a := a) (K := K) (Q := Q) (E := E) W h1 (.tmp 9) (.tmp 12) elem_refD (by decide) h2 W0.heap.size _ ds h3 ho _ es h4 hs (dts_len hd) (dts_one hd) hb.size (by have h8 := HL1.out; have h9 := hd.1; have h10 := HL2.out; have h11 := hd1.1; unfold maxLen; omega) (by have h8 := HL1.out; have h9 := hd.1; have h10 := HL2.out; have h11 := hd1.1; omega) h)
  have y0 := hS0.1; have y1 := hS0.2.1
  clear hX hBz hzs hbE hbD
  go_enter Tryz.func43, Tryz.ntmps43
  go_wp2_with fail
  clear hW0
  go_region_held3 (fun W => W.cell? ⟨w.heap.size, 0, none⟩ = some (.slice za zn zc) ∧ W.cell? ⟨w.heap.size, 1, none⟩ = some (.slice v1 m c) ∧ Below W0.heap.size W0 W)
    (first | with_reducible assumption | (with_reducible exact KR.out _ (by with_reducible assumption)) | (with_reducible exact KA.out _ _ (by with_reducible assumption)) | (with_reducible exact KR.out _ (KA.out _ _ (by with_reducible assumption))) | (with_reducible exact KA.out _ _ (KR.out _ (by with_reducible assumption))))
    (first
      | ((with_reducible refine (HC1E.out).mono ?_); rintro e w7 ⟨v7, ds7, rfl, hs7, hd7, hb7⟩; have hS7 := KS.out _ _ (KC.out _ HBE.out) hb7; obtain ⟨va, vc, rfl, -⟩ := id hs7; generalize List.length ds7 = nd at hs7; have HO7 := Lib.hid (OwnK.below HOE.out hb7); have HS7 := Lib.hid hs7; have HD7 := Lib.hid hd7; have HB7 := Lib.hid hS7.2.2; have hS2 := hS7; clear hs7 hd7 hb7)
      | ((with_reducible refine (HC1D.out).mono ?_); rintro e w7 ⟨v7, ds7, rfl, hs7, hd7, hb7⟩; have hS7 := KS.out _ _ (KC.out _ HBD.out) hb7; obtain ⟨va, vc, rfl, -⟩ := id hs7; generalize List.length ds7 = nd at hs7; have hbx := (Below.refl w7.heap.size w7).alloc (Nat.le_refl _) (.cells #[] 107); have HO8 := Lib.hid (OwnK.weaken (ownC_lit 5 107 w7) hS7.2.2.size); have HS8 := Lib.hid (hs7.below hbx); have HD7 := Lib.hid hd7; have HB8 := Lib.hid (KA.out w7 (.cells #[] 107) hS7).2.2; have hS2 := hS7; clear hs7 hd7 hb7 hbx)
      | ((with_reducible refine HA1.out _ _ _ _ _ _ HO7.out HS7.out HD7.out HB7.out _ _ _ _ _ _ ?_ ?_ ?_ ?_ ?_); exact rfl; exact rfl; exact rfl; exact rfl; intro v8 w8 ho8 hg8; rw [List.nil_append] at ho8; have hb8 := HB7.out.grown hg8 HB7.out.size (OwnK.base_le HO7.out); have hS2 := KC.out _ hb8; have HO9 := Lib.hid ho8; have HC2 := Lib.hid (C2.out w8 (HBZ.out.trans (hb8.mono HBZ.out.size))); clear ho8 hg8)
      | ((with_reducible refine HA1.out _ _ _ _ _ _ HO8.out HS8.out HD7.out HB8.out _ _ _ _ _ _ ?_ ?_ ?_ ?_ ?_); exact rfl; exact rfl; exact rfl; exact rfl; intro v8 w8 ho8 hg8; rw [List.nil_append] at ho8; have hb8 := HB8.out.grown hg8 HB8.out.size (OwnK.base_le HO8.out); have hS2 := KC.out _ hb8; have HO9 := Lib.hid ho8; have HC2 := Lib.hid (C2.out w8 (HBZ.out.trans (hb8.mono HBZ.out.size))); clear ho8 hg8)
      | ((with_reducible refine (HC2.out).mono ?_); rintro e w9 ⟨v9, ds9, rfl, hs9, hd9, hb9⟩; have hS9 := KS.out _ _ (by with_reducible assumption) hb9; obtain ⟨vb, vd, rfl, -⟩ := id hs9; generalize List.length ds9 = ne at hs9; have HOA := Lib.hid (OwnK.below HO9.out hb9); have HS9 := Lib.hid hs9; have HD9 := Lib.hid hd9; have HB9 := Lib.hid hS9.2.2; have hS2 := hS9; clear hs9 hd9 hb9)
      | ((with_reducible refine HA2.out _ _ _ _ _ _ _ HOA.out HD7.out HS9.out HD9.out HB9.out _ _ _ _ _ _ ?_ ?_ ?_ ?_ ?_); exact rfl; exact rfl; exact rfl; exact rfl; intro v10 w10 ho10 hg10; have hb10 := HB9.out.grown hg10 HB9.out.size (OwnK.base_le HOA.out); have hS2 := KC.out _ hb10; have HOZ := Lib.hid ho10; have HBF := Lib.hid hb10; obtain ⟨az, cz, ez⟩ := OwnK.shape ho10; generalize List.length (ds7 ++ _) = nz at ez; subst ez; clear ho10 hg10))
  all_goals
    go_wp2_with fail
    go_ret
    exact ⟨_, _, rfl, OwnK.weaken HOZ.out (by have := HZS.out; omega), by rw [HG.out]; exact HD7.out.append HD9.out, HBZ.out.trans (HBF.out.mono HBZ.out.size)⟩
end Go.Proofs.YtckammgnmgkieaaGreat

/-
  law12.ZoneAny: true for any origin, records, name. (Written by wip/tools/gen12a.py.)
-/
namespace Go.Proofs.YtckammgnmgkieaaGreat
open Go.RowKit Go.Shelf
set_option maxRecDepth 20000
set_option linter.unusedVariables false
set_option linter.unusedSimpArgs false
theorem goodN_few12 {n : Nm} (h : goodN n = true) : fewN n = true := by
  unfold goodN at h; simp only [Bool.and_eq_true] at h; exact h.1
theorem fewN_len12 {n : Nm} (h : fewN n = true) : n.length ≤ 140 := by
  unfold fewN at h; simp only [decide_eq_true_eq] at h; exact h.1
theorem star_ok12 {o : Nm} {rs : List Rc} {n : Nm} (hn : NmOK n) (h : n.length < 1048576) : NmOK (starM o rs n) := by
  have h1 := encM_ok (o := o) (rs := rs) hn
  have h2 := encM_len (o := o) (n := n) rs
  refine ⟨by unfold starM; simp; omega, fun x hx => ?_⟩
  unfold starM at hx
  rcases List.mem_cons.1 hx with rfl | hx
  · simp
  · exact h1.2 x hx
theorem cut_ok12 {o : Nm} {rs : List Rc} {n : Nm} (hn : NmOK n) : NmOK (cutN n (cutM o rs n)) := by
  unfold cutN
  cases cutM o rs n with
  | none => exact nm_nilOK
  | some s => exact ancN_okR hn s
theorem of_rowC {w0 W : World} {base n c : Nat} {a : Option Addr} {csd : List (List Value)} {l : List Rc} (ho : OwnC 7 109 W base (.slice a n c) csd) (h : OfRs w0 W base csd l) (hb : Below w0.heap.size w0 W) : RowC W (.slice a n c) l := by
  have hr : Rcs W csd l := ⟨h.1, fun i a b => (h.2 i a b).rcAt hb⟩
  exact ⟨csd, SlK.of_own ho hr.ck, hr⟩
theorem rowC_names {l : List Rc} (h : ∀ r ∈ l, RcOK r) : ∀ r ∈ l, r.data.names.length ≤ 1048576 := fun r hr => (h r hr).2.2.2.1
set_option maxRecDepth 100000 in
set_option maxHeartbeats 16000000 in
theorem law12_ZoneAny {w : World} (vo vl vq : Value) (o : Nm) (l : List Rc) (q : Nm) (hO : NmArg w vo o) (hL : RowArg w vl l) (hQ : NmArg w vq q) :
    Calls Tryz.prog 4 #[vo, vl, vq] w fun e w' => e = .returned (.bool true) ∧ Below w.heap.size w w' := by
  have hkn := law12_known w
  have HG1 := Lib.hid (fun (W : World) (hb : Below w.heap.size w W) => law12_Good vo vl o l w W hO hL hb)
  have HG2 := Lib.hid (fun (W : World) (hb : Below w.heap.size w W) => kn_Good vq q _ rfl w W hQ (hQ.1.below hb))
  have HNO := Lib.hid hO.1
  have HNQ := Lib.hid hQ.1
  have HLR := Lib.hid hL.row
  have HLOK := Lib.hid hL.ok
  obtain ⟨ao, co, rfl, -⟩ := nmAt_sl.1 hO.1
  obtain ⟨qo, hqo⟩ : ∃ k, (List.map strV o).length = k := ⟨_, rfl⟩
  obtain ⟨aq, cq, rfl, -⟩ := nmAt_sl.1 hQ.1
  obtain ⟨qn, hqn⟩ : ∃ k, (List.map strV q).length = k := ⟨_, rfl⟩
  obtain ⟨al, ml, cl, rfl⟩ : ∃ a m c, vl = .slice a m c := by
    obtain ⟨css, ⟨a, c, e, _⟩, _⟩ := hL
    exact ⟨a, _, c, e⟩
  rw [hqo] at HG1 HNO ⊢
  rw [hqn] at HG2 HNQ ⊢
  clear hO hL hQ hqo hqn
  go_enter Tryz.func4, Tryz.ntmps4
  go_wp2_with fail
  refine hkn.mono ?_
  rintro e w1 ⟨rfl, hb1⟩
  have HB1 := Lib.hid hb1
  have hc := HG1.out w1 hb1
  clear hkn hb1 HG1
  go_wp2_with fail
  refine hc.mono ?_
  rintro e w2 ⟨rfl, hb2⟩
  have HB2 := Lib.hid (HB1.out.trans (hb2.mono HB1.out.size))
  clear hb2 hc HB1
  obtain ⟨g1, hg1⟩ : ∃ g, (goodN o && goodRs l) = g := ⟨_, rfl⟩
  have HGG1 := Lib.hid hg1
  rw [hg1]
  clear hg1
  cases g1
  · go_wp2
    go_ret
    exact ⟨rfl, HB2.out⟩
  have hc := HG2.out w2 HB2.out
  clear HG2
  go_wp2_with fail
  refine hc.mono ?_
  rintro e w3 ⟨rfl, hb3⟩
  have HB3 := Lib.hid (HB2.out.trans (hb3.mono HB2.out.size))
  clear hb3 hc HB2
  obtain ⟨g2, hg2⟩ : ∃ g, goodN q = g := ⟨_, rfl⟩
  have HGG2 := Lib.hid hg2
  rw [hg2]
  clear hg2
  cases g2
  · go_wp2
    go_ret
    exact ⟨rfl, HB3.out⟩
  have hg := HGG1.out
  simp only [Bool.and_eq_true] at hg
  have hko : NmOK o := fewN_ok (goodN_few12 hg.1)
  have hkq : NmOK q := fewN_ok (goodN_few12 HGG2.out)
  have hlq := fewN_len12 (goodN_few12 HGG2.out)
  have hfr : fewRs l = true := by
    have := hg.2
    unfold goodRs at this; simp only [Bool.and_eq_true] at this; exact this.1
  obtain ⟨hl60, hokl⟩ := HLOK.out hfr
  have HOKC := Lib.hid (canonM_ok' l hokl)
  have HCL := Lib.hid (show (canonM l).length ≤ 60 by have := canonM_length l; omega)
  have HKO := Lib.hid hko; have HKQ := Lib.hid hkq; have HOKL := Lib.hid hokl; have HL60 := Lib.hid hl60
  have HLQ := Lib.hid (show q.length < 1048576 by omega)
  clear hg hko hkq hfr hl60 hokl hlq HLOK HGG1 HGG2
  -- zone.New
  have hc := zone_New (.slice ao qo co) (.slice al ml cl) o l (HNO.out.below HB3.out) HKO.out (HLR.out.below HB3.out) HOKL.out (by have := HL60.out; omega)
  obtain ⟨C, hC⟩ : ∃ C, canonM l = C := ⟨_, rfl⟩
  have HC := Lib.hid hC
  rw [hC] at hc HOKC HCL
  clear hC
  go_wp2_with fail
  refine hc.mono ?_
  rintro e w5 ⟨za, zn, zc, v1, m, c, rfl, hZ, hb5⟩
  have hA5 := (Below.refl w5.heap.size w5).alloc (Nat.le_refl _) (.cells #[.slice za zn zc, .slice v1 m c] 57)
  obtain ⟨zb, hzb⟩ : ∃ zb, w5.heap.size = zb := ⟨_, rfl⟩
  obtain ⟨w6, hw6⟩ : ∃ w6, w5.alloc (.cells #[.slice za zn zc, .slice v1 m c] 57) = w6 := ⟨_, rfl⟩
  have hX := knew w5 (.cells #[.slice za zn zc, .slice v1 m c] 57)
  rw [hw6] at hA5 hX
  rw [hzb] at hX
  have hb56 := hb5.trans (hA5.mono hb5.size)
  have HB6 := Lib.hid (HB3.out.trans (hb56.mono HB3.out.size))
  have HZ6 := Lib.hid (hZ.below hA5)
  have HX6 := Lib.hid hX
  clear hc hZ hb5 hA5 hX hb56 HB3
  -- rec5.OfAll
  have hc : Calls Tryz.prog 14 #[.slice al ml cl] w6 (OfAllPost w w6 l) := by
    obtain ⟨css, h1, h2⟩ := HLR.out
    exact law5_OfAll w (.slice al ml cl) css l w6 h1 h2 HB6.out (rowC_names HOKL.out) (by rw [h2.1]; have := HL60.out; omega)
  unfold OfAllPost at hc
  go_wp2_with fail
  clear hw6 hzb
  refine hc.mono ?_
  rintro e w7 ⟨v7, cs7, rfl, ho7, hr7, hb7⟩
  have HB7 := Lib.hid (HB6.out.trans (hb7.mono HB6.out.size))
  have HZ7 := Lib.hid (HZ6.out.below hb7)
  have HX7 := Lib.hid ((hb7.block _ (kblock_lt HX6.out)).trans HX6.out)
  obtain ⟨fa, fc, rfl⟩ := OwnK.shape ho7
  have HF7 := Lib.hid (of_rowC ho7 hr7 HB7.out)
  generalize List.length cs7 = fn at *
  clear hc ho7 hr7 hb7 HB6 HZ6 HX6
  -- ref.New
  have hc := ref_New (.slice ao qo co) (.slice fa fn fc) o l (HNO.out.below HB7.out) HKO.out HF7.out HOKL.out (by have := HL60.out; omega)
  rw [HC.out] at hc
  go_wp2_with fail
  refine hc.mono ?_
  rintro e w8 ⟨xa, xn, xc, x1, mx, cx, rfl, hZx, hb8⟩
  have hA8 := (Below.refl w8.heap.size w8).alloc (Nat.le_refl _) (.cells #[.slice xa xn xc, .slice x1 mx cx] 60)
  obtain ⟨xb, hxb⟩ : ∃ b, w8.heap.size = b := ⟨_, rfl⟩
  obtain ⟨w9, hw9⟩ : ∃ W, w8.alloc (.cells #[.slice xa xn xc, .slice x1 mx cx] 60) = W := ⟨_, rfl⟩
  have hX := knew w8 (.cells #[.slice xa xn xc, .slice x1 mx cx] 60)
  rw [hw9] at hA8 hX
  rw [hxb] at hX
  have hb89 := hb8.trans (hA8.mono hb8.size)
  have HB9 := Lib.hid (HB7.out.trans (hb89.mono HB7.out.size))
  have HZ9 := Lib.hid (HZ7.out.below hb89)
  have hx9z := (hb89.block _ (kblock_lt HX7.out)).trans HX7.out
  have HZC := Lib.hid hx9z; have HXC := Lib.hid hX
  have HZ := Lib.hid (fun W (hb : Below w9.heap.size w9 W) => (HZ9.out.below hb : ZonS W za zn zc v1 m c o C))
  have hzx9 := hZx.below hA8
  have HX9 := Lib.hid hzx9
  have HZX := Lib.hid (fun W (hb : Below w9.heap.size w9 W) => (HX9.out.below hb : ZonS W xa xn xc x1 mx cx o C))
  have HMX := Lib.hid (show mx ≤ 1000000 by
    obtain ⟨-, -, ⟨css, ⟨_, _, e, -⟩, h2⟩, -⟩ := hzx9
    injection e with _ e _
    have := HCL.out; rw [e, h2.1]; omega)
  have HQW := Lib.hid (fun W (hb : Below w9.heap.size w9 W) => HNQ.out.below (HB9.out.trans (hb.mono HB9.out.size)))
  have HOW := Lib.hid (fun W (hb : Below w9.heap.size w9 W) => HNO.out.below (HB9.out.trans (hb.mono HB9.out.size)))
  clear hc hZx hb8 hA8 hX hb89 hx9z hzx9 HB7 HZ7 HX7 HF7 HC HLR
  have KC := Lib.hid (fun W (hb : Below w9.heap.size w9 W) => (show (W.cell? ⟨zb, 0, none⟩ = some (.slice za zn zc) ∧ W.cell? ⟨zb, 1, none⟩ = some (.slice v1 m c) ∧ W.cell? ⟨xb, 0, none⟩ = some (.slice xa xn xc) ∧ W.cell? ⟨xb, 1, none⟩ = some (.slice x1 mx cx) ∧ Below w9.heap.size w9 W) from ⟨kcell ((hb.block _ (kblock_lt HZC.out)).trans HZC.out) 0 _ rfl, kcell ((hb.block _ (kblock_lt HZC.out)).trans HZC.out) 1 _ rfl, kcell ((hb.block _ (kblock_lt HXC.out)).trans HXC.out) 0 _ rfl, kcell ((hb.block _ (kblock_lt HXC.out)).trans HXC.out) 1 _ rfl, hb⟩))
  have KS := Lib.hid (fun W W' (h : (W.cell? ⟨zb, 0, none⟩ = some (.slice za zn zc) ∧ W.cell? ⟨zb, 1, none⟩ = some (.slice v1 m c) ∧ W.cell? ⟨xb, 0, none⟩ = some (.slice xa xn xc) ∧ W.cell? ⟨xb, 1, none⟩ = some (.slice x1 mx cx) ∧ Below w9.heap.size w9 W)) (hb : Below W.heap.size W W') => KC.out W' (h.2.2.2.2.trans (hb.mono h.2.2.2.2.size)))
  have KD := Lib.hid (fun W (h : (W.cell? ⟨zb, 0, none⟩ = some (.slice za zn zc) ∧ W.cell? ⟨zb, 1, none⟩ = some (.slice v1 m c) ∧ W.cell? ⟨xb, 0, none⟩ = some (.slice xa xn xc) ∧ W.cell? ⟨xb, 1, none⟩ = some (.slice x1 mx cx) ∧ Below w9.heap.size w9 W)) => KC.out W.drew (h.2.2.2.2.trans ⟨rfl, rfl, rfl, Nat.le_refl _, fun _ _ => rfl⟩))
  have HS0 := Lib.hid (KC.out w9 (Below.refl _ _))
  have D1 := Lib.hid (fun W (h : (W.cell? ⟨zb, 0, none⟩ = some (.slice za zn zc) ∧ W.cell? ⟨zb, 1, none⟩ = some (.slice v1 m c) ∧ W.cell? ⟨xb, 0, none⟩ = some (.slice xa xn xc) ∧ W.cell? ⟨xb, 1, none⟩ = some (.slice x1 mx cx) ∧ Below w9.heap.size w9 W)) => kn_Is (.slice za zn zc) (.slice ao qo co) o o true (by simp) W (HZ.out W h.2.2.2.2).1 (HOW.out W h.2.2.2.2) HKO.out)
  have D2 := Lib.hid (fun W (h : (W.cell? ⟨zb, 0, none⟩ = some (.slice za zn zc) ∧ W.cell? ⟨zb, 1, none⟩ = some (.slice v1 m c) ∧ W.cell? ⟨xb, 0, none⟩ = some (.slice xa xn xc) ∧ W.cell? ⟨xb, 1, none⟩ = some (.slice x1 mx cx) ∧ Below w9.heap.size w9 W)) => show Calls Tryz.prog 14 #[.slice v1 m c] W (OfAllPost w9 W C) from by
    obtain ⟨-, -, ⟨css, h1, h2⟩, -, -⟩ := HZ9.out
    exact law5_OfAll w9 (.slice v1 m c) css C W h1 h2 h.2.2.2.2 (rowC_names HOKC.out) (by rw [h2.1]; have := HCL.out; omega))
  unfold OfAllPost at D2
  have D3 := Lib.hid (fun W (v : Value) (h : (W.cell? ⟨zb, 0, none⟩ = some (.slice za zn zc) ∧ W.cell? ⟨zb, 1, none⟩ = some (.slice v1 m c) ∧ W.cell? ⟨xb, 0, none⟩ = some (.slice xa xn xc) ∧ W.cell? ⟨xb, 1, none⟩ = some (.slice x1 mx cx) ∧ Below w9.heap.size w9 W)) (hr : RowC W v C) => show Calls Tryz.prog 30 #[v, .slice x1 mx cx] W fun e w' => e = .returned (.bool true) ∧ Below W.heap.size W w' from by
    obtain ⟨-, -, ⟨css, h1, h2⟩, -, -⟩ := HZX.out W h.2.2.2.2
    obtain ⟨ess, h3, h4⟩ := hr
    exact law5_Is v (.slice x1 mx cx) ess css C W h3 h4 h1 h2 HOKC.out (by rw [h4.1]; have := HCL.out; omega) (by rw [h2.1]; have := HCL.out; omega))
  obtain ⟨y0, y1, y2, y3, -⟩ := HS0.out
  have hS0 := HS0.out
  have hSd := KD.out _ HS0.out
  go_wp2_with fail
  clear hw9 hxb
  go_region_held3 (fun W => W.cell? ⟨zb, 0, none⟩ = some (.slice za zn zc) ∧ W.cell? ⟨zb, 1, none⟩ = some (.slice v1 m c) ∧ W.cell? ⟨xb, 0, none⟩ = some (.slice xa xn xc) ∧ W.cell? ⟨xb, 1, none⟩ = some (.slice x1 mx cx) ∧ Below w9.heap.size w9 W)
    (first | with_reducible assumption | exact HS0.out | (with_reducible exact KD.out _ (by with_reducible assumption)))
    (first
      | ((with_reducible refine (D1.out _ (by with_reducible assumption)).mono ?_); rintro e u1 ⟨rfl, hb1⟩; have hS2 := KS.out _ _ (by with_reducible assumption) hb1; clear hb1)
      | ((with_reducible refine (D2.out _ (by with_reducible assumption)).mono ?_); rintro e u2 ⟨v2, cs2, rfl, ho2, hr2, hb2⟩; have hS2 := KS.out _ _ (by with_reducible assumption) hb2; obtain ⟨ga, gc, rfl⟩ := OwnK.shape ho2; have HF2 := Lib.hid (of_rowC ho2 hr2 hS2.2.2.2.2); generalize List.length cs2 = gn at *; clear ho2 hr2 hb2)
      | ((with_reducible refine (D3.out _ _ (by with_reducible assumption) HF2.out).mono ?_); rintro e u3 ⟨rfl, hb3⟩; have hS2 := KS.out _ _ (by with_reducible assumption) hb3; have HSA := Lib.hid hS2; clear hb3))
  clear y0 y1 y2 y3 D1 D2 D3
  obtain ⟨y0, y1, y2, y3, hbq⟩ := HSA.out
  have hc := zs_cut (HZ.out _ hbq) (HQW.out _ hbq) HKQ.out
  obtain ⟨cr, hcr⟩ : ∃ r, cutM o C q = r := ⟨_, rfl⟩
  have hkc : NmOK (cutN q cr) := by rw [← hcr]; exact cut_ok12 HKQ.out
  have HKC := Lib.hid hkc; have HCR := Lib.hid hcr
  rw [hcr] at hc
  clear hcr hkc hS0 hSd hS2
  go_wp2_with fail
  refine hc.mono ?_
  rintro e wa ⟨aa, ka, ca, rfl, ha, hba⟩
  have HSB := Lib.hid (KS.out _ _ HSA.out hba)
  have NA := Lib.hid ha
  clear hc ha hba hbq y0 y1 y2 y3
  obtain ⟨y0, y1, y2, y3, hbq⟩ := HSB.out
  have hc := ref_CutOf (HZX.out _ hbq) (HQW.out _ hbq) HKQ.out
  rw [HCR.out] at hc
  go_wp2_with fail
  refine hc.mono ?_
  rintro e wb ⟨ab, kb, cb, rfl, hB, hbb⟩
  have HSC := Lib.hid (KS.out _ _ HSB.out hbb)
  have NA2 := Lib.hid (NA.out.below hbb)
  have NB := Lib.hid hB
  clear hc hB hbb hbq y0 y1 y2 y3 HSB NA HSA
  obtain ⟨y0, y1, y2, y3, hbq⟩ := HSC.out
  have hc := zone_Source (HZ.out _ hbq) (HQW.out _ hbq) HKQ.out HLQ.out
  obtain ⟨sb, hsb⟩ : ∃ b, sourceM o C q = b := ⟨_, rfl⟩
  have HSBB := Lib.hid hsb
  rw [hsb] at hc
  clear hsb
  go_wp2_with fail
  refine hc.mono ?_
  rintro e wc ⟨ac, kc, cc, rfl, hC1, hbc⟩
  have HSD := Lib.hid (KS.out _ _ HSC.out hbc)
  have NA3 := Lib.hid (NA2.out.below hbc)
  have NB3 := Lib.hid (NB.out.below hbc)
  have NC := Lib.hid hC1
  clear hc hC1 hbc hbq y0 y1 y2 y3 HSC NA2 NB
  obtain ⟨y0, y1, y2, y3, hbq⟩ := HSD.out
  have hc := ref_Source (HZX.out _ hbq) (HQW.out _ hbq) HKQ.out HLQ.out
  rw [HSBB.out] at hc
  go_wp2_with fail
  refine hc.mono ?_
  rintro e wd ⟨ad, kd, cd, rfl, hD1, hbd⟩
  have HSE := Lib.hid (KS.out _ _ HSD.out hbd)
  have NA4 := Lib.hid (NA3.out.below hbd)
  have NB4 := Lib.hid (NB3.out.below hbd)
  have NC4 := Lib.hid (NC.out.below hbd)
  have ND := Lib.hid hD1
  clear hc hD1 hbd hbq y0 y1 y2 y3 HSD NA3 NB3 NC
  have HEB := Lib.hid (Below.refl wd.heap.size wd)
  have HWD := Lib.hid HSE.out.2.2.2.2
  have KE := Lib.hid (fun W (hb : Below wd.heap.size wd W) => KC.out W (HWD.out.trans (hb.mono HWD.out.size)))
  obtain ⟨wv, hwv⟩ : ∃ v, whereM o C q = v := ⟨_, rfl⟩
  obtain ⟨ev, hev⟩ : ∃ v, existsM o C q = v := ⟨_, rfl⟩
  have KS2 := Lib.hid (fun W W' (h : (W.cell? ⟨zb, 0, none⟩ = some (.slice za zn zc) ∧ W.cell? ⟨zb, 1, none⟩ = some (.slice v1 m c) ∧ W.cell? ⟨xb, 0, none⟩ = some (.slice xa xn xc) ∧ W.cell? ⟨xb, 1, none⟩ = some (.slice x1 mx cx) ∧ Below wd.heap.size wd W)) (hb : Below W.heap.size W W') => (show (W'.cell? ⟨zb, 0, none⟩ = some (.slice za zn zc) ∧ W'.cell? ⟨zb, 1, none⟩ = some (.slice v1 m c) ∧ W'.cell? ⟨xb, 0, none⟩ = some (.slice xa xn xc) ∧ W'.cell? ⟨xb, 1, none⟩ = some (.slice x1 mx cx) ∧ Below wd.heap.size wd W') from have h2 := h.2.2.2.2.trans (hb.mono h.2.2.2.2.size); ⟨(KE.out W' h2).1, (KE.out W' h2).2.1, (KE.out W' h2).2.2.1, (KE.out W' h2).2.2.2.1, h2⟩))
  have KD2 := Lib.hid (fun W (h : (W.cell? ⟨zb, 0, none⟩ = some (.slice za zn zc) ∧ W.cell? ⟨zb, 1, none⟩ = some (.slice v1 m c) ∧ W.cell? ⟨xb, 0, none⟩ = some (.slice xa xn xc) ∧ W.cell? ⟨xb, 1, none⟩ = some (.slice x1 mx cx) ∧ Below wd.heap.size wd W)) => KS2.out W W.drew h ⟨rfl, rfl, rfl, Nat.le_refl _, fun _ _ => rfl⟩)
  have HSF := Lib.hid (show (wd.cell? ⟨zb, 0, none⟩ = some (.slice za zn zc) ∧ wd.cell? ⟨zb, 1, none⟩ = some (.slice v1 m c) ∧ wd.cell? ⟨xb, 0, none⟩ = some (.slice xa xn xc) ∧ wd.cell? ⟨xb, 1, none⟩ = some (.slice x1 mx cx) ∧ Below wd.heap.size wd wd) from ⟨HSE.out.1, HSE.out.2.1, HSE.out.2.2.1, HSE.out.2.2.2.1, Below.refl _ _⟩)
  have E1 := Lib.hid (fun W (h : (W.cell? ⟨zb, 0, none⟩ = some (.slice za zn zc) ∧ W.cell? ⟨zb, 1, none⟩ = some (.slice v1 m c) ∧ W.cell? ⟨xb, 0, none⟩ = some (.slice xa xn xc) ∧ W.cell? ⟨xb, 1, none⟩ = some (.slice x1 mx cx) ∧ Below wd.heap.size wd W)) => kn_Is (.slice aa ka ca) (.slice ab kb cb) (cutN q cr) (cutN q cr) true (by simp) W (NA4.out.below h.2.2.2.2) (NB4.out.below h.2.2.2.2) HKC.out)
  have E2 := Lib.hid (fun W (h : (W.cell? ⟨zb, 0, none⟩ = some (.slice za zn zc) ∧ W.cell? ⟨zb, 1, none⟩ = some (.slice v1 m c) ∧ W.cell? ⟨xb, 0, none⟩ = some (.slice xa xn xc) ∧ W.cell? ⟨xb, 1, none⟩ = some (.slice x1 mx cx) ∧ Below wd.heap.size wd W)) => show Calls Tryz.prog 35 #[.agg #[.slice za zn zc, .slice v1 m c], .slice aq qn cq] W fun e w' => e = .returned (.int .i64 wv) ∧ Below W.heap.size W w' from by
    have hc := zone_Where (HZ.out W (HWD.out.trans (h.2.2.2.2.mono HWD.out.size))) (HQW.out W (HWD.out.trans (h.2.2.2.2.mono HWD.out.size))) HKQ.out
    rw [hwv] at hc; exact hc)
  have E3 := Lib.hid (fun W (h : (W.cell? ⟨zb, 0, none⟩ = some (.slice za zn zc) ∧ W.cell? ⟨zb, 1, none⟩ = some (.slice v1 m c) ∧ W.cell? ⟨xb, 0, none⟩ = some (.slice xa xn xc) ∧ W.cell? ⟨xb, 1, none⟩ = some (.slice x1 mx cx) ∧ Below wd.heap.size wd W)) => show Calls Tryz.prog 36 #[.agg #[.slice xa xn xc, .slice x1 mx cx], .slice aq qn cq] W fun e w' => e = .returned (.int .i64 wv) ∧ Below W.heap.size W w' from by
    have hc := ref_Where (HZX.out W (HWD.out.trans (h.2.2.2.2.mono HWD.out.size))) (HQW.out W (HWD.out.trans (h.2.2.2.2.mono HWD.out.size))) HKQ.out
    rw [hwv] at hc; exact hc)
  have E4 := Lib.hid (fun W (h : (W.cell? ⟨zb, 0, none⟩ = some (.slice za zn zc) ∧ W.cell? ⟨zb, 1, none⟩ = some (.slice v1 m c) ∧ W.cell? ⟨xb, 0, none⟩ = some (.slice xa xn xc) ∧ W.cell? ⟨xb, 1, none⟩ = some (.slice x1 mx cx) ∧ Below wd.heap.size wd W)) => show Calls Tryz.prog 37 #[.agg #[.slice za zn zc, .slice v1 m c], .slice aq qn cq] W fun e w' => e = .returned (.bool ev) ∧ Below W.heap.size W w' from by
    have hc := zone_Exists (HZ.out W (HWD.out.trans (h.2.2.2.2.mono HWD.out.size))) (HQW.out W (HWD.out.trans (h.2.2.2.2.mono HWD.out.size))) HKQ.out
    rw [hev] at hc; exact hc)
  have E5 := Lib.hid (fun W (h : (W.cell? ⟨zb, 0, none⟩ = some (.slice za zn zc) ∧ W.cell? ⟨zb, 1, none⟩ = some (.slice v1 m c) ∧ W.cell? ⟨xb, 0, none⟩ = some (.slice xa xn xc) ∧ W.cell? ⟨xb, 1, none⟩ = some (.slice x1 mx cx) ∧ Below wd.heap.size wd W)) => show Calls Tryz.prog 38 #[.agg #[.slice xa xn xc, .slice x1 mx cx], .slice aq qn cq] W fun e w' => e = .returned (.bool ev) ∧ Below W.heap.size W w' from by
    have hc := ref_Exists (HZX.out W (HWD.out.trans (h.2.2.2.2.mono HWD.out.size))) (HQW.out W (HWD.out.trans (h.2.2.2.2.mono HWD.out.size))) HKQ.out
    rw [hev] at hc; exact hc)
  have E6 := Lib.hid (fun W (h : (W.cell? ⟨zb, 0, none⟩ = some (.slice za zn zc) ∧ W.cell? ⟨zb, 1, none⟩ = some (.slice v1 m c) ∧ W.cell? ⟨xb, 0, none⟩ = some (.slice xa xn xc) ∧ W.cell? ⟨xb, 1, none⟩ = some (.slice x1 mx cx) ∧ Below wd.heap.size wd W)) => zone_Encloser (HZ.out W (HWD.out.trans (h.2.2.2.2.mono HWD.out.size))) (HQW.out W (HWD.out.trans (h.2.2.2.2.mono HWD.out.size))) HKQ.out)
  have E7 := Lib.hid (fun W (h : (W.cell? ⟨zb, 0, none⟩ = some (.slice za zn zc) ∧ W.cell? ⟨zb, 1, none⟩ = some (.slice v1 m c) ∧ W.cell? ⟨xb, 0, none⟩ = some (.slice xa xn xc) ∧ W.cell? ⟨xb, 1, none⟩ = some (.slice x1 mx cx) ∧ Below wd.heap.size wd W)) => ref_Encloser (HZX.out W (HWD.out.trans (h.2.2.2.2.mono HWD.out.size))) (HQW.out W (HWD.out.trans (h.2.2.2.2.mono HWD.out.size))) HKQ.out)
  have HKE := Lib.hid (encM_ok (o := o) (rs := C) HKQ.out)
  have E8 := Lib.hid (fun W (v u : Value) (h1 : NmAt W v (encM o C q)) (h2 : NmAt W u (encM o C q)) => kn_Is v u (encM o C q) (encM o C q) true (by simp) W h1 h2 HKE.out)
  have HKS : Hid (NmOK (if sb = true then starM o C q else [])) := Lib.hid (by cases sb; exact nm_nilOK; exact star_ok12 HKQ.out HLQ.out)
  have E9 := Lib.hid (fun W (h : (W.cell? ⟨zb, 0, none⟩ = some (.slice za zn zc) ∧ W.cell? ⟨zb, 1, none⟩ = some (.slice v1 m c) ∧ W.cell? ⟨xb, 0, none⟩ = some (.slice xa xn xc) ∧ W.cell? ⟨xb, 1, none⟩ = some (.slice x1 mx cx) ∧ Below wd.heap.size wd W)) => kn_Is (.slice ac kc cc) (.slice ad kd cd) (if sb = true then starM o C q else []) (if sb = true then starM o C q else []) true (by simp) W (NC4.out.below h.2.2.2.2) (ND.out.below h.2.2.2.2) HKS.out)
  have E10 := Lib.hid (fun W (h : (W.cell? ⟨zb, 0, none⟩ = some (.slice za zn zc) ∧ W.cell? ⟨zb, 1, none⟩ = some (.slice v1 m c) ∧ W.cell? ⟨xb, 0, none⟩ = some (.slice xa xn xc) ∧ W.cell? ⟨xb, 1, none⟩ = some (.slice x1 mx cx) ∧ Below wd.heap.size wd W)) => zone_Glue (HZ.out W (HWD.out.trans (h.2.2.2.2.mono HWD.out.size))) (HQW.out W (HWD.out.trans (h.2.2.2.2.mono HWD.out.size))) HKQ.out)
  have E11 := Lib.hid (fun W (h : (W.cell? ⟨zb, 0, none⟩ = some (.slice za zn zc) ∧ W.cell? ⟨zb, 1, none⟩ = some (.slice v1 m c) ∧ W.cell? ⟨xb, 0, none⟩ = some (.slice xa xn xc) ∧ W.cell? ⟨xb, 1, none⟩ = some (.slice x1 mx cx) ∧ Below wd.heap.size wd W)) => ref_Glue HX9.out (HWD.out.trans (h.2.2.2.2.mono HWD.out.size)) (HQW.out W (HWD.out.trans (h.2.2.2.2.mono HWD.out.size))) HKQ.out HMX.out)
  unfold EncPost at E6 E7
  unfold GluePost at E10
  unfold GlueD at E11
  have HGK := Lib.hid (glue_okL HOKC.out (by have := HCL.out; omega) q)
  have E12 := Lib.hid (fun W (v u : Value) (css ess : List (List Value)) (h1 : SlK W v css) (h2 : Dts W css (glueM C q)) (h3 : SlK W u ess) (h4 : Dts W ess (glueM C q)) => law4_IsAll v u css ess (glueM C q) W h1 h2 h3 h4 HGK.out.1 HGK.out.2)
  have HF := Lib.hid (HB9.out.trans (HWD.out.mono HB9.out.size))
  have HFM := Lib.hid (fun (W : World) (hb : Below wd.heap.size wd W) => HF.out.trans (hb.mono HF.out.size))
  obtain ⟨y0, y1, y2, y3, -⟩ := HSF.out
  have hS0 := HSF.out
  have hSd := KD2.out _ HSF.out
  clear hwv hev
  generalize cr.isSome = ci at *
  have hci : (ci == ci) = true := by simp
  have hwx : (wv == wv) = true := by simp
  have hex : (ev == ev) = true := by simp
  cases sb
  · go_wp2_with fail
    refine wp_region_held_drew (S := fun W => W.cell? ⟨zb, 0, none⟩ = some (.slice za zn zc) ∧ W.cell? ⟨zb, 1, none⟩ = some (.slice v1 m c) ∧ W.cell? ⟨xb, 0, none⟩ = some (.slice xa xn xc) ∧ W.cell? ⟨xb, 1, none⟩ = some (.slice x1 mx cx) ∧ Below wd.heap.size wd W) (by kernel_rfl) ?_ (fun hHeld => ?_)
    · exact hSd
    refine wpAnyH_take (i := 0) (oi := { dst := some 73, op := Go.Op.move (Go.Operand.tmp 10), type := 4, pos := "law.go:51", after := #[], guard := none }) (v := ?_) rfl (by kernel_rfl) (by kernel_rfl) (by kernel_rfl) (fun _ _ _ h => h) (Or.inl ⟨by rfl, ?_⟩) (by with_reducible assumption) ?_
    rotate_left
    · (intro wS hSw; (try dsimp only at hSw); go_simp; (try with_reducible rfl))
    try simp only [Act.put, List.setIfInBounds_toArray, List.set_cons_zero, List.set_cons_succ]
    refine wpAnyH_take (i := 1) (oi := { dst := some 74, op := Go.Op.move (Go.Operand.tmp 12), type := 4, pos := "law.go:51", after := #[], guard := none }) (v := ?_) rfl (by kernel_rfl) (by kernel_rfl) (by kernel_rfl) (fun _ _ _ h => h) (Or.inl ⟨by rfl, ?_⟩) (by with_reducible assumption) ?_
    rotate_left
    · (intro wS hSw; (try dsimp only at hSw); go_simp; (try with_reducible rfl))
    try simp only [Act.put, List.setIfInBounds_toArray, List.set_cons_zero, List.set_cons_succ]
    refine wpAnyH_take (i := 2) (oi := { dst := some 75, op := Go.Op.binOp Go.BinOp.eql 4 (Go.Operand.tmp 73) (Go.Operand.tmp 74) 4, type := 4, pos := "law.go:51", after := #[{ on := 0, ground := Go.Ground.data }, { on := 1, ground := Go.Ground.data }], guard := none }) (v := ?_) rfl (by kernel_rfl) (by kernel_rfl) (by kernel_rfl) (fun _ _ _ h => h) (Or.inl ⟨by rfl, ?_⟩) (by with_reducible assumption) ?_
    rotate_left
    · (intro wS hSw; (try dsimp only at hSw); go_simp; (try with_reducible rfl))
    try simp only [Act.put, List.setIfInBounds_toArray, List.set_cons_zero, List.set_cons_succ]
    refine wpAnyH_take (i := 3) (oi := { dst := some 76, op := Go.Op.move (Go.Operand.tmp 75), type := 4, pos := "law.go:51", after := #[{ on := 2, ground := Go.Ground.data }], guard := none }) (v := ?_) rfl (by kernel_rfl) (by kernel_rfl) (by kernel_rfl) (fun _ _ _ h => h) (Or.inl ⟨by rfl, ?_⟩) (by with_reducible assumption) ?_
    rotate_left
    · (intro wS hSw; (try dsimp only at hSw); go_simp; (try with_reducible rfl))
    try simp only [Act.put, List.setIfInBounds_toArray, List.set_cons_zero, List.set_cons_succ]
    refine wpAnyH_take (i := 4) (oi := { dst := some 77, op := Go.Op.move (Go.Operand.tmp 9), type := 24, pos := "law.go:51", after := #[{ on := 3, ground := Go.Ground.guard }], guard := some (3, true) }) (v := ?_) rfl (by kernel_rfl) (by kernel_rfl) (by kernel_rfl) (fun _ _ _ h => h) (Or.inl ⟨by rfl, ?_⟩) (by with_reducible assumption) ?_
    rotate_left
    · (intro wS hSw; (try dsimp only at hSw); go_simp; (try with_reducible rfl))
    try simp only [Act.put, List.setIfInBounds_toArray, List.set_cons_zero, List.set_cons_succ]
    refine wpAnyH_take (i := 5) (oi := { dst := some 78, op := Go.Op.move (Go.Operand.tmp 11), type := 23, pos := "law.go:51", after := #[{ on := 3, ground := Go.Ground.guard }], guard := some (3, true) }) (v := ?_) rfl (by kernel_rfl) (by kernel_rfl) (by kernel_rfl) (fun _ _ _ h => h) (Or.inl ⟨by rfl, ?_⟩) (by with_reducible assumption) ?_
    rotate_left
    · (intro wS hSw; (try dsimp only at hSw); go_simp; (try with_reducible rfl))
    try simp only [Act.put, List.setIfInBounds_toArray, List.set_cons_zero, List.set_cons_succ]
    refine wpAnyH_ready (rs := [6]) (by kernel_rfl) (by simp) ?_
    refine AllReadyH.cons (o := { dst := some 79, op := Go.Op.call { callee := Go.Callee.value (Go.Operand.func 20), args := #[Go.Operand.tmp 77, Go.Operand.tmp 78], argTypes := #[23, 23] }, type := 4, pos := "law.go:51", after := #[{ on := 4, ground := Go.Ground.data }, { on := 5, ground := Go.Ground.data }, { on := 3, ground := Go.Ground.chain }, { on := 3, ground := Go.Ground.guard }], guard := some (3, true) }) rfl (fun K hK => ?_) AllReadyH.nil
    go_simp
    (with_reducible refine (E1.out _ (by with_reducible assumption)).mono ?_); rintro e u1 ⟨rfl, hb1⟩; have hS2 := KS2.out _ _ (by with_reducible assumption) hb1; clear hb1
    refine hK.out _ _ ?_ (fun hHeld => ?_)
    · (try dsimp only); with_reducible assumption
    clear hK K
    try simp only [Act.put, List.setIfInBounds_toArray, List.set_cons_zero, List.set_cons_succ]
    refine wpAnyH_take (i := 7) (oi := { dst := some 80, op := Go.Op.pick (Go.Operand.tmp 76) (Go.Operand.tmp 79) (Go.Operand.const (Go.Value.bool false)), type := 4, pos := "law.go:51", after := #[{ on := 3, ground := Go.Ground.data }, { on := 6, ground := Go.Ground.data }], guard := none }) (v := ?_) rfl (by kernel_rfl) (by kernel_rfl) (by kernel_rfl) (fun _ _ _ h => h) (Or.inl ⟨by rfl, ?_⟩) (by with_reducible assumption) ?_
    rotate_left
    · (intro wS hSw; (try dsimp only at hSw); go_simp; (try with_reducible rfl))
    try simp only [Act.put, List.setIfInBounds_toArray, List.set_cons_zero, List.set_cons_succ]
    refine wpAnyH_take (i := 8) (oi := { dst := some 81, op := Go.Op.move (Go.Operand.tmp 80), type := 4, pos := "law.go:51", after := #[{ on := 7, ground := Go.Ground.data }, { on := 6, ground := Go.Ground.chain }], guard := none }) (v := ?_) rfl (by kernel_rfl) (by kernel_rfl) (by kernel_rfl) (fun _ _ _ h => h) (Or.inl ⟨by rfl, ?_⟩) (by with_reducible assumption) ?_
    rotate_left
    · (intro wS hSw; (try dsimp only at hSw); go_simp; (try with_reducible rfl))
    try simp only [Act.put, List.setIfInBounds_toArray, List.set_cons_zero, List.set_cons_succ]
    refine wpAnyH_take (i := 9) (oi := { dst := some 82, op := Go.Op.load 57 (Go.Operand.tmp 7), type := 57, pos := "law.go:51", after := #[{ on := 8, ground := Go.Ground.guard }], guard := some (8, true) }) (v := ?_) rfl (by kernel_rfl) (by kernel_rfl) (by kernel_rfl) (fun _ _ _ h => h) (Or.inl ⟨by rfl, ?_⟩) (by with_reducible assumption) ?_
    rotate_left
    · (intro wS hSw; (try dsimp only at hSw); go_simp; (try with_reducible rfl))
    try simp only [Act.put, List.setIfInBounds_toArray, List.set_cons_zero, List.set_cons_succ]
    refine wpAnyH_take (i := 10) (oi := { dst := some 83, op := Go.Op.move (Go.Operand.tmp 2), type := 24, pos := "law.go:51", after := #[{ on := 8, ground := Go.Ground.guard }], guard := some (8, true) }) (v := ?_) rfl (by kernel_rfl) (by kernel_rfl) (by kernel_rfl) (fun _ _ _ h => h) (Or.inl ⟨by rfl, ?_⟩) (by with_reducible assumption) ?_
    rotate_left
    · (intro wS hSw; (try dsimp only at hSw); go_simp; (try with_reducible rfl))
    try simp only [Act.put, List.setIfInBounds_toArray, List.set_cons_zero, List.set_cons_succ]
    refine wpAnyH_take (i := 12) (oi := { dst := some 85, op := Go.Op.load 60 (Go.Operand.tmp 8), type := 60, pos := "law.go:51", after := #[{ on := 8, ground := Go.Ground.guard }], guard := some (8, true) }) (v := ?_) rfl (by kernel_rfl) (by kernel_rfl) (by kernel_rfl) (fun _ _ _ h => h) (Or.inl ⟨by rfl, ?_⟩) (by with_reducible assumption) ?_
    rotate_left
    · (intro wS hSw; (try dsimp only at hSw); go_simp; (try with_reducible rfl))
    try simp only [Act.put, List.setIfInBounds_toArray, List.set_cons_zero, List.set_cons_succ]
    refine wpAnyH_take (i := 13) (oi := { dst := some 86, op := Go.Op.move (Go.Operand.tmp 2), type := 24, pos := "law.go:51", after := #[{ on := 8, ground := Go.Ground.guard }], guard := some (8, true) }) (v := ?_) rfl (by kernel_rfl) (by kernel_rfl) (by kernel_rfl) (fun _ _ _ h => h) (Or.inl ⟨by rfl, ?_⟩) (by with_reducible assumption) ?_
    rotate_left
    · (intro wS hSw; (try dsimp only at hSw); go_simp; (try with_reducible rfl))
    try simp only [Act.put, List.setIfInBounds_toArray, List.set_cons_zero, List.set_cons_succ]
    refine wpAnyH_ready (rs := [11]) (by kernel_rfl) (by simp) ?_
    refine AllReadyH.cons (o := { dst := some 84, op := Go.Op.call { callee := Go.Callee.value (Go.Operand.func 35), args := #[Go.Operand.tmp 82, Go.Operand.tmp 83], argTypes := #[57, 24] }, type := 3, pos := "law.go:51", after := #[{ on := 9, ground := Go.Ground.data }, { on := 10, ground := Go.Ground.data }, { on := 8, ground := Go.Ground.chain }, { on := 8, ground := Go.Ground.guard }], guard := some (8, true) }) rfl (fun K hK => ?_) AllReadyH.nil
    go_simp
    (with_reducible refine (E2.out _ (by with_reducible assumption)).mono ?_); rintro e u2 ⟨rfl, hb1⟩; have hS2 := KS2.out _ _ (by with_reducible assumption) hb1; clear hb1
    refine hK.out _ _ ?_ (fun hHeld => ?_)
    · (try dsimp only); with_reducible assumption
    clear hK K
    try simp only [Act.put, List.setIfInBounds_toArray, List.set_cons_zero, List.set_cons_succ]
    refine wpAnyH_ready (rs := [14]) (by kernel_rfl) (by simp) ?_
    refine AllReadyH.cons (o := { dst := some 87, op := Go.Op.call { callee := Go.Callee.value (Go.Operand.func 36), args := #[Go.Operand.tmp 85, Go.Operand.tmp 86], argTypes := #[60, 23] }, type := 3, pos := "law.go:51", after := #[{ on := 12, ground := Go.Ground.data }, { on := 13, ground := Go.Ground.data }, { on := 11, ground := Go.Ground.chain }, { on := 8, ground := Go.Ground.guard }], guard := some (8, true) }) rfl (fun K hK => ?_) AllReadyH.nil
    go_simp
    (with_reducible refine (E3.out _ (by with_reducible assumption)).mono ?_); rintro e u3 ⟨rfl, hb1⟩; have hS2 := KS2.out _ _ (by with_reducible assumption) hb1; clear hb1
    refine hK.out _ _ ?_ (fun hHeld => ?_)
    · (try dsimp only); with_reducible assumption
    clear hK K
    try simp only [Act.put, List.setIfInBounds_toArray, List.set_cons_zero, List.set_cons_succ]
    refine wpAnyH_take (i := 15) (oi := { dst := some 88, op := Go.Op.binOp Go.BinOp.eql 3 (Go.Operand.tmp 84) (Go.Operand.tmp 87) 3, type := 4, pos := "law.go:51", after := #[{ on := 11, ground := Go.Ground.data }, { on := 14, ground := Go.Ground.data }, { on := 8, ground := Go.Ground.guard }], guard := some (8, true) }) (v := ?_) rfl (by kernel_rfl) (by kernel_rfl) (by kernel_rfl) (fun _ _ _ h => h) (Or.inl ⟨by rfl, ?_⟩) (by with_reducible assumption) ?_
    rotate_left
    · (intro wS hSw; (try dsimp only at hSw); go_simp; (try with_reducible rfl))
    try simp only [Act.put, List.setIfInBounds_toArray, List.set_cons_zero, List.set_cons_succ]
    refine wpAnyH_take (i := 16) (oi := { dst := some 89, op := Go.Op.pick (Go.Operand.tmp 81) (Go.Operand.tmp 88) (Go.Operand.const (Go.Value.bool false)), type := 4, pos := "law.go:51", after := #[{ on := 8, ground := Go.Ground.data }, { on := 15, ground := Go.Ground.data }], guard := none }) (v := ?_) rfl (by kernel_rfl) (by kernel_rfl) (by kernel_rfl) (fun _ _ _ h => h) (Or.inl ⟨by rfl, ?_⟩) (by with_reducible assumption) ?_
    rotate_left
    · (intro wS hSw; (try dsimp only at hSw); go_simp; (try with_reducible rfl))
    try simp only [Act.put, List.setIfInBounds_toArray, List.set_cons_zero, List.set_cons_succ]
    refine wpAnyH_take (i := 17) (oi := { dst := some 90, op := Go.Op.move (Go.Operand.tmp 89), type := 4, pos := "law.go:51", after := #[{ on := 16, ground := Go.Ground.data }, { on := 14, ground := Go.Ground.chain }], guard := none }) (v := ?_) rfl (by kernel_rfl) (by kernel_rfl) (by kernel_rfl) (fun _ _ _ h => h) (Or.inl ⟨by rfl, ?_⟩) (by with_reducible assumption) ?_
    rotate_left
    · (intro wS hSw; (try dsimp only at hSw); go_simp; (try with_reducible rfl))
    try simp only [Act.put, List.setIfInBounds_toArray, List.set_cons_zero, List.set_cons_succ]
    refine wpAnyH_take (i := 18) (oi := { dst := some 91, op := Go.Op.load 57 (Go.Operand.tmp 7), type := 57, pos := "law.go:51", after := #[{ on := 17, ground := Go.Ground.guard }], guard := some (17, true) }) (v := ?_) rfl (by kernel_rfl) (by kernel_rfl) (by kernel_rfl) (fun _ _ _ h => h) (Or.inl ⟨by rfl, ?_⟩) (by with_reducible assumption) ?_
    rotate_left
    · (intro wS hSw; (try dsimp only at hSw); go_simp; (try with_reducible rfl))
    try simp only [Act.put, List.setIfInBounds_toArray, List.set_cons_zero, List.set_cons_succ]
    refine wpAnyH_take (i := 19) (oi := { dst := some 92, op := Go.Op.move (Go.Operand.tmp 2), type := 24, pos := "law.go:51", after := #[{ on := 17, ground := Go.Ground.guard }], guard := some (17, true) }) (v := ?_) rfl (by kernel_rfl) (by kernel_rfl) (by kernel_rfl) (fun _ _ _ h => h) (Or.inl ⟨by rfl, ?_⟩) (by with_reducible assumption) ?_
    rotate_left
    · (intro wS hSw; (try dsimp only at hSw); go_simp; (try with_reducible rfl))
    try simp only [Act.put, List.setIfInBounds_toArray, List.set_cons_zero, List.set_cons_succ]
    refine wpAnyH_take (i := 21) (oi := { dst := some 94, op := Go.Op.load 60 (Go.Operand.tmp 8), type := 60, pos := "law.go:51", after := #[{ on := 17, ground := Go.Ground.guard }], guard := some (17, true) }) (v := ?_) rfl (by kernel_rfl) (by kernel_rfl) (by kernel_rfl) (fun _ _ _ h => h) (Or.inl ⟨by rfl, ?_⟩) (by with_reducible assumption) ?_
    rotate_left
    · (intro wS hSw; (try dsimp only at hSw); go_simp; (try with_reducible rfl))
    try simp only [Act.put, List.setIfInBounds_toArray, List.set_cons_zero, List.set_cons_succ]
    refine wpAnyH_take (i := 22) (oi := { dst := some 95, op := Go.Op.move (Go.Operand.tmp 2), type := 24, pos := "law.go:51", after := #[{ on := 17, ground := Go.Ground.guard }], guard := some (17, true) }) (v := ?_) rfl (by kernel_rfl) (by kernel_rfl) (by kernel_rfl) (fun _ _ _ h => h) (Or.inl ⟨by rfl, ?_⟩) (by with_reducible assumption) ?_
    rotate_left
    · (intro wS hSw; (try dsimp only at hSw); go_simp; (try with_reducible rfl))
    try simp only [Act.put, List.setIfInBounds_toArray, List.set_cons_zero, List.set_cons_succ]
    refine wpAnyH_ready (rs := [20]) (by kernel_rfl) (by simp) ?_
    refine AllReadyH.cons (o := { dst := some 93, op := Go.Op.call { callee := Go.Callee.value (Go.Operand.func 37), args := #[Go.Operand.tmp 91, Go.Operand.tmp 92], argTypes := #[57, 24] }, type := 4, pos := "law.go:51", after := #[{ on := 18, ground := Go.Ground.data }, { on := 19, ground := Go.Ground.data }, { on := 17, ground := Go.Ground.chain }, { on := 17, ground := Go.Ground.guard }], guard := some (17, true) }) rfl (fun K hK => ?_) AllReadyH.nil
    go_simp
    (with_reducible refine (E4.out _ (by with_reducible assumption)).mono ?_); rintro e u4 ⟨rfl, hb1⟩; have hS2 := KS2.out _ _ (by with_reducible assumption) hb1; clear hb1
    refine hK.out _ _ ?_ (fun hHeld => ?_)
    · (try dsimp only); with_reducible assumption
    clear hK K
    try simp only [Act.put, List.setIfInBounds_toArray, List.set_cons_zero, List.set_cons_succ]
    refine wpAnyH_ready (rs := [23]) (by kernel_rfl) (by simp) ?_
    refine AllReadyH.cons (o := { dst := some 96, op := Go.Op.call { callee := Go.Callee.value (Go.Operand.func 38), args := #[Go.Operand.tmp 94, Go.Operand.tmp 95], argTypes := #[60, 23] }, type := 4, pos := "law.go:51", after := #[{ on := 21, ground := Go.Ground.data }, { on := 22, ground := Go.Ground.data }, { on := 20, ground := Go.Ground.chain }, { on := 17, ground := Go.Ground.guard }], guard := some (17, true) }) rfl (fun K hK => ?_) AllReadyH.nil
    go_simp
    (with_reducible refine (E5.out _ (by with_reducible assumption)).mono ?_); rintro e u5 ⟨rfl, hb1⟩; have hS2 := KS2.out _ _ (by with_reducible assumption) hb1; clear hb1
    refine hK.out _ _ ?_ (fun hHeld => ?_)
    · (try dsimp only); with_reducible assumption
    clear hK K
    try simp only [Act.put, List.setIfInBounds_toArray, List.set_cons_zero, List.set_cons_succ]
    refine wpAnyH_take (i := 24) (oi := { dst := some 97, op := Go.Op.binOp Go.BinOp.eql 4 (Go.Operand.tmp 93) (Go.Operand.tmp 96) 4, type := 4, pos := "law.go:51", after := #[{ on := 20, ground := Go.Ground.data }, { on := 23, ground := Go.Ground.data }, { on := 17, ground := Go.Ground.guard }], guard := some (17, true) }) (v := ?_) rfl (by kernel_rfl) (by kernel_rfl) (by kernel_rfl) (fun _ _ _ h => h) (Or.inl ⟨by rfl, ?_⟩) (by with_reducible assumption) ?_
    rotate_left
    · (intro wS hSw; (try dsimp only at hSw); go_simp; (try with_reducible rfl))
    try simp only [Act.put, List.setIfInBounds_toArray, List.set_cons_zero, List.set_cons_succ]
    refine wpAnyH_take (i := 25) (oi := { dst := some 98, op := Go.Op.pick (Go.Operand.tmp 90) (Go.Operand.tmp 97) (Go.Operand.const (Go.Value.bool false)), type := 4, pos := "law.go:51", after := #[{ on := 17, ground := Go.Ground.data }, { on := 24, ground := Go.Ground.data }], guard := none }) (v := ?_) rfl (by kernel_rfl) (by kernel_rfl) (by kernel_rfl) (fun _ _ _ h => h) (Or.inl ⟨by rfl, ?_⟩) (by with_reducible assumption) ?_
    rotate_left
    · (intro wS hSw; (try dsimp only at hSw); go_simp; (try with_reducible rfl))
    try simp only [Act.put, List.setIfInBounds_toArray, List.set_cons_zero, List.set_cons_succ]
    refine wpAnyH_take (i := 26) (oi := { dst := some 99, op := Go.Op.move (Go.Operand.tmp 98), type := 4, pos := "law.go:51", after := #[{ on := 25, ground := Go.Ground.data }, { on := 23, ground := Go.Ground.chain }], guard := none }) (v := ?_) rfl (by kernel_rfl) (by kernel_rfl) (by kernel_rfl) (fun _ _ _ h => h) (Or.inl ⟨by rfl, ?_⟩) (by with_reducible assumption) ?_
    rotate_left
    · (intro wS hSw; (try dsimp only at hSw); go_simp; (try with_reducible rfl))
    try simp only [Act.put, List.setIfInBounds_toArray, List.set_cons_zero, List.set_cons_succ]
    refine wpAnyH_take (i := 27) (oi := { dst := some 100, op := Go.Op.load 57 (Go.Operand.tmp 7), type := 57, pos := "law.go:51", after := #[{ on := 26, ground := Go.Ground.guard }], guard := some (26, true) }) (v := ?_) rfl (by kernel_rfl) (by kernel_rfl) (by kernel_rfl) (fun _ _ _ h => h) (Or.inl ⟨by rfl, ?_⟩) (by with_reducible assumption) ?_
    rotate_left
    · (intro wS hSw; (try dsimp only at hSw); go_simp; (try with_reducible rfl))
    try simp only [Act.put, List.setIfInBounds_toArray, List.set_cons_zero, List.set_cons_succ]
    refine wpAnyH_take (i := 28) (oi := { dst := some 101, op := Go.Op.move (Go.Operand.tmp 2), type := 24, pos := "law.go:51", after := #[{ on := 26, ground := Go.Ground.guard }], guard := some (26, true) }) (v := ?_) rfl (by kernel_rfl) (by kernel_rfl) (by kernel_rfl) (fun _ _ _ h => h) (Or.inl ⟨by rfl, ?_⟩) (by with_reducible assumption) ?_
    rotate_left
    · (intro wS hSw; (try dsimp only at hSw); go_simp; (try with_reducible rfl))
    try simp only [Act.put, List.setIfInBounds_toArray, List.set_cons_zero, List.set_cons_succ]
    refine wpAnyH_take (i := 30) (oi := { dst := some 103, op := Go.Op.load 60 (Go.Operand.tmp 8), type := 60, pos := "law.go:51", after := #[{ on := 26, ground := Go.Ground.guard }], guard := some (26, true) }) (v := ?_) rfl (by kernel_rfl) (by kernel_rfl) (by kernel_rfl) (fun _ _ _ h => h) (Or.inl ⟨by rfl, ?_⟩) (by with_reducible assumption) ?_
    rotate_left
    · (intro wS hSw; (try dsimp only at hSw); go_simp; (try with_reducible rfl))
    try simp only [Act.put, List.setIfInBounds_toArray, List.set_cons_zero, List.set_cons_succ]
    refine wpAnyH_take (i := 31) (oi := { dst := some 104, op := Go.Op.move (Go.Operand.tmp 2), type := 24, pos := "law.go:51", after := #[{ on := 26, ground := Go.Ground.guard }], guard := some (26, true) }) (v := ?_) rfl (by kernel_rfl) (by kernel_rfl) (by kernel_rfl) (fun _ _ _ h => h) (Or.inl ⟨by rfl, ?_⟩) (by with_reducible assumption) ?_
    rotate_left
    · (intro wS hSw; (try dsimp only at hSw); go_simp; (try with_reducible rfl))
    try simp only [Act.put, List.setIfInBounds_toArray, List.set_cons_zero, List.set_cons_succ]
    refine wpAnyH_ready (rs := [29]) (by kernel_rfl) (by simp) ?_
    refine AllReadyH.cons (o := { dst := some 102, op := Go.Op.call { callee := Go.Callee.value (Go.Operand.func 39), args := #[Go.Operand.tmp 100, Go.Operand.tmp 101], argTypes := #[57, 24] }, type := 24, pos := "law.go:51", after := #[{ on := 27, ground := Go.Ground.data }, { on := 28, ground := Go.Ground.data }, { on := 26, ground := Go.Ground.chain }, { on := 26, ground := Go.Ground.guard }], guard := some (26, true) }) rfl (fun K hK => ?_) AllReadyH.nil
    go_simp
    (with_reducible refine (E6.out _ (by with_reducible assumption)).mono ?_); rintro e u6 ⟨b6, k6, c6, rfl, hn6, hb6⟩; have hS2 := KS2.out _ _ (by with_reducible assumption) hb6; have N6 := Lib.hid hn6; clear hn6 hb6
    refine hK.out _ _ ?_ (fun hHeld => ?_)
    · (try dsimp only); with_reducible assumption
    clear hK K
    try simp only [Act.put, List.setIfInBounds_toArray, List.set_cons_zero, List.set_cons_succ]
    refine wpAnyH_ready (rs := [32]) (by kernel_rfl) (by simp) ?_
    refine AllReadyH.cons (o := { dst := some 105, op := Go.Op.call { callee := Go.Callee.value (Go.Operand.func 40), args := #[Go.Operand.tmp 103, Go.Operand.tmp 104], argTypes := #[60, 23] }, type := 23, pos := "law.go:51", after := #[{ on := 30, ground := Go.Ground.data }, { on := 31, ground := Go.Ground.data }, { on := 29, ground := Go.Ground.chain }, { on := 26, ground := Go.Ground.guard }], guard := some (26, true) }) rfl (fun K hK => ?_) AllReadyH.nil
    go_simp
    (with_reducible refine (E7.out _ (by with_reducible assumption)).mono ?_); rintro e u7 ⟨b7, k7, c7, rfl, hn7, hb7⟩; have hS2 := KS2.out _ _ (by with_reducible assumption) hb7; have N67 := Lib.hid (N6.out.below hb7); have N7 := Lib.hid hn7; clear hn7 hb7
    refine hK.out _ _ ?_ (fun hHeld => ?_)
    · (try dsimp only); with_reducible assumption
    clear hK K
    try simp only [Act.put, List.setIfInBounds_toArray, List.set_cons_zero, List.set_cons_succ]
    refine wpAnyH_ready (rs := [33]) (by kernel_rfl) (by simp) ?_
    refine AllReadyH.cons (o := { dst := some 106, op := Go.Op.call { callee := Go.Callee.value (Go.Operand.func 20), args := #[Go.Operand.tmp 102, Go.Operand.tmp 105], argTypes := #[23, 23] }, type := 4, pos := "law.go:51", after := #[{ on := 29, ground := Go.Ground.data }, { on := 32, ground := Go.Ground.data }, { on := 32, ground := Go.Ground.chain }, { on := 26, ground := Go.Ground.guard }], guard := some (26, true) }) rfl (fun K hK => ?_) AllReadyH.nil
    go_simp
    (with_reducible refine (E8.out _ _ _ N67.out N7.out).mono ?_); rintro e u8 ⟨rfl, hb8⟩; have hS2 := KS2.out _ _ (by with_reducible assumption) hb8; clear hb8
    refine hK.out _ _ ?_ (fun hHeld => ?_)
    · (try dsimp only); with_reducible assumption
    clear hK K
    try simp only [Act.put, List.setIfInBounds_toArray, List.set_cons_zero, List.set_cons_succ]
    refine wpAnyH_take (i := 34) (oi := { dst := some 107, op := Go.Op.pick (Go.Operand.tmp 99) (Go.Operand.tmp 106) (Go.Operand.const (Go.Value.bool false)), type := 4, pos := "law.go:51", after := #[{ on := 26, ground := Go.Ground.data }, { on := 33, ground := Go.Ground.data }], guard := none }) (v := ?_) rfl (by kernel_rfl) (by kernel_rfl) (by kernel_rfl) (fun _ _ _ h => h) (Or.inl ⟨by rfl, ?_⟩) (by with_reducible assumption) ?_
    rotate_left
    · (intro wS hSw; (try dsimp only at hSw); go_simp; (try with_reducible rfl))
    try simp only [Act.put, List.setIfInBounds_toArray, List.set_cons_zero, List.set_cons_succ]
    refine wpAnyH_take (i := 35) (oi := { dst := some 108, op := Go.Op.move (Go.Operand.tmp 107), type := 4, pos := "law.go:51", after := #[{ on := 34, ground := Go.Ground.data }, { on := 33, ground := Go.Ground.chain }], guard := none }) (v := ?_) rfl (by kernel_rfl) (by kernel_rfl) (by kernel_rfl) (fun _ _ _ h => h) (Or.inl ⟨by rfl, ?_⟩) (by with_reducible assumption) ?_
    rotate_left
    · (intro wS hSw; (try dsimp only at hSw); go_simp; (try with_reducible rfl))
    try simp only [Act.put, List.setIfInBounds_toArray, List.set_cons_zero, List.set_cons_succ]
    refine wpAnyH_take (i := 36) (oi := { dst := some 109, op := Go.Op.move (Go.Operand.tmp 14), type := 4, pos := "law.go:51", after := #[{ on := 35, ground := Go.Ground.guard }], guard := some (35, true) }) (v := ?_) rfl (by kernel_rfl) (by kernel_rfl) (by kernel_rfl) (fun _ _ _ h => h) (Or.inl ⟨by rfl, ?_⟩) (by with_reducible assumption) ?_
    rotate_left
    · (intro wS hSw; (try dsimp only at hSw); go_simp; (try with_reducible rfl))
    try simp only [Act.put, List.setIfInBounds_toArray, List.set_cons_zero, List.set_cons_succ]
    refine wpAnyH_take (i := 37) (oi := { dst := some 110, op := Go.Op.move (Go.Operand.tmp 16), type := 4, pos := "law.go:51", after := #[{ on := 35, ground := Go.Ground.guard }], guard := some (35, true) }) (v := ?_) rfl (by kernel_rfl) (by kernel_rfl) (by kernel_rfl) (fun _ _ _ h => h) (Or.inl ⟨by rfl, ?_⟩) (by with_reducible assumption) ?_
    rotate_left
    · (intro wS hSw; (try dsimp only at hSw); go_simp; (try with_reducible rfl))
    try simp only [Act.put, List.setIfInBounds_toArray, List.set_cons_zero, List.set_cons_succ]
    refine wpAnyH_take (i := 38) (oi := { dst := some 111, op := Go.Op.binOp Go.BinOp.eql 4 (Go.Operand.tmp 109) (Go.Operand.tmp 110) 4, type := 4, pos := "law.go:51", after := #[{ on := 36, ground := Go.Ground.data }, { on := 37, ground := Go.Ground.data }, { on := 35, ground := Go.Ground.guard }], guard := some (35, true) }) (v := ?_) rfl (by kernel_rfl) (by kernel_rfl) (by kernel_rfl) (fun _ _ _ h => h) (Or.inl ⟨by rfl, ?_⟩) (by with_reducible assumption) ?_
    rotate_left
    · (intro wS hSw; (try dsimp only at hSw); go_simp; (try with_reducible rfl))
    try simp only [Act.put, List.setIfInBounds_toArray, List.set_cons_zero, List.set_cons_succ]
    refine wpAnyH_take (i := 39) (oi := { dst := some 112, op := Go.Op.pick (Go.Operand.tmp 108) (Go.Operand.tmp 111) (Go.Operand.const (Go.Value.bool false)), type := 4, pos := "law.go:51", after := #[{ on := 35, ground := Go.Ground.data }, { on := 38, ground := Go.Ground.data }], guard := none }) (v := ?_) rfl (by kernel_rfl) (by kernel_rfl) (by kernel_rfl) (fun _ _ _ h => h) (Or.inl ⟨by rfl, ?_⟩) (by with_reducible assumption) ?_
    rotate_left
    · (intro wS hSw; (try dsimp only at hSw); go_simp; (try with_reducible rfl))
    try simp only [Act.put, List.setIfInBounds_toArray, List.set_cons_zero, List.set_cons_succ]
    refine wpAnyH_take (i := 40) (oi := { dst := some 113, op := Go.Op.move (Go.Operand.tmp 112), type := 4, pos := "law.go:51", after := #[{ on := 39, ground := Go.Ground.data }, { on := 35, ground := Go.Ground.chain }], guard := none }) (v := ?_) rfl (by kernel_rfl) (by kernel_rfl) (by kernel_rfl) (fun _ _ _ h => h) (Or.inl ⟨by rfl, ?_⟩) (by with_reducible assumption) ?_
    rotate_left
    · (intro wS hSw; (try dsimp only at hSw); go_simp; (try with_reducible rfl))
    try simp only [Act.put, List.setIfInBounds_toArray, List.set_cons_zero, List.set_cons_succ]
    refine wpAnyH_take (i := 41) (oi := { dst := some 114, op := Go.Op.move (Go.Operand.tmp 14), type := 4, pos := "law.go:51", after := #[{ on := 40, ground := Go.Ground.guard }], guard := some (40, true) }) (v := ?_) rfl (by kernel_rfl) (by kernel_rfl) (by kernel_rfl) (fun _ _ _ h => h) (Or.inl ⟨by rfl, ?_⟩) (by with_reducible assumption) ?_
    rotate_left
    · (intro wS hSw; (try dsimp only at hSw); go_simp; (try with_reducible rfl))
    try simp only [Act.put, List.setIfInBounds_toArray, List.set_cons_zero, List.set_cons_succ]
    refine wpAnyH_take (i := 42) (oi := { dst := some 115, op := Go.Op.unOp Go.UnOp.not 4 (Go.Operand.tmp 114), type := 4, pos := "law.go:51", after := #[{ on := 41, ground := Go.Ground.data }, { on := 40, ground := Go.Ground.guard }], guard := some (40, true) }) (v := ?_) rfl (by kernel_rfl) (by kernel_rfl) (by kernel_rfl) (fun _ _ _ h => h) (Or.inl ⟨by rfl, ?_⟩) (by with_reducible assumption) ?_
    rotate_left
    · (intro wS hSw; (try dsimp only at hSw); go_simp; (try with_reducible rfl))
    try simp only [Act.put, List.setIfInBounds_toArray, List.set_cons_zero, List.set_cons_succ]
    refine wpAnyH_take (i := 43) (oi := { dst := some 116, op := Go.Op.move (Go.Operand.tmp 115), type := 4, pos := "law.go:51", after := #[{ on := 42, ground := Go.Ground.data }, { on := 40, ground := Go.Ground.chain }, { on := 40, ground := Go.Ground.guard }], guard := some (40, true) }) (v := ?_) rfl (by kernel_rfl) (by kernel_rfl) (by kernel_rfl) (fun _ _ _ h => h) (Or.inl ⟨by rfl, ?_⟩) (by with_reducible assumption) ?_
    rotate_left
    · (intro wS hSw; (try dsimp only at hSw); go_simp; (try with_reducible rfl))
    try simp only [Act.put, List.setIfInBounds_toArray, List.set_cons_zero, List.set_cons_succ]
    refine wpAnyH_take (i := 44) (oi := { dst := some 117, op := Go.Op.move (Go.Operand.tmp 13), type := 24, pos := "law.go:51", after := #[{ on := 43, ground := Go.Ground.guard }], guard := some (43, false) }) (v := undef) rfl (by kernel_rfl) (by kernel_rfl) (by kernel_rfl) (fun _ _ _ h => h) (Or.inr ⟨by rfl, rfl⟩) (by with_reducible assumption) ?_
    try simp only [Act.put, List.setIfInBounds_toArray, List.set_cons_zero, List.set_cons_succ]
    refine wpAnyH_take (i := 45) (oi := { dst := some 118, op := Go.Op.move (Go.Operand.tmp 15), type := 23, pos := "law.go:51", after := #[{ on := 43, ground := Go.Ground.guard }], guard := some (43, false) }) (v := undef) rfl (by kernel_rfl) (by kernel_rfl) (by kernel_rfl) (fun _ _ _ h => h) (Or.inr ⟨by rfl, rfl⟩) (by with_reducible assumption) ?_
    try simp only [Act.put, List.setIfInBounds_toArray, List.set_cons_zero, List.set_cons_succ]
    refine wpAnyH_ready (rs := [46]) (by kernel_rfl) (by simp) ?_
    refine AllReadyH.cons (o := { dst := some 119, op := Go.Op.call { callee := Go.Callee.value (Go.Operand.func 20), args := #[Go.Operand.tmp 117, Go.Operand.tmp 118], argTypes := #[23, 23] }, type := 4, pos := "law.go:51", after := #[{ on := 44, ground := Go.Ground.data }, { on := 45, ground := Go.Ground.data }, { on := 43, ground := Go.Ground.chain }, { on := 43, ground := Go.Ground.guard }], guard := some (43, false) }) rfl (fun K hK => ?_) AllReadyH.nil
    go_simp
    refine hK.out _ _ ?_ (fun hHeld => ?_)
    · (try dsimp only); with_reducible assumption
    clear hK K
    try simp only [Act.put, List.setIfInBounds_toArray, List.set_cons_zero, List.set_cons_succ]
    refine wpAnyH_take (i := 47) (oi := { dst := some 120, op := Go.Op.pick (Go.Operand.tmp 116) (Go.Operand.const (Go.Value.bool true)) (Go.Operand.tmp 119), type := 4, pos := "law.go:51", after := #[{ on := 43, ground := Go.Ground.data }, { on := 46, ground := Go.Ground.data }, { on := 40, ground := Go.Ground.guard }], guard := some (40, true) }) (v := ?_) rfl (by kernel_rfl) (by kernel_rfl) (by kernel_rfl) (fun _ _ _ h => h) (Or.inl ⟨by rfl, ?_⟩) (by with_reducible assumption) ?_
    rotate_left
    · (intro wS hSw; (try dsimp only at hSw); go_simp; (try with_reducible rfl))
    try simp only [Act.put, List.setIfInBounds_toArray, List.set_cons_zero, List.set_cons_succ]
    refine wpAnyH_take (i := 48) (oi := { dst := some 121, op := Go.Op.pick (Go.Operand.tmp 113) (Go.Operand.tmp 120) (Go.Operand.const (Go.Value.bool false)), type := 4, pos := "law.go:51", after := #[{ on := 40, ground := Go.Ground.data }, { on := 47, ground := Go.Ground.data }], guard := none }) (v := ?_) rfl (by kernel_rfl) (by kernel_rfl) (by kernel_rfl) (fun _ _ _ h => h) (Or.inl ⟨by rfl, ?_⟩) (by with_reducible assumption) ?_
    rotate_left
    · (intro wS hSw; (try dsimp only at hSw); go_simp; (try with_reducible rfl))
    try simp only [Act.put, List.setIfInBounds_toArray, List.set_cons_zero, List.set_cons_succ]
    refine wpAnyH_take (i := 49) (oi := { dst := some 122, op := Go.Op.move (Go.Operand.tmp 121), type := 4, pos := "law.go:51", after := #[{ on := 48, ground := Go.Ground.data }, { on := 46, ground := Go.Ground.chain }], guard := none }) (v := ?_) rfl (by kernel_rfl) (by kernel_rfl) (by kernel_rfl) (fun _ _ _ h => h) (Or.inl ⟨by rfl, ?_⟩) (by with_reducible assumption) ?_
    rotate_left
    · (intro wS hSw; (try dsimp only at hSw); go_simp; (try with_reducible rfl))
    try simp only [Act.put, List.setIfInBounds_toArray, List.set_cons_zero, List.set_cons_succ]
    refine wpAnyH_take (i := 50) (oi := { dst := some 123, op := Go.Op.load 57 (Go.Operand.tmp 7), type := 57, pos := "law.go:51", after := #[{ on := 49, ground := Go.Ground.guard }], guard := some (49, true) }) (v := ?_) rfl (by kernel_rfl) (by kernel_rfl) (by kernel_rfl) (fun _ _ _ h => h) (Or.inl ⟨by rfl, ?_⟩) (by with_reducible assumption) ?_
    rotate_left
    · (intro wS hSw; (try dsimp only at hSw); go_simp; (try with_reducible rfl))
    try simp only [Act.put, List.setIfInBounds_toArray, List.set_cons_zero, List.set_cons_succ]
    refine wpAnyH_take (i := 51) (oi := { dst := some 124, op := Go.Op.move (Go.Operand.tmp 2), type := 24, pos := "law.go:51", after := #[{ on := 49, ground := Go.Ground.guard }], guard := some (49, true) }) (v := ?_) rfl (by kernel_rfl) (by kernel_rfl) (by kernel_rfl) (fun _ _ _ h => h) (Or.inl ⟨by rfl, ?_⟩) (by with_reducible assumption) ?_
    rotate_left
    · (intro wS hSw; (try dsimp only at hSw); go_simp; (try with_reducible rfl))
    try simp only [Act.put, List.setIfInBounds_toArray, List.set_cons_zero, List.set_cons_succ]
    refine wpAnyH_take (i := 53) (oi := { dst := some 126, op := Go.Op.load 60 (Go.Operand.tmp 8), type := 60, pos := "law.go:51", after := #[{ on := 49, ground := Go.Ground.guard }], guard := some (49, true) }) (v := ?_) rfl (by kernel_rfl) (by kernel_rfl) (by kernel_rfl) (fun _ _ _ h => h) (Or.inl ⟨by rfl, ?_⟩) (by with_reducible assumption) ?_
    rotate_left
    · (intro wS hSw; (try dsimp only at hSw); go_simp; (try with_reducible rfl))
    try simp only [Act.put, List.setIfInBounds_toArray, List.set_cons_zero, List.set_cons_succ]
    refine wpAnyH_take (i := 54) (oi := { dst := some 127, op := Go.Op.move (Go.Operand.tmp 2), type := 24, pos := "law.go:51", after := #[{ on := 49, ground := Go.Ground.guard }], guard := some (49, true) }) (v := ?_) rfl (by kernel_rfl) (by kernel_rfl) (by kernel_rfl) (fun _ _ _ h => h) (Or.inl ⟨by rfl, ?_⟩) (by with_reducible assumption) ?_
    rotate_left
    · (intro wS hSw; (try dsimp only at hSw); go_simp; (try with_reducible rfl))
    try simp only [Act.put, List.setIfInBounds_toArray, List.set_cons_zero, List.set_cons_succ]
    refine wpAnyH_ready (rs := [52]) (by kernel_rfl) (by simp) ?_
    refine AllReadyH.cons (o := { dst := some 125, op := Go.Op.call { callee := Go.Callee.value (Go.Operand.func 42), args := #[Go.Operand.tmp 123, Go.Operand.tmp 124], argTypes := #[57, 24] }, type := 36, pos := "law.go:51", after := #[{ on := 50, ground := Go.Ground.data }, { on := 51, ground := Go.Ground.data }, { on := 49, ground := Go.Ground.chain }, { on := 49, ground := Go.Ground.guard }], guard := some (49, true) }) rfl (fun K hK => ?_) AllReadyH.nil
    go_simp
    (with_reducible refine (E10.out _ (by with_reducible assumption)).mono ?_); rintro e u10 ⟨v10, cs10, rfl, hs10, hd10, hb10⟩; obtain ⟨ba, bc, rfl, -⟩ := id hs10; generalize List.length cs10 = bn at hs10; have hS2 := KS2.out _ _ (by with_reducible assumption) hb10; have S10 := Lib.hid hs10; have D10 := Lib.hid hd10; clear hs10 hd10 hb10
    refine hK.out _ _ ?_ (fun hHeld => ?_)
    · (try dsimp only); with_reducible assumption
    clear hK K
    try simp only [Act.put, List.setIfInBounds_toArray, List.set_cons_zero, List.set_cons_succ]
    refine wpAnyH_ready (rs := [55]) (by kernel_rfl) (by simp) ?_
    refine AllReadyH.cons (o := { dst := some 128, op := Go.Op.call { callee := Go.Callee.value (Go.Operand.func 43), args := #[Go.Operand.tmp 126, Go.Operand.tmp 127], argTypes := #[60, 23] }, type := 39, pos := "law.go:51", after := #[{ on := 53, ground := Go.Ground.data }, { on := 54, ground := Go.Ground.data }, { on := 52, ground := Go.Ground.chain }, { on := 49, ground := Go.Ground.guard }], guard := some (49, true) }) rfl (fun K hK => ?_) AllReadyH.nil
    go_simp
    (with_reducible refine (E11.out _ (by with_reducible assumption)).mono ?_); rintro e u11 ⟨v11, cs11, rfl, ho11, hd11, hb11⟩; have hS2 := KS2.out _ _ (by with_reducible assumption) hb11; have hs11 := SlK.of_own ho11 (dts_len hd11); obtain ⟨ea, ec, rfl⟩ := OwnK.shape ho11; generalize List.length cs11 = en at *; have S11 := Lib.hid hs11; have D11 := Lib.hid (hd11.below (HWD.out.trans (hS2.2.2.2.2.mono HWD.out.size))); have S10B := Lib.hid (S10.out.below hb11); have D10B := Lib.hid (D10.out.below hb11); clear hs11 ho11 hd11 hb11
    refine hK.out _ _ ?_ (fun hHeld => ?_)
    · (try dsimp only); with_reducible assumption
    clear hK K
    try simp only [Act.put, List.setIfInBounds_toArray, List.set_cons_zero, List.set_cons_succ]
    refine wpAnyH_ready (rs := [56]) (by kernel_rfl) (by simp) ?_
    refine AllReadyH.cons (o := { dst := some 129, op := Go.Op.call { callee := Go.Callee.value (Go.Operand.func 41), args := #[Go.Operand.tmp 125, Go.Operand.tmp 128], argTypes := #[36, 39] }, type := 4, pos := "law.go:51", after := #[{ on := 52, ground := Go.Ground.data }, { on := 55, ground := Go.Ground.data }, { on := 55, ground := Go.Ground.chain }, { on := 49, ground := Go.Ground.guard }], guard := some (49, true) }) rfl (fun K hK => ?_) AllReadyH.nil
    go_simp
    (with_reducible refine (E12.out _ _ _ _ _ S10B.out D10B.out S11.out D11.out).mono ?_); rintro e u12 ⟨rfl, hb12⟩; have hS2 := KS2.out _ _ (by with_reducible assumption) hb12; have HFF := Lib.hid (HFM.out _ hS2.2.2.2.2); clear hb12
    refine hK.out _ _ ?_ (fun hHeld => ?_)
    · (try dsimp only); with_reducible assumption
    clear hK K
    try simp only [Act.put, List.setIfInBounds_toArray, List.set_cons_zero, List.set_cons_succ]
    refine wpAnyH_take (i := 57) (oi := { dst := some 130, op := Go.Op.pick (Go.Operand.tmp 122) (Go.Operand.tmp 129) (Go.Operand.const (Go.Value.bool false)), type := 4, pos := "law.go:51", after := #[{ on := 49, ground := Go.Ground.data }, { on := 56, ground := Go.Ground.data }], guard := none }) (v := ?_) rfl (by kernel_rfl) (by kernel_rfl) (by kernel_rfl) (fun _ _ _ h => h) (Or.inl ⟨by rfl, ?_⟩) (by with_reducible assumption) ?_
    rotate_left
    · (intro wS hSw; (try dsimp only at hSw); go_simp; (try with_reducible rfl))
    try simp only [Act.put, List.setIfInBounds_toArray, List.set_cons_zero, List.set_cons_succ]
    refine wpAnyH_take (i := 58) (oi := { dst := some 6, op := Go.Op.assign (Go.Operand.tmp 130), type := 4, pos := "law.go:51", after := #[{ on := 57, ground := Go.Ground.data }, { on := 56, ground := Go.Ground.chain }, { on := 0, ground := Go.Ground.phase }, { on := 1, ground := Go.Ground.phase }, { on := 2, ground := Go.Ground.phase }, { on := 3, ground := Go.Ground.phase }, { on := 4, ground := Go.Ground.phase }, { on := 5, ground := Go.Ground.phase }, { on := 6, ground := Go.Ground.phase }, { on := 7, ground := Go.Ground.phase }, { on := 8, ground := Go.Ground.phase }, { on := 9, ground := Go.Ground.phase }, { on := 10, ground := Go.Ground.phase }, { on := 11, ground := Go.Ground.phase }, { on := 12, ground := Go.Ground.phase }, { on := 13, ground := Go.Ground.phase }, { on := 14, ground := Go.Ground.phase }, { on := 15, ground := Go.Ground.phase }, { on := 16, ground := Go.Ground.phase }, { on := 17, ground := Go.Ground.phase }, { on := 18, ground := Go.Ground.phase }, { on := 19, ground := Go.Ground.phase }, { on := 20, ground := Go.Ground.phase }, { on := 21, ground := Go.Ground.phase }, { on := 22, ground := Go.Ground.phase }, { on := 23, ground := Go.Ground.phase }, { on := 24, ground := Go.Ground.phase }, { on := 25, ground := Go.Ground.phase }, { on := 26, ground := Go.Ground.phase }, { on := 27, ground := Go.Ground.phase }, { on := 28, ground := Go.Ground.phase }, { on := 29, ground := Go.Ground.phase }, { on := 30, ground := Go.Ground.phase }, { on := 31, ground := Go.Ground.phase }, { on := 32, ground := Go.Ground.phase }, { on := 33, ground := Go.Ground.phase }, { on := 34, ground := Go.Ground.phase }, { on := 35, ground := Go.Ground.phase }, { on := 36, ground := Go.Ground.phase }, { on := 37, ground := Go.Ground.phase }, { on := 38, ground := Go.Ground.phase }, { on := 39, ground := Go.Ground.phase }, { on := 40, ground := Go.Ground.phase }, { on := 41, ground := Go.Ground.phase }, { on := 42, ground := Go.Ground.phase }, { on := 43, ground := Go.Ground.phase }, { on := 44, ground := Go.Ground.phase }, { on := 45, ground := Go.Ground.phase }, { on := 46, ground := Go.Ground.phase }, { on := 47, ground := Go.Ground.phase }, { on := 48, ground := Go.Ground.phase }, { on := 49, ground := Go.Ground.phase }, { on := 50, ground := Go.Ground.phase }, { on := 51, ground := Go.Ground.phase }, { on := 52, ground := Go.Ground.phase }, { on := 53, ground := Go.Ground.phase }, { on := 54, ground := Go.Ground.phase }, { on := 55, ground := Go.Ground.phase }, { on := 56, ground := Go.Ground.phase }, { on := 57, ground := Go.Ground.phase }], guard := none }) (v := ?_) rfl (by kernel_rfl) (by kernel_rfl) (by kernel_rfl) (fun _ _ _ h => h) (Or.inl ⟨by rfl, ?_⟩) (by with_reducible assumption) ?_
    rotate_left
    · (intro wS hSw; (try dsimp only at hSw); go_simp; (try with_reducible rfl))
    try simp only [Act.put, List.setIfInBounds_toArray, List.set_cons_zero, List.set_cons_succ]
    refine wpAnyH_done (by kernel_rfl) ?_ _
    go_wp2
    go_ret
    exact ⟨by first | rfl | simp, HFF.out⟩
  · go_wp2_with fail
    go_region_held3 (fun W => W.cell? ⟨zb, 0, none⟩ = some (.slice za zn zc) ∧ W.cell? ⟨zb, 1, none⟩ = some (.slice v1 m c) ∧ W.cell? ⟨xb, 0, none⟩ = some (.slice xa xn xc) ∧ W.cell? ⟨xb, 1, none⟩ = some (.slice x1 mx cx) ∧ Below wd.heap.size wd W)
      (first | with_reducible assumption | exact HSF.out | (with_reducible exact KD2.out _ (by with_reducible assumption)))
      (first
        | ((with_reducible refine (E1.out _ (by with_reducible assumption)).mono ?_); rintro e u1 ⟨rfl, hb1⟩; have hS2 := KS2.out _ _ (by with_reducible assumption) hb1; clear hb1)
        | ((with_reducible refine (E2.out _ (by with_reducible assumption)).mono ?_); rintro e u2 ⟨rfl, hb1⟩; have hS2 := KS2.out _ _ (by with_reducible assumption) hb1; clear hb1)
        | ((with_reducible refine (E3.out _ (by with_reducible assumption)).mono ?_); rintro e u3 ⟨rfl, hb1⟩; have hS2 := KS2.out _ _ (by with_reducible assumption) hb1; clear hb1)
        | ((with_reducible refine (E4.out _ (by with_reducible assumption)).mono ?_); rintro e u4 ⟨rfl, hb1⟩; have hS2 := KS2.out _ _ (by with_reducible assumption) hb1; clear hb1)
        | ((with_reducible refine (E5.out _ (by with_reducible assumption)).mono ?_); rintro e u5 ⟨rfl, hb1⟩; have hS2 := KS2.out _ _ (by with_reducible assumption) hb1; clear hb1)
        | ((with_reducible refine (E6.out _ (by with_reducible assumption)).mono ?_); rintro e u6 ⟨b6, k6, c6, rfl, hn6, hb6⟩; have hS2 := KS2.out _ _ (by with_reducible assumption) hb6; have N6 := Lib.hid hn6; clear hn6 hb6)
        | ((with_reducible refine (E7.out _ (by with_reducible assumption)).mono ?_); rintro e u7 ⟨b7, k7, c7, rfl, hn7, hb7⟩; have hS2 := KS2.out _ _ (by with_reducible assumption) hb7; have N67 := Lib.hid (N6.out.below hb7); have N7 := Lib.hid hn7; clear hn7 hb7)
        | ((with_reducible refine (E8.out _ _ _ N67.out N7.out).mono ?_); rintro e u8 ⟨rfl, hb8⟩; have hS2 := KS2.out _ _ (by with_reducible assumption) hb8; clear hb8)
        | ((with_reducible refine (E9.out _ (by with_reducible assumption)).mono ?_); rintro e u9 ⟨rfl, hb9⟩; have hS2 := KS2.out _ _ (by with_reducible assumption) hb9; clear hb9)
        | ((with_reducible refine (E10.out _ (by with_reducible assumption)).mono ?_); rintro e u10 ⟨v10, cs10, rfl, hs10, hd10, hb10⟩; obtain ⟨ba, bc, rfl, -⟩ := id hs10; generalize List.length cs10 = bn at hs10; have hS2 := KS2.out _ _ (by with_reducible assumption) hb10; have S10 := Lib.hid hs10; have D10 := Lib.hid hd10; clear hs10 hd10 hb10)
        | ((with_reducible refine (E11.out _ (by with_reducible assumption)).mono ?_); rintro e u11 ⟨v11, cs11, rfl, ho11, hd11, hb11⟩; have hS2 := KS2.out _ _ (by with_reducible assumption) hb11; have hs11 := SlK.of_own ho11 (dts_len hd11); obtain ⟨ea, ec, rfl⟩ := OwnK.shape ho11; generalize List.length cs11 = en at *; have S11 := Lib.hid hs11; have D11 := Lib.hid (hd11.below (HWD.out.trans (hS2.2.2.2.2.mono HWD.out.size))); have S10B := Lib.hid (S10.out.below hb11); have D10B := Lib.hid (D10.out.below hb11); clear hs11 ho11 hd11 hb11)
        | ((with_reducible refine (E12.out _ _ _ _ _ S10B.out D10B.out S11.out D11.out).mono ?_); rintro e u12 ⟨rfl, hb12⟩; have hS2 := KS2.out _ _ (by with_reducible assumption) hb12; have HFF := Lib.hid (HFM.out _ hS2.2.2.2.2); clear hb12))
    all_goals
      go_wp2
      go_ret
      exact ⟨by first | rfl | simp, HFF.out⟩
end Go.Proofs.YtckammgnmgkieaaGreat

