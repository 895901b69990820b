/-
  The document's Of.
-/
import Derived.Test.YtckammgnmgkieaaGreatMQ07
import Derived.Test.YtckammgnmgkieaaGreatMQ36
import Derived.Test.YtckammgnmgkieaaGreatMQ30
import Derived.Test.YtckammgnmgkieaaGreatMQ04
import Derived.Test.YtckammgnmgkieaaGreatMQ35
import Derived.Test.YtckammgnmgkieaaGreatMQ24
import Derived.Test.YtckammgnmgkieaaGreatMQ16
import Derived.Test.YtckammgnmgkieaaGreatMQ20
import Derived.Deep.RegionHeld3
namespace Go.Proofs.YtckammgnmgkieaaGreat
set_option maxRecDepth 20000
open Go.RowKit Go.Shelf
set_option maxRecDepth 20000
set_option linter.unusedVariables false
set_option linter.unusedSimpArgs false
theorem results_rset {fn : Func} {t u : Tmp} (h : fn.results = #[.cell t 41, .tmp u]) (tmps : Array Value) (W : World) {a : Nat} {x0 x1 x2 x3 v : Value}
    (ht : tmps.getD t undef = .pointer (some ⟨a, 0, none⟩)) (hu : tmps.getD u undef = v) (hb : W.heap[a]? = some (.cells #[x0, x1, x2, x3] 41)) :
    (results fn tmps).run Tryz.prog W = .ok (.tuple #[.agg #[x0, x1, x2, x3], v]) W := by
  have ht' : tmps[t]?.getD undef = .pointer (some ⟨a, 0, none⟩) := by rw [← ht]; simp
  have hv' : tmps[u]?.getD undef = v := by rw [← hu]; simp
  have hA : ∀ w, Sem.run Tryz.prog (underlying 41) w = .ok _ w := run_underlying Tryz.underlying41
  have c0 := kcell hb 0 _ rfl; have c1 := kcell hb 1 _ rfl; have c2 := kcell hb 2 _ rfl; have c3 := kcell hb 3 _ rfl
  simp [results, h, ht', hv', loadVar, asAddr, go_sem, hA, c0, c1, c2, c3, isAgg]
def put4s (W : World) (B : Nat) (v0 v1 v2 v3 : Value) : World := (((W.setCell ⟨B, 0, none⟩ v0).setCell ⟨B, 1, none⟩ v1).setCell ⟨B, 2, none⟩ v2).setCell ⟨B, 3, none⟩ v3
theorem put4s_box {W : World} {B : Nat} {z0 z1 z2 z3 : Value} {T : TypeId} (h : W.heap[B]? = some (.cells #[z0, z1, z2, z3] T)) (v0 v1 v2 v3 : Value) : (put4s W B v0 v1 v2 v3).heap[B]? = some (.cells #[v0, v1, v2, v3] T) := by
  have q0 := kset h 0 v0
  have q1 := kset q0 1 v1
  have q2 := kset q1 2 v2
  exact kset q2 3 v3
theorem put4s_grown (W : World) (B : Nat) (v0 v1 v2 v3 : Value) : W.grownBy (put4s W B v0 v1 v2 v3) (some B) :=
  kg_trans (kg_trans (kg_trans (grownBy_set W B 0 v0) (grownBy_set _ B 1 v1)) (grownBy_set _ B 2 v2)) (grownBy_set _ B 3 v3)
theorem put4s_far {n : Nat} (W : World) {B : Nat} (hB : B < n) (v0 v1 v2 v3 : Value) : FarKeep n W (put4s W B v0 v1 v2 v3) := fun i h1 h2 => (put4s_grown W B v0 v1 v2 v3).block i h2 (fun e => by injection e; omega)
theorem put4s_below {n : Nat} {w W : World} (h : Below n w W) {B : Nat} (hB : n ≤ B) (v0 v1 v2 v3 : Value) : Below n w (put4s W B v0 v1 v2 v3) :=
  (((h.setCell (p := ⟨B, 0, none⟩) hB _).setCell (p := ⟨B, 1, none⟩) hB _).setCell (p := ⟨B, 2, none⟩) hB _).setCell (p := ⟨B, 3, none⟩) hB _
theorem setR_none (w W : World) : RSetP w W [.slice none 0 0, .int .i64 0, .int .u32 0, .slice none 0 0] ⟨[], 0, 0, []⟩ :=
  ⟨(none, 0, 0), (none, 0, 0), [], rfl, nm_nil w, SlK.nil W, Dts.nil w⟩
theorem find_stepS {α : Type} {p : α → Bool} {l : List α} {k : Nat} (h : k < l.length) (hn : ∀ j (hj : j < l.length), j < k → p l[j] = false) : l.find? p = if p l[k] = true then some l[k] else (l.drop (k + 1)).find? p := by
  have e : l = l.take k ++ l[k] :: l.drop (k + 1) := by rw [← List.drop_eq_getElem_cons h, List.take_append_drop]
  have e1 : (l.take k).find? p = none := by
    rw [List.find?_eq_none]
    intro x hx
    obtain ⟨j, hj, rfl⟩ := List.mem_iff_getElem.1 hx
    rw [List.length_take] at hj
    rw [List.getElem_take, hn j (by omega) (by omega)]; simp
  conv => lhs; rw [e, List.find?_append, e1, Option.none_or, List.find?_cons]
  cases p l[k] <;> simp
def OfPostD (w0 w : World) (s : Option St) (e : Ending) (w' : World) : Prop := ∃ cs, e = .returned (.tuple #[.agg cs.toArray, .bool s.isSome]) ∧ RSetP w0 w' cs (s.getD ⟨[], 0, 0, []⟩) ∧ Below w.heap.size w w'
theorem setsM_len : ∀ (n : Nat) (c : List Rc), c.length ≤ n → (setsM c).length ≤ c.length
  | 0, c, h => by
    obtain rfl : c = [] := List.eq_nil_of_length_eq_zero (by omega)
    rw [setsM_nil]; exact Nat.le_refl _
  | n + 1, [], h => by rw [setsM_nil]; exact Nat.le_refl _
  | n + 1, y :: r, h => by
    have hl : (r.dropWhile (belR y)).length ≤ r.length := (List.dropWhile_sublist _).length_le
    rw [setsM_cons, List.length_cons, List.length_cons]
    have := setsM_len n (r.dropWhile (belR y)) (by simp at h; omega)
    omega
set_option maxRecDepth 100000 in
set_option maxHeartbeats 16000000 in
theorem ref_Of (v vo : Value) (o : Nm) (t : Int) (cs0 : List (List Value)) (l : List Rc) (w0 w : World) (hA : SlK w v cs0) (hR : Rcs w0 cs0 l) (hb0 : Below w0.heap.size w0 w) (hO : NmAt w vo o) (hko : NmOK o) (hOK : ∀ r ∈ l, RcOK r) (hl : cs0.length ≤ 1000000) :
    Calls Tryz.prog 22 #[v, vo, .int .i64 t] w (OfPostD w0 w (ofM l o t)) := by
  have hc := fun (W : World) (hb : Below w.heap.size w W) => ref_Sets w0 W v cs0 l (hA.below hb) hR (hb0.trans (hb.mono hb0.size)) hOK hl
  have hoks : ∀ s ∈ setsM (canonM l), NmOK s.owner := fun s h => (sets_ok hOK h).1
  have hfd := ofM_find l o t
  have hsl : (setsM (canonM l)).length ≤ 1000000 := by
    have h1 := setsM_len _ (canonM l) (Nat.le_refl _)
    have h2 := canonM_length l
    have h3 : l.length ≤ 1000000 := by rw [← hR.1]; exact hl
    omega
  obtain ⟨S, hS⟩ : ∃ S, setsM (canonM l) = S := ⟨_, rfl⟩
  rw [hS] at hoks hfd hsl
  have hc2 := hc
  simp only [hS] at hc2
  obtain ⟨res, hres⟩ : ∃ r, ofM l o t = r := ⟨_, rfl⟩
  rw [hres] at hfd ⊢
  have HB00 := Lib.hid hb0; have HFD := Lib.hid hfd; have HOKS := Lib.hid hoks; have HNO := Lib.hid hO; have HKO := Lib.hid hko
  have HSL := Lib.hid hsl; have HCC := Lib.hid hc2
  obtain ⟨a, c, rfl, -⟩ := id hA
  obtain ⟨ao, co, rfl, -⟩ := nmAt_sl.1 hO
  obtain ⟨qo, hqo⟩ : ∃ k, (List.map strV o).length = k := ⟨_, rfl⟩
  rw [hqo] at HNO ⊢
  obtain ⟨n0, hn0⟩ : ∃ k, cs0.length = k := ⟨_, rfl⟩
  rw [hn0] at HCC ⊢
  clear hA hR hb0 hO hko hOK hl hc hc2 hoks hfd hsl hS hres hqo hn0
  have hA0 := (Below.refl w.heap.size w).alloc (Nat.le_refl _) (.cells #[.slice none 0 0, .int .i64 0, .int .u32 0, .slice none 0 0] 41)
  have hX := knew w (.cells #[.slice none 0 0, .int .i64 0, .int .u32 0, .slice none 0 0] 41)
  have HX := Lib.hid hX; have HA0 := Lib.hid hA0
  have hc := HCC.out _ hA0
  clear hA0 hX HCC
  go_enter Tryz.func22, Tryz.ntmps22
  go_wp2_with fail
  refine hc.mono ?_
  rintro e w1 ⟨v1, css, rfl, hcl, hrs, hb1⟩
  have HB1 := Lib.hid (HA0.out.trans (hb1.mono HA0.out.size))
  have HX1 := Lib.hid ((hb1.block _ (kblock_lt HX.out)).trans HX.out)
  obtain ⟨hs1, he1⟩ := hrs w1 (FarKeep.refl _ _)
  have HRS := Lib.hid (fun (W' : World) (hf : FarKeep (w.heap.size + 1) w1 W') => (hrs W' (by rw [World.size_alloc]; exact hf)).2)
  obtain ⟨sa, sc, rfl, -⟩ := id hs1
  obtain ⟨n, hn⟩ : ∃ n, css.length = n := ⟨_, rfl⟩
  have HE1 := Lib.hid he1
  rw [hn] at hs1 ⊢
  have hcl2 : S.length = n := by rw [← hn]; exact hcl.symm
  have HR1 := Lib.hid hs1; have HN := Lib.hid hn; have HNS := Lib.hid hcl2
  have HL4 := Lib.hid (show ∀ cs ∈ css, cs.length = 4 from fun cs hc => by
    obtain ⟨i, hi, rfl⟩ := List.mem_iff_getElem.1 hc
    obtain ⟨x0, x3, ds, e, _⟩ := he1 i hi (by omega)
    rw [e]; rfl)
  have hnx : n ≤ 1000000 := by have := HSL.out; omega
  clear hc hrs hb1 hs1 he1 HA0 HX hn hcl hcl2
  go_wp2
  go_loopw [9] (fun vi wr => ∃ k : Nat, vi = .int .i64 k ∧ k ≤ n ∧ Hid (∀ j (hj : j < S.length), j < k → (decide (S[j].ty = t) && sameN S[j].owner o) = false) ∧ Hid (Below w1.heap.size w1 wr)) (fun vi _ => n - (intOf vi).toNat)
  case atStart => exact ⟨0, rfl, Nat.zero_le _, Lib.hid (fun j hj h => absurd h (Nat.not_lt_zero _)), Lib.hid (Below.refl _ _)⟩
  case round =>
    obtain ⟨k, rfl, hk, HNO2, HB⟩ := hrel
    have HBW := Lib.hid (HB1.out.trans (HB.out.mono HB1.out.size))
    by_cases hlt : k < n
    · have hltz : (k : Int) < (n : Int) := by omega
      have hk0 : k < css.length := by have := HN.out; omega
      have hk1 : k < S.length := by have := HNS.out; omega
      obtain ⟨b, off, rfl, hb, hel⟩ := HR1.out.elem4 HL4.out (by omega)
      obtain ⟨⟨p0, q0, r0⟩, ⟨p3, q3, r3⟩, ds, e0, hn1, -⟩ := HE1.out k hk0 hk1
      unfold slW at e0 hn1
      simp only at e0 hn1
      have hce := fun W hb => hel k hk0 _ _ _ _ e0 W hb
      have hks := HOKS.out _ (List.getElem_mem hk1)
      have hst := find_stepS (p := fun s : St => decide (s.ty = t) && sameN s.owner o) hk1 HNO2.out
      rw [← HFD.out] at hst
      have HRF := Lib.hid (fun (W' : World) (hf : FarKeep (w.heap.size + 1) w1 W') => (show RSetP w0 W' [.slice p0 q0 r0, .int .i64 (S[k]'hk1).ty, .int .u32 ((S[k]'hk1).ttl : Int), .slice p3 q3 r3] (S[k]'hk1) by
        have h := HRS.out W' hf k hk0 hk1
        rw [e0] at h; exact h))
      have HSK := Lib.hid (show ∀ (h : k < S.length) , (S[k]'h) = (S[k]'hk1) from fun _ => rfl)
      obtain ⟨s, hs⟩ : ∃ s, S[k]'hk1 = s := ⟨_, rfl⟩
      rw [hs] at hce hks hst hn1 HRF HSK
      obtain ⟨d0, d1, d2, d3⟩ := hce wr HB.out
      have HCE := Lib.hid hce
      have HST := Lib.hid hst
      have hcs := kn_RSame (.slice p0 q0 r0) (.slice ao qo co) s.owner o _ rfl wr (hn1.below (HB00.out.trans (HBW.out.mono HB00.out.size))) (HNO.out.below HBW.out) hks HKO.out
      obtain ⟨t1, ht1⟩ : ∃ b, sameN s.owner o = b := ⟨_, rfl⟩
      rw [ht1] at hcs
      have HT1 := Lib.hid ht1
      clear hce hst hs hn1 ht1 hks hk1 hk0 e0 hel hb
      by_cases hty : s.ty = t
      · have htyb : (s.ty == t) = true := by simpa using hty
        have HTY := Lib.hid hty
        clear hty
        go_wp2_with fail
        refine hcs.mono ?_
        rintro e w2 ⟨rfl, hb2⟩
        have HB2 := Lib.hid (HB.out.trans (hb2.mono HB.out.size))
        obtain ⟨c0, c1, c2, c3⟩ := HCE.out w2 HB2.out
        clear hcs hb2 d0 d1 d2 d3 htyb
        cases t1
        · have HNX : Hid (∀ j (hj : j < S.length), j < k + 1 → (decide (S[j].ty = t) && sameN S[j].owner o) = false) := Lib.hid (fun j hj h => by
            by_cases e : j < k
            · exact HNO2.out j hj e
            · obtain rfl : j = k := by omega
              rw [HSK.out, HT1.out, Bool.and_false])
          clear c0 c1 c2 c3
          go_wp2
          go_roundw
          case measure => simp [intOf]; omega
          case rel => exact ⟨k + 1, by go_num, by omega, HNX, HB2⟩
        · have HRE : Hid (res = some s) := Lib.hid (by rw [HST.out, if_pos (by rw [HT1.out, decide_eq_true HTY.out]; rfl)])
          have hx2 := (HB2.out.block _ (kblock_lt HX1.out)).trans HX1.out
          have s0 := kcell hx2 0 _ rfl; have s1 := kcell hx2 1 _ rfl; have s2 := kcell hx2 2 _ rfl; have s3 := kcell hx2 3 _ rfl
          have u0 := kfrozen hx2 0; have u1 := kfrozen hx2 1; have u2 := kfrozen hx2 2; have u3 := kfrozen hx2 3
          have HX2 := Lib.hid hx2
          clear hx2
          go_wp2
          refine bodyPost_ret (results_rset rfl _ (put4s w2 w.heap.size (.slice p0 q0 r0) (.int .i64 s.ty) (.int .u32 (s.ttl : Int)) (.slice p3 q3 r3)) rfl rfl (put4s_box HX2.out _ _ _ _)) rfl ?_
          have hf := put4s_far (n := w.heap.size + 1) w2 (Nat.lt_succ_self _) (.slice p0 q0 r0) (.int .i64 s.ty) (.int .u32 (s.ttl : Int)) (.slice p3 q3 r3)
          have hbw := put4s_below (HB1.out.trans (HB2.out.mono HB1.out.size)) (Nat.le_refl w.heap.size) (.slice p0 q0 r0) (.int .i64 s.ty) (.int .u32 (s.ttl : Int)) (.slice p3 q3 r3)
          exact ⟨[.slice p0 q0 r0, .int .i64 s.ty, .int .u32 (s.ttl : Int), .slice p3 q3 r3], by rw [HRE.out]; rfl, by rw [HRE.out]; exact HRF.out _ ((FarKeep.of_below HB2.out).trans HB2.out.size hf), hbw⟩
      · have htyb : (s.ty == t) = false := by simpa using hty
        have HNX : Hid (∀ j (hj : j < S.length), j < k + 1 → (decide (S[j].ty = t) && sameN S[j].owner o) = false) := Lib.hid (fun j hj h => by
          by_cases e : j < k
          · exact HNO2.out j hj e
          · obtain rfl : j = k := by omega
            rw [HSK.out, decide_eq_false hty, Bool.false_and])
        clear hcs hty
        go_wp2
        go_roundw
        case measure => simp [intOf]; omega
        case rel => exact ⟨k + 1, by go_num, by omega, HNX, HB⟩
    · obtain rfl : k = n := by omega
      have HRE : Hid (res = none) := Lib.hid (by
        rw [HFD.out, List.find?_eq_none]
        intro x hx
        obtain ⟨j, hj, rfl⟩ := List.mem_iff_getElem.1 hx
        rw [HNO2.out j hj (by have := HNS.out; omega)]; simp)
      have hx2 := (HB.out.block _ (kblock_lt HX1.out)).trans HX1.out
      have s0 := kcell hx2 0 _ rfl; have s1 := kcell hx2 1 _ rfl; have s2 := kcell hx2 2 _ rfl; have s3 := kcell hx2 3 _ rfl
      have u0 := kfrozen hx2 0; have u1 := kfrozen hx2 1; have u2 := kfrozen hx2 2; have u3 := kfrozen hx2 3
      have HX2 := Lib.hid hx2
      clear hx2
      go_wp2
      refine bodyPost_ret (results_rset rfl _ (put4s wr w.heap.size (.slice none 0 0) (.int .i64 0) (.int .u32 0) (.slice none 0 0)) rfl rfl (put4s_box HX2.out _ _ _ _)) rfl ?_
      exact ⟨[.slice none 0 0, .int .i64 0, .int .u32 0, .slice none 0 0], by rw [HRE.out]; rfl, by rw [HRE.out]; exact setR_none _ _, put4s_below HBW.out (Nat.le_refl w.heap.size) _ _ _ _⟩
end Go.Proofs.YtckammgnmgkieaaGreat

/-
  The document's TypesOf and Targets.
-/
namespace Go.Proofs.YtckammgnmgkieaaGreat
open Go.RowKit Go.Shelf
set_option maxRecDepth 20000
set_option linter.unusedVariables false
set_option linter.unusedSimpArgs false
theorem elemSS : ElemT 23 44 24 := ⟨Tryz.underlying44, _, _, rfl, rfl, rfl, rfl, rfl⟩
def RowsW (w0 w w' : World) (v : Value) (l : List St) : Prop := ∀ W', FarKeep w.heap.size w' W' → Below w0.heap.size w0 W' → RowS W' v l
theorem setsW_rows {w0 w w' : World} {l : List St} {v : Value} {css : List (List Value)} (hl : css.length = l.length) (h : ∀ W', FarKeep w.heap.size w' W' → SlK W' v css ∧ ∀ j (h1 : j < css.length) (h2 : j < l.length), RSetP w0 W' css[j] l[j]) : RowsW w0 w w' v l := fun W' hk hb =>
  ⟨css, (h W' hk).1, hl, fun j a b => ((h W' hk).2 j a b).setR hb⟩
theorem RowS.le {W : World} {a : Option Addr} {n c : Nat} {l : List St} (h : RowS W (.slice a n c) l) : n = l.length ∧ n ≤ c := by
  obtain ⟨csd, ⟨a', c', e, h1, _⟩, h2, _⟩ := h
  injection e with _ e2 e3
  have e4 : c = c' := e3
  exact ⟨by rw [e2, h2], by omega⟩
theorem types_take {l : List St} {o : Nm} {k : Nat} (h : k < l.length) : (((l.take (k + 1)).filter fun s => sameN s.owner o).map St.ty) = (((l.take k).filter fun s => sameN s.owner o).map St.ty) ++ (if sameN l[k].owner o then [l[k].ty] else []) := by
  rw [List.take_succ_eq_append_getElem h, List.filter_append, List.map_append]
  congr 1
  by_cases e : sameN l[k].owner o = true
  · simp [e]
  · simp [e]
set_option maxRecDepth 100000 in
set_option maxHeartbeats 16000000 in
theorem ref_TypesOf (v vo : Value) (o : Nm) (cs0 : List (List Value)) (l : List Rc) (w : World) (hA : SlK w v cs0) (hR : Rcs w cs0 l) (hO : NmAt w vo o) (hko : NmOK o) (hOK : ∀ r ∈ l, RcOK r) (hl : cs0.length ≤ 1000000) :
    Calls Tryz.prog 24 #[v, vo] w (TyPost w (typesM o l)) := by
  have hc := ref_Sets w w v cs0 l hA hR (Below.refl _ _) hOK hl
  unfold SetsPostW at hc
  have hoks : ∀ s ∈ setsM (canonM l), NmOK s.owner := fun s h => (sets_ok hOK h).1
  have hsl : (setsM (canonM l)).length ≤ 1000000 := by
    have h1 := setsM_len _ (canonM l) (Nat.le_refl _)
    have h2 := canonM_length l
    have h3 : l.length ≤ 1000000 := by rw [← hR.1]; exact hl
    omega
  have hty := typesM_sets l o
  obtain ⟨S, hS⟩ : ∃ S, setsM (canonM l) = S := ⟨_, rfl⟩
  rw [hS] at hoks hty hsl hc
  have HTY := Lib.hid hty; have HOKS := Lib.hid hoks; have HNO := Lib.hid hO; have HKO := Lib.hid hko
  obtain ⟨a, c, rfl, -⟩ := id hA
  obtain ⟨ao, co, rfl, -⟩ := nmAt_sl.1 hO
  obtain ⟨qo, hqo⟩ : ∃ k, (List.map strV o).length = k := ⟨_, rfl⟩
  rw [hqo] at HNO ⊢
  obtain ⟨n0, hn0⟩ : ∃ k, cs0.length = k := ⟨_, rfl⟩
  rw [hn0] at hc ⊢
  generalize typesM o l = res at *
  clear hA hR hO hko hOK hl hoks hS hqo hn0 hty
  go_enter Tryz.func24, Tryz.ntmps24
  go_wp2_with fail
  refine hc.mono ?_
  rintro e w1 ⟨v1, css, rfl, hcl, hrs, hb1⟩
  have hrow := setsW_rows hcl hrs
  have HRW := Lib.hid (hrow w1 (FarKeep.refl _ _) hb1)
  have HB1 := Lib.hid hb1
  obtain ⟨sa, sc, rfl⟩ := HRW.out.shape
  obtain ⟨n, hn⟩ : ∃ n, S.length = n := ⟨_, rfl⟩
  have HN := Lib.hid hn
  rw [hn] at HRW ⊢
  have hnx : n ≤ 1000000 := by omega
  clear hc hrs hb1 hrow hcl hn hsl
  go_wp2
  go_loopw [5, 7] (fun vo vi wr => ∃ (k q : Nat) (ga : Option Addr) (gc : Nat) (zs : List Int), vo = .slice ga q gc ∧ vi = .int .i64 k ∧ k ≤ n ∧ Hid (zs.length = q ∧ q ≤ k) ∧ Hid (zs = ((S.take k).filter fun s => sameN s.owner o).map St.ty) ∧ Hid (OwnG 3 iv wr w1.heap.size (.slice ga q gc) zs) ∧ Hid (Below w1.heap.size w1 wr)) (fun _ vi _ => n - (intOf vi).toNat)
  case atStart => exact ⟨0, 0, none, 0, [], rfl, rfl, Nat.zero_le _, Lib.hid ⟨rfl, Nat.le_refl _⟩, Lib.hid rfl, Lib.hid (OwnG.nil _ _), Lib.hid (Below.refl _ _)⟩
  case round =>
    obtain ⟨k, q, ga, gc, zs, rfl, rfl, hk, HQ, HZ, HO, HB⟩ := hrel
    have HBW := Lib.hid (HB1.out.trans (HB.out.mono HB1.out.size))
    by_cases hlt : k < n
    · have hltz : (k : Int) < (n : Int) := by omega
      have hk1 : k < S.length := by have := HN.out; omega
      obtain ⟨b, off, rfl, hb, hel⟩ := HRW.out.elem (by omega)
      obtain ⟨⟨p0, q0, r0⟩, ⟨p3, q3, r3⟩, hset, hce⟩ := hel k hk1
      have HTK := Lib.hid (types_take (o := o) hk1)
      have hks := HOKS.out _ (List.getElem_mem hk1)
      obtain ⟨s, hs⟩ : ∃ s, S[k]'hk1 = s := ⟨_, rfl⟩
      rw [hs] at hset hce hks HTK
      simp only at hset hce
      obtain ⟨d0, d1, d2, d3⟩ := hce wr HB.out
      have HCE := Lib.hid (fun (W : World) (hb : Below w1.heap.size w1 W) => (hce W hb).2.1)
      have hnm : NmAt w1 (.slice p0 q0 r0) s.owner := by
        obtain ⟨_, _, _, e, h, -⟩ := hset
        injection e with e _
        rw [e]; exact h
      have hcs := kn_RSame (.slice p0 q0 r0) (.slice ao qo co) s.owner o _ rfl wr (hnm.below HB.out) (HNO.out.below HBW.out) hks HKO.out
      obtain ⟨t1, ht1⟩ : ∃ b, sameN s.owner o = b := ⟨_, rfl⟩
      rw [ht1] at hcs HTK
      clear hset hce hs hel hb hks hnm ht1
      go_wp2_with fail
      refine hcs.mono ?_
      rintro e w2 ⟨rfl, hb2⟩
      have HB2 := Lib.hid (HB.out.trans (hb2.mono HB.out.size))
      have HBW2 := Lib.hid (HBW.out.trans (hb2.mono HBW.out.size))
      have HO2 := Lib.hid (OwnG.below HO.out hb2)
      have e1 := HCE.out w2 HB2.out
      clear hcs hb2 d0 d1 d2 d3 HBW HO
      cases t1
      · have HZ2 : Hid (zs = ((S.take (k + 1)).filter fun s => sameN s.owner o).map St.ty) := Lib.hid (by rw [HTK.out, ← HZ.out]; simp)
        go_wp2
        go_roundw
        case measure => simp [intOf]; omega
        case rel => exact ⟨k + 1, q, ga, gc, zs, rfl, by go_num, by omega, Lib.hid ⟨HQ.out.1, by have := HQ.out.2; omega⟩, HZ2, HO2, HB2⟩
      · have HZ2 : Hid (zs ++ [s.ty] = ((S.take (k + 1)).filter fun s => sameN s.owner o).map St.ty) := Lib.hid (by rw [HTK.out, ← HZ.out]; simp)
        have HLN := Lib.hid (show zs.length ≤ 1048576 by have := HQ.out; omega)
        generalize s.ty = st at *
        go_wp2_with (at_builtin; refine wpl_append_g w2 rfl (.tmp 23) (.tmp 29) elemInt rfl (fun _ => rfl) w1.heap.size (.slice ga q gc) zs rfl HO2.out [.int .i64 st] [st] rfl 1 1 rfl rfl HB2.out.size (by have := HLN.out; unfold maxLen; simp only [List.length_cons, List.length_nil] at *; omega) (by have := HLN.out; simp only [List.length_cons, List.length_nil] at *; omega) ?_; intro v3 w9 hown3 hg3)
        have HB9 := Lib.hid (HB2.out.grown hg3 HB2.out.size HO2.out.base_le)
        obtain ⟨a9, m9, c9, e9⟩ : ∃ a m c, v3 = .slice a m c := by obtain ⟨a, c, e⟩ := hown3.shape; exact ⟨_, _, _, e⟩
        have hm9 : m9 = q + 1 := by
          obtain ⟨a, c, e⟩ := hown3.shape
          rw [e9] at e; injection e with _ e _
          rw [e, List.length_append, HQ.out.1]; rfl
        subst hm9
        subst e9
        have HO9 := Lib.hid hown3
        clear hown3 hg3
        go_roundw
        case measure => simp [intOf]; omega
        case rel => exact ⟨k + 1, q + 1, a9, c9, zs ++ [st], rfl, by go_num, by omega, Lib.hid ⟨by rw [List.length_append, HQ.out.1]; rfl, by have := HQ.out.2; omega⟩, HZ2, HO9, HB9⟩
    · obtain rfl : k = n := by omega
      have hz := HZ.out
      rw [List.take_of_length_le (by rw [HN.out]; exact Nat.le_refl _)] at hz
      have HE := Lib.hid (show zs = res by rw [hz, HTY.out])
      clear hz
      go_wp2
      go_ret
      exact ⟨_, rfl, by rw [← HE.out]; exact HO.out.weaken HB1.out.size, HBW.out⟩
def RNms (w0 W : World) (base : Nat) (v : Value) (ns : List Nm) : Prop := ∃ vs : List SlV, OwnG 23 slEnc W base v vs ∧ vs.length = ns.length ∧ ∀ j (h1 : j < vs.length) (h2 : j < ns.length), NmAt w0 (slEnc vs[j]) ns[j]
theorem RNms.below {w0 W W' : World} {base : Nat} {v : Value} {ns : List Nm} (h : RNms w0 W base v ns) (hb : Below W.heap.size W W') : RNms w0 W' base v ns := by
  obtain ⟨vs, h1, h2, h3⟩ := h
  exact ⟨vs, OwnG.below h1 hb, h2, h3⟩
theorem RNms.snoc {w0 W' : World} {base : Nat} {v' : Value} {vs : List SlV} {ns : List Nm} {x : SlV} {n : Nm} (h2 : vs.length = ns.length) (h3 : ∀ j (h1 : j < vs.length) (h2 : j < ns.length), NmAt w0 (slEnc vs[j]) ns[j]) (hn : NmAt w0 (slEnc x) n) (ho : OwnG 23 slEnc W' base v' (vs ++ [x])) : RNms w0 W' base v' (ns ++ [n]) := by
  refine ⟨vs ++ [x], ho, by simp [h2], fun j a b => ?_⟩
  by_cases hj : j < vs.length
  · rw [List.getElem_append_left hj, List.getElem_append_left (by omega)]
    exact h3 j hj (by omega)
  · obtain rfl : j = vs.length := by simp at a; omega
    have e1 : (vs ++ [x])[vs.length]'a = x := by simp
    have e2 : (ns ++ [n])[vs.length]'b = n := by simp [h2]
    rw [e1, e2]
    exact hn
def RTgtPost (w0 w : World) (l : List Nm) (e : Ending) (w' : World) : Prop := ∃ v, e = .returned v ∧ RNms w0 w' w.heap.size v l ∧ Below w.heap.size w w'
set_option maxRecDepth 100000 in
set_option maxHeartbeats 16000000 in
theorem ref_Targets (a0 : Option Addr) (n0 c0 : Nat) (ty t1 : Int) (v1 : Option Addr) (n c : Nat) (css : List (List Value)) (ds : List Dat) (w : World) (hA : SlK w (.slice v1 n c) css) (hR : Dts w css ds) (hl : n ≤ 1048576) :
    Calls Tryz.prog 19 #[.agg #[.slice a0 n0 c0, .int .i64 ty, .int .u32 t1, .slice v1 n c]] w (RTgtPost w w (targetsM ty ds)) := by
  have hX := knew w (.cells #[.slice a0 n0 c0, .int .i64 ty, .int .u32 t1, .slice v1 n c] 41)
  by_cases hty : ty = 2 ∨ ty = 5 ∨ ty = 12 ∨ ty = 39 ∨ ty = 15
  · have HT : Hid (targetsM ty ds = tgtM ds) := Lib.hid (by unfold targetsM; rw [if_pos hty])
    rw [HT.out]
    obtain ⟨hln, hx⟩ : css.length = n ∧ n ≤ c := by
      obtain ⟨a', c', e, h1, _⟩ := id hA
      cases e; exact ⟨rfl, h1⟩
    have HA := Lib.hid hA; have HR := Lib.hid hR; have HLN := Lib.hid hln
    have HDL := Lib.hid (show ds.length = n by rw [← hR.1]; exact hln)
    have hB0 := (Below.refl w.heap.size w).alloc (Nat.le_refl _) (.cells #[.slice a0 n0 c0, .int .i64 ty, .int .u32 t1, .slice v1 n c] 41)
    obtain ⟨W0, hW0⟩ : ∃ W, w.alloc (.cells #[.slice a0 n0 c0, .int .i64 ty, .int .u32 t1, .slice v1 n c] 41) = W := ⟨_, rfl⟩
    rw [hW0] at hX hB0
    have HB0 := Lib.hid hB0
    have HYS := Lib.hid (fun (W : World) (hb : Below W0.heap.size W0 W) => kcell ((hb.block _ (kblock_lt hX)).trans hX) 3 _ rfl)
    have y1 := kcell hX 1 _ rfl
    clear hA hR hln HT hX hB0
    rcases hty with rfl | rfl | rfl | rfl | rfl
    all_goals
      go_enter Tryz.func19, Tryz.ntmps19
      go_wp2
      clear hW0 y1
      go_loopw [3, 4] (fun v3 vi wr => ∃ (k : Nat) (ga : Option Addr) (gn gc : Nat), v3 = .slice ga gn gc ∧ vi = .int .i64 k ∧ k ≤ n ∧ Hid (RNms w wr W0.heap.size (.slice ga gn gc) (tgtM (ds.take k))) ∧ Hid (Below W0.heap.size W0 wr)) (fun _ vi _ => n - (intOf vi).toNat)
      case atStart => exact ⟨0, none, 0, 0, rfl, rfl, Nat.zero_le _, Lib.hid ⟨[], OwnG.nil _ _, rfl, fun j h => absurd h (by simp)⟩, Lib.hid (Below.refl _ _)⟩
      case round =>
        obtain ⟨k, ga, gn, gc, rfl, rfl, hk, HO, HB⟩ := hrel
        have HBW := Lib.hid (HB0.out.trans (HB.out.mono HB0.out.size))
        have y3 := HYS.out wr HB.out
        by_cases hlt : k < n
        · have hltz : (k : Int) < (n : Int) := by omega
          have hk1 : k < css.length := by have := HLN.out; omega
          have hk2 : k < ds.length := by have := HDL.out; omega
          obtain ⟨b, off, rfl, hb, hel⟩ := HA.out.elem5 HR.out.ck (by omega)
          have h0 := (HR.out.2 k hk1 hk2).2
          have htk := tgtM_take hk2
          obtain ⟨d, hd⟩ : ∃ d, ds[k]'hk2 = d := ⟨_, rfl⟩
          rw [hd] at h0 htk
          obtain ⟨an, cn, ⟨p4, q4, r4⟩, ⟨p5, q5, r5⟩, ⟨p6, q6, r6⟩, vs, e0, s1, sl, hcn, s2⟩ := dt_shape2 h0
          simp only at e0
          obtain ⟨c0', c1, c2, c3, c4⟩ := hel k hk1 _ _ _ _ _ e0 wr HBW.out
          obtain ⟨nn, hnn⟩ : ∃ m, d.names.length = m := ⟨_, rfl⟩
          rw [hnn] at e0 s1 sl hcn c1
          have HTK := Lib.hid htk
          by_cases hz : nn = 0
          · have hzz : ¬ (0 : Int) < (nn : Int) := by omega
            have hzn : ¬ 0 < nn := by omega
            have HE : Hid (tgtM (ds.take (k + 1)) = tgtM (ds.take k)) := Lib.hid (by
              rw [HTK.out, show d.names = [] from List.eq_nil_of_length_eq_zero (by omega)]; simp)
            have HO2 : Hid (RNms w wr W0.heap.size (.slice ga gn gc) (tgtM (ds.take (k + 1)))) := Lib.hid (by rw [HE.out]; exact HO.out)
            clear h0 htk hd e0 s1 sl s2 hk1 hk2 hel hz HO HTK hnn hcn
            go_wp2
            go_roundw
            case measure => simp [intOf]; omega
            case rel => exact ⟨k + 1, ga, gn, gc, rfl, by go_num, by omega, HO2, HB⟩
          · have hzz : (0 : Int) < (nn : Int) := by omega
            have hzn : 0 < nn := by omega
            have hj0 : 0 < vs.length := by omega
            obtain ⟨b2, off2, rfl, hb2, hcell⟩ := s1.cell HBW.out 0 hj0
            have hnm := s2 0 hj0 (by omega)
            obtain ⟨nm, hnm1⟩ : ∃ nm, d.names[0]'(by omega) = nm := ⟨_, rfl⟩
            have HHD : Hid (d.names.head?.toList = [nm]) := Lib.hid (by
              rw [← hnm1, List.head?_eq_getElem?, List.getElem?_eq_getElem (by omega)]; rfl)
            rw [hnm1] at hnm
            obtain ⟨av, cv, ev, -⟩ := nmAt_sl.1 hnm
            rw [ev] at hcell hnm
            obtain ⟨m, hm⟩ : ∃ m, (List.map strV nm).length = m := ⟨_, rfl⟩
            rw [hm] at hcell hnm
            rw [Nat.add_zero] at hcell
            have HNM := Lib.hid hnm
            have HGL := Lib.hid (show (tgtM (ds.take k)).length ≤ 1048576 by have := tgtM_len (ds.take k); rw [List.length_take] at this; omega)
            obtain ⟨vs', hv1, hv2, hv3⟩ := HO.out
            obtain ⟨ga', gc', eg⟩ := hv1.shape
            have HV := Lib.hid (And.intro hv2 hv3)
            have HC := Lib.hid (show [Value.slice av m cv] = [((av, m, cv) : SlV)].map slEnc from rfl)
            have HVK := Lib.hid (show vs'.length ≤ 1048576 by rw [hv2]; exact HGL.out)
            have HV1 := Lib.hid hv1
            clear hv1 hv2 hv3 eg h0 htk hd e0 s1 sl s2 hk1 hk2 hel hz hnm ev hm hnm1 hnn hj0
            go_wp2_with (at_builtin; refine wpl_append_g wr rfl (.tmp 28) (.tmp 37) elemSS rfl slEnc_one W0.heap.size (.slice ga gn gc) vs' rfl HV1.out [.slice av m cv] [((av, m, cv) : SlV)] HC.out 1 1 rfl rfl HB.out.size (by have := HVK.out; unfold maxLen; simp; omega) (by have := HVK.out; simp; omega) ?_; intro v3 w3 hown3 hg3)
            have HO3 : Hid (RNms w w3 W0.heap.size v3 (tgtM (ds.take (k + 1)))) := by
              rw [HTK.out, HHD.out]
              exact Lib.hid (RNms.snoc (x := (av, m, cv)) HV.out.1 HV.out.2 HNM.out hown3)
            have HB3 := Lib.hid (HB.out.grown hg3 HB.out.size HV1.out.base_le)
            obtain ⟨a3, c3', rfl⟩ := hown3.shape
            clear hown3 hg3
            go_roundw
            case measure => simp [intOf]; omega
            case rel => exact ⟨k + 1, a3, _, c3', rfl, by go_num, by omega, HO3, HB3⟩
        · obtain rfl : k = n := by omega
          have h := HO.out
          rw [List.take_of_length_le (by have := HDL.out; omega)] at h
          have HH := Lib.hid h
          clear h HO
          go_wp2
          go_ret
          obtain ⟨vs, q1, q2, q3⟩ := HH.out
          exact ⟨_, rfl, ⟨vs, q1.weaken HB0.out.size, q2, q3⟩, HBW.out⟩
  · have HT : Hid (targetsM ty ds = []) := Lib.hid (by unfold targetsM; rw [if_neg hty])
    rw [HT.out]
    have h1 : (ty == 2) = false := by simp; omega
    have h2 : (ty == 5) = false := by simp; omega
    have h3 : (ty == 12) = false := by simp; omega
    have h4 : (ty == 39) = false := by simp; omega
    have h5 : (ty == 15) = false := by simp; omega
    have hB0 := (Below.refl w.heap.size w).alloc (Nat.le_refl _) (.cells #[.slice a0 n0 c0, .int .i64 ty, .int .u32 t1, .slice v1 n c] 41)
    have HB0 := Lib.hid hB0
    have y1 := kcell hX 1 _ rfl
    clear hX hB0 hty hA hR HT
    go_enter Tryz.func19, Tryz.ntmps19
    go_wp2
    go_ret
    exact ⟨_, rfl, ⟨[], OwnG.nil _ _, rfl, fun j h => absurd h (by simp)⟩, HB0.out⟩
end Go.Proofs.YtckammgnmgkieaaGreat

/-
  law6.SetsAny: true for any records, name, type.
-/
namespace Go.Proofs.YtckammgnmgkieaaGreat
open Go.RowKit Go.Shelf
set_option maxRecDepth 20000
set_option linter.unusedVariables false
set_option linter.unusedSimpArgs false
theorem of_rowC6 {w0 W : World} {base n c : Nat} {a : Option Addr} {csd : List (List Value)} {l : List Rc} (ho : OwnC 7 109 W base (.slice a n c) csd) (h : OfRs w0 W base csd l) (hb : Below w0.heap.size w0 W) : RowC W (.slice a n c) l := by
  have hr : Rcs W csd l := ⟨h.1, fun i a b => (h.2 i a b).rcAt hb⟩
  exact ⟨csd, SlK.of_own ho hr.ck, hr⟩
theorem rcs_argN {W : World} {css : List (List Value)} {l : List Rc} (h : css.length = l.length ∧ ∀ i (h1 : i < css.length) (h2 : i < l.length), RcArg W css[i] l[i]) : Rcs W css l := ⟨h.1, fun i h1 h2 => (h.2 i h1 h2).rcAt⟩
theorem sets_leN : ∀ (n : Nat) (l : List Rc), l.length ≤ n → (setsM l).length ≤ l.length
  | 0, l, h => by
    obtain rfl : l = [] := List.eq_nil_of_length_eq_zero (by omega)
    simp [setsM_nil]
  | n + 1, [], h => by simp [setsM_nil]
  | n + 1, y :: r, h => by
    rw [setsM_cons, List.length_cons, List.length_cons]
    have h1 : (r.dropWhile (belR y)).length ≤ r.length := (List.dropWhile_sublist _).length_le
    have := sets_leN n (r.dropWhile (belR y)) (by simp at h; omega)
    omega
theorem OwnNms.cellsN {W : World} {base n c : Nat} {a : Option Addr} {ns : List Nm} (h : OwnNms W base (.slice a n c) ns) (h0 : 0 < ns.length) : ∃ g, a = some ⟨g, 0, none⟩ ∧ g < W.heap.size ∧ ∀ j (hj : j < ns.length), ∃ x : Option Addr × Nat × Nat, W.cell? ⟨g, j, none⟩ = some (.slice x.1 x.2.1 x.2.2) ∧ NmAt W (.slice x.1 x.2.1 x.2.2) ns[j] := by
  obtain ⟨vs, h1, h2, h3⟩ := h
  obtain ⟨g, rfl, -, hg, hc⟩ := h1.cells (fun e => by rw [e] at h2; simp at h2; omega)
  exact ⟨g, rfl, hg, fun j hj => ⟨vs[j]'(by omega), hc j (by omega), (h3 j (by omega) hj).nmAt⟩⟩
theorem RNms.cellsN {w0 W : World} {base n c : Nat} {a : Option Addr} {ns : List Nm} (h : RNms w0 W base (.slice a n c) ns) (h0 : 0 < ns.length) : ∃ g, a = some ⟨g, 0, none⟩ ∧ g < W.heap.size ∧ ∀ j (hj : j < ns.length), ∃ x : Option Addr × Nat × Nat, W.cell? ⟨g, j, none⟩ = some (.slice x.1 x.2.1 x.2.2) ∧ NmAt w0 (.slice x.1 x.2.1 x.2.2) ns[j] := by
  obtain ⟨vs, h1, h2, h3⟩ := h
  obtain ⟨g, rfl, -, hg, hc⟩ := h1.cells (fun e => by rw [e] at h2; simp at h2; omega)
  exact ⟨g, rfl, hg, fun j hj => ⟨vs[j]'(by omega), hc j (by omega), h3 j (by omega) hj⟩⟩
theorem OwnNms.shapeN {W : World} {base : Nat} {v : Value} {ns : List Nm} (h : OwnNms W base v ns) : ∃ a c, v = .slice a ns.length c := by
  obtain ⟨vs, h1, h2, -⟩ := h
  obtain ⟨a, c, e⟩ := h1.shape
  exact ⟨a, c, by rw [e, h2]⟩
theorem RNms.shapeN {w0 W : World} {base : Nat} {v : Value} {ns : List Nm} (h : RNms w0 W base v ns) : ∃ a c, v = .slice a ns.length c := by
  obtain ⟨vs, h1, h2, -⟩ := h
  obtain ⟨a, c, e⟩ := h1.shape
  exact ⟨a, c, by rw [e, h2]⟩
theorem tgt_ok {t : Int} {ds : List Dat} (h : ∀ d ∈ ds, DatOK d) : ∀ n ∈ targetsM t ds, NmOK n := by
  intro n hn
  unfold targetsM at hn
  split at hn
  · unfold tgtM at hn
    obtain ⟨d, hd, e⟩ := List.mem_filterMap.1 hn
    exact (h d hd).2.2.1 n (List.mem_of_mem_head? e)
  · cases hn
theorem tgt_len (t : Int) (ds : List Dat) : (targetsM t ds).length ≤ ds.length := by
  unfold targetsM
  split
  · exact tgtM_len ds
  · exact Nat.zero_le _
theorem le_sumN : ∀ {l : List Nat} {x : Nat}, x ∈ l → x ≤ l.sum
  | [], x, h => by cases h
  | y :: r, x, h => by
    rw [List.sum_cons]
    rcases List.mem_cons.1 h with rfl | h
    · omega
    · have := le_sumN h; omega
theorem of_ok {l : List Rc} (hl : ∀ r ∈ l, RcOK r) (o : Nm) (t : Int) : NmOK ((ofM l o t).getD ⟨[], 0, 0, []⟩).owner ∧ (∀ d ∈ ((ofM l o t).getD ⟨[], 0, 0, []⟩).data, DatOK d) ∧ ((ofM l o t).getD ⟨[], 0, 0, []⟩).data.length ≤ l.length := by
  cases e : ofM l o t with
  | none => exact ⟨⟨by simp, fun x hx => by cases hx⟩, fun d hd => (by cases hd), Nat.zero_le _⟩
  | some s =>
    have hm : s ∈ setsM (canonM l) := by rw [ofM_find] at e; exact List.mem_of_find?_eq_some e
    have h1 := sets_ok hl hm
    refine ⟨h1.1, h1.2, ?_⟩
    have h2 := sets_sum l
    have h3 : s.data.length ≤ ((setsM (canonM l)).map fun s => s.data.length).sum := le_sumN (List.mem_map.2 ⟨s, hm, rfl⟩)
    have h4 := canonM_length l
    simp only [Option.getD_some]
    omega
set_option maxRecDepth 100000 in
set_option maxHeartbeats 16000000 in
theorem law6_SetsAny {w : World} (v vn : Value) (css : List (List Value)) (l : List Rc) (q : Nm) (hA : SlK w v css) (hR : css.length = l.length ∧ ∀ i (h1 : i < css.length) (h2 : i < l.length), RcArg w css[i] l[i]) (hQ : NmArg w vn q) (t : Int) :
    Calls Tryz.prog 3 #[v, vn, .int .i64 t] w fun e w' => e = .returned (.bool true) ∧ Below w.heap.size w w' := by
  obtain ⟨fw, hfw⟩ : ∃ fw, fewRs l = fw := ⟨_, rfl⟩
  have hFew := fun W hb => law5_Few v css l w W hA hR hb
  rw [hfw] at hFew
  have HFew := Lib.hid hFew
  have HFN := Lib.hid (fun (W : World) (hb : Below w.heap.size w W) => kn_Few vn q _ rfl w W hQ (hQ.1.below hb))
  have HROW := Lib.hid (show RowC w v l from ⟨css, hA, rcs_argN hR⟩)
  have HNQ := Lib.hid hQ.1
  obtain ⟨a, c, rfl, -⟩ := id hA
  obtain ⟨n, hn⟩ : ∃ n, css.length = n := ⟨_, rfl⟩
  obtain ⟨aq, cq, rfl, -⟩ := nmAt_sl.1 hQ.1
  obtain ⟨qn, hqn⟩ : ∃ k, (List.map strV q).length = k := ⟨_, rfl⟩
  have HOK := Lib.hid (fun (h : fw = true) => show l.length ≤ 60 ∧ ∀ r ∈ l, RcOK r by
    rw [h] at hfw
    simp only [fewRs, Bool.and_eq_true, decide_eq_true_eq, List.all_eq_true] at hfw
    refine ⟨hfw.1, fun r hr => ?_⟩
    obtain ⟨i, hi, rfl⟩ := List.mem_iff_getElem.1 hr
    exact (hR.2 i (by have := hR.1; omega) hi).ok (hfw.2 _ hr))
  rw [hn] at HFew HROW ⊢
  rw [hqn] at HFN HNQ ⊢
  have hkn := law6_known w
  clear hA hR hFew hfw hn hQ hqn
  go_enter Tryz.func3, Tryz.ntmps3
  go_wp2_with fail
  refine hkn.mono ?_
  rintro e w0 ⟨rfl, hb⟩
  have HB0 := Lib.hid hb
  have hc := HFew.out w0 hb
  clear hb hkn HFew
  go_wp2_with fail
  refine hc.mono ?_
  rintro e w1 ⟨rfl, hb⟩
  have HB1 := Lib.hid (HB0.out.trans (hb.mono HB0.out.size))
  clear hb hc HB0
  cases fw
  · go_wp2
    go_ret
    exact ⟨rfl, HB1.out⟩
  obtain ⟨hl60, hok⟩ := HOK.out rfl
  have HLL := Lib.hid hl60; have HOKL := Lib.hid hok
  have hc := HFN.out w1 HB1.out
  clear hl60 hok HOK HFN
  go_wp2_with fail
  refine hc.mono ?_
  rintro e w2 ⟨rfl, hb⟩
  have HB2 := Lib.hid (HB1.out.trans (hb.mono HB1.out.size))
  clear hb hc HB1
  obtain ⟨fq, hfq⟩ : ∃ b, fewN q = b := ⟨_, rfl⟩
  have HFQ := Lib.hid hfq
  rw [hfq]
  clear hfq
  cases fq
  · go_wp2
    go_ret
    exact ⟨rfl, HB2.out⟩
  have HKQ := Lib.hid (fewN_ok HFQ.out)
  -- OfAll
  have hc : Calls Tryz.prog 14 #[.slice a n c] w2 (OfAllPost w w2 l) := by
    obtain ⟨css, h1, h2⟩ := HROW.out
    exact law5_OfAll w (.slice a n c) css l w2 h1 h2 HB2.out (fun r hr => (HOKL.out r hr).2.2.2.1) (by rw [h2.1]; have := HLL.out; omega)
  unfold OfAllPost at hc
  clear HFQ
  go_wp2_with fail
  refine hc.mono ?_
  rintro e w3 ⟨v3, cs3, rfl, ho3, hr3, hb3⟩
  have HB3 := Lib.hid (HB2.out.trans (hb3.mono HB2.out.size))
  obtain ⟨ma, mc, rfl⟩ := OwnK.shape ho3
  have HM3 := Lib.hid (of_rowC6 ho3 hr3 HB3.out)
  generalize List.length cs3 = mn at *
  clear hc ho3 hr3 hb3 HB2
  -- rset.Sets
  have hc := row_Sets _ _ w3 (HROW.out.below HB3.out) HOKL.out (by have := HLL.out; omega)
  unfold SetsPost at hc
  obtain ⟨S, hS⟩ : ∃ S, setsM (canonM l) = S := ⟨_, rfl⟩
  have HS := Lib.hid hS
  rw [hS] at hc
  clear hS
  go_wp2_with fail
  refine hc.mono ?_
  rintro e w4 ⟨v4, rfl, hs4, hb4⟩
  obtain ⟨sa, sc, rfl⟩ := hs4.shape
  obtain ⟨m, hm⟩ : ∃ m, S.length = m := ⟨_, rfl⟩
  have hm60 : m ≤ 60 := by
    have h1 := sets_leN _ (canonM l) (Nat.le_refl _)
    rw [HS.out, hm] at h1
    have h2 := canonM_length l
    have h3 := HLL.out
    omega
  rw [hm] at hs4 ⊢
  have HS4 := Lib.hid hs4
  have HB4 := Lib.hid (HB3.out.trans (hb4.mono HB3.out.size))
  have HM4 := Lib.hid (HM3.out.below hb4)
  have HN := Lib.hid hm
  clear hc hs4 hb4 HB3 HM3 hm
  -- ref.Sets
  have hc : Calls Tryz.prog 16 #[.slice ma mn mc] w4 (SetsPostW w4 w4 S) := by
    obtain ⟨css, h1, h2⟩ := HM4.out
    have h := ref_Sets w4 w4 (.slice ma mn mc) css l h1 h2 (Below.refl _ _) HOKL.out (by rw [h2.1]; have := HLL.out; omega)
    rw [HS.out] at h; exact h
  unfold SetsPostW at hc
  go_wp2_with fail
  refine hc.mono ?_
  rintro e w5 ⟨v5, css5, rfl, hcl, hrs, hb5⟩
  have hrow := setsW_rows hcl hrs w5 (FarKeep.refl _ _) hb5
  obtain ⟨ra, rc, rfl⟩ := hrow.shape
  rw [HN.out] at hrow ⊢
  have HR5 := Lib.hid hrow
  have HB5 := Lib.hid (HB4.out.trans (hb5.mono HB4.out.size))
  have HM5 := Lib.hid (HM4.out.below hb5)
  have HS5 := Lib.hid (HS4.out.below hb5)
  clear hc hcl hrs hrow hb5 HB4 HM4 HS4
  have hmm : (m != m) = false := by simp
  go_wp2
  go_loopw [10, 11, 12, 13] (fun vi _ _ _ wr => ∃ k : Nat, vi = .int .i64 k ∧ k ≤ m ∧ Hid (Below w5.heap.size w5 wr)) (fun vi _ _ _ _ => m - (intOf vi).toNat)
  case atStart => exact ⟨0, rfl, Nat.zero_le _, Lib.hid (Below.refl _ _)⟩
  case round =>
    obtain ⟨k, rfl, hk, HB⟩ := hrel
    by_cases hlt : k < m
    · have hltz : (k : Int) < (m : Int) := by omega
      have hk2 : k < S.length := by have := HN.out; omega
      obtain ⟨b, off, rfl, hb, hel⟩ := HS5.out.elem (by omega)
      obtain ⟨b', off', rfl, hb', hel'⟩ := HR5.out.elem (by omega)
      obtain ⟨⟨x0, x1, x2⟩, ⟨x3, x4, x5⟩, hx, hxc⟩ := hel k hk2
      obtain ⟨⟨z0, z1, z2⟩, ⟨z3, z4, z5⟩, hz, hzc⟩ := hel' k hk2
      have hmem : S[k]'hk2 ∈ setsM (canonM l) := by rw [HS.out]; exact List.getElem_mem _
      obtain ⟨s, hs⟩ : ∃ s, S[k]'hk2 = s := ⟨_, rfl⟩
      simp only [hs] at hx hxc hz hzc hmem
      have hsok := sets_ok HOKL.out hmem
      have hsl : s.data.length ≤ 60 := by
        have h2 := sets_sum l
        have h3 : s.data.length ≤ ((setsM (canonM l)).map fun s => s.data.length).sum := le_sumN (List.mem_map.2 ⟨s, hmem, rfl⟩)
        have h4 := canonM_length l
        have := HLL.out
        omega
      have HSO := Lib.hid hsok
      have HXS := Lib.hid hx; have HZS := Lib.hid hz
      have HSL := Lib.hid hsl
      obtain ⟨dsx, q1, q2, -⟩ := SetR.dts (x0 := (x0, x1, x2)) (x3 := (x3, x4, x5)) hx
      obtain ⟨dsz, q3, q4, -⟩ := SetR.dts (x0 := (z0, z1, z2)) (x3 := (z3, z4, z5)) hz
      have CT := Lib.hid (fun (W : World) (hb : Below w5.heap.size w5 W) => rset_Targets x0 x1 x2 s.ty (s.ttl : Int) x3 s.data.length x5 dsx s.data W (q1.below hb) (q2.below hb) hsok.2 (by omega))
      have CR := Lib.hid (fun (W : World) (hb : Below w5.heap.size w5 W) => ref_Targets z0 z1 z2 s.ty (s.ttl : Int) z3 s.data.length z5 dsz s.data W (q3.below hb) (q4.below hb) (by omega))
      have HTO := Lib.hid (tgt_ok (t := s.ty) hsok.2)
      have htl := tgt_len s.ty s.data
      unfold TgtPost at CT
      unfold RTgtPost at CR
      obtain ⟨T, hT⟩ : ∃ T, targetsM s.ty s.data = T := ⟨_, rfl⟩
      rw [hT] at CT CR HTO htl
      have CI := Lib.hid (fun (W : World) (hb : Below w5.heap.size w5 W) => law6_is _ _ s W (hx.below hb) (hz.below hb) hsok.1 hsok.2 (by omega))
      generalize s.data.length = dn at *
      generalize s.ty = ty at *
      generalize (s.ttl : Int) = tt at *
      have KC := Lib.hid (fun (W : World) (hb : Below w5.heap.size w5 W) => (show (W.cell? ⟨b, off + k * 4, none⟩ = some (.slice x0 x1 x2) ∧ W.cell? ⟨b, off + k * 4 + 1, none⟩ = some (.int .i64 ty) ∧ W.cell? ⟨b, off + k * 4 + 2, none⟩ = some (.int .u32 tt) ∧ W.cell? ⟨b, off + k * 4 + 3, none⟩ = some (.slice x3 dn x5) ∧ W.cell? ⟨b', off' + k * 4, none⟩ = some (.slice z0 z1 z2) ∧ W.cell? ⟨b', off' + k * 4 + 1, none⟩ = some (.int .i64 ty) ∧ W.cell? ⟨b', off' + k * 4 + 2, none⟩ = some (.int .u32 tt) ∧ W.cell? ⟨b', off' + k * 4 + 3, none⟩ = some (.slice z3 dn z5) ∧ Below w5.heap.size w5 W) from ⟨(hxc W hb).1, (hxc W hb).2.1, (hxc W hb).2.2.1, (hxc W hb).2.2.2, (hzc W hb).1, (hzc W hb).2.1, (hzc W hb).2.2.1, (hzc W hb).2.2.2, hb⟩))
      have HTL := Lib.hid htl
      have KS := Lib.hid (fun (W W' : World) (h : (W.cell? ⟨b, off + k * 4, none⟩ = some (.slice x0 x1 x2) ∧ W.cell? ⟨b, off + k * 4 + 1, none⟩ = some (.int .i64 ty) ∧ W.cell? ⟨b, off + k * 4 + 2, none⟩ = some (.int .u32 tt) ∧ W.cell? ⟨b, off + k * 4 + 3, none⟩ = some (.slice x3 dn x5) ∧ W.cell? ⟨b', off' + k * 4, none⟩ = some (.slice z0 z1 z2) ∧ W.cell? ⟨b', off' + k * 4 + 1, none⟩ = some (.int .i64 ty) ∧ W.cell? ⟨b', off' + k * 4 + 2, none⟩ = some (.int .u32 tt) ∧ W.cell? ⟨b', off' + k * 4 + 3, none⟩ = some (.slice z3 dn z5) ∧ Below w5.heap.size w5 W)) (hb : Below W.heap.size W W') => KC.out W' (h.2.2.2.2.2.2.2.2.trans (hb.mono h.2.2.2.2.2.2.2.2.size)))
      have KI := Lib.hid (fun (W : World) (h : (W.cell? ⟨b, off + k * 4, none⟩ = some (.slice x0 x1 x2) ∧ W.cell? ⟨b, off + k * 4 + 1, none⟩ = some (.int .i64 ty) ∧ W.cell? ⟨b, off + k * 4 + 2, none⟩ = some (.int .u32 tt) ∧ W.cell? ⟨b, off + k * 4 + 3, none⟩ = some (.slice x3 dn x5) ∧ W.cell? ⟨b', off' + k * 4, none⟩ = some (.slice z0 z1 z2) ∧ W.cell? ⟨b', off' + k * 4 + 1, none⟩ = some (.int .i64 ty) ∧ W.cell? ⟨b', off' + k * 4 + 2, none⟩ = some (.int .u32 tt) ∧ W.cell? ⟨b', off' + k * 4 + 3, none⟩ = some (.slice z3 dn z5) ∧ Below w5.heap.size w5 W)) => CI.out W h.2.2.2.2.2.2.2.2)
      clear hx hz hxc hzc hel hel' hmem hsok hsl hs q1 q2 q3 q4 hb hb' hk2 hT htl
      obtain ⟨c0, c1, c2, c3, d0, d1, d2, d3, -⟩ := KC.out wr HB.out
      have hS0 := KC.out wr.drew (HB.out.trans ⟨rfl, rfl, rfl, Nat.le_refl _, fun _ _ => rfl⟩)
      go_wp2_with fail
      go_region_held3 (fun W => W.cell? ⟨b, off + k * 4, none⟩ = some (.slice x0 x1 x2) ∧ W.cell? ⟨b, off + k * 4 + 1, none⟩ = some (.int .i64 ty) ∧ W.cell? ⟨b, off + k * 4 + 2, none⟩ = some (.int .u32 tt) ∧ W.cell? ⟨b, off + k * 4 + 3, none⟩ = some (.slice x3 dn x5) ∧ W.cell? ⟨b', off' + k * 4, none⟩ = some (.slice z0 z1 z2) ∧ W.cell? ⟨b', off' + k * 4 + 1, none⟩ = some (.int .i64 ty) ∧ W.cell? ⟨b', off' + k * 4 + 2, none⟩ = some (.int .u32 tt) ∧ W.cell? ⟨b', off' + k * 4 + 3, none⟩ = some (.slice z3 dn z5) ∧ Below w5.heap.size w5 W)
        (first | with_reducible assumption)
        (first | ((with_reducible refine (KI.out _ (by with_reducible assumption)).mono ?_); rintro e w6 ⟨rfl, hb6⟩; have hS9 := KS.out _ _ (by with_reducible assumption) hb6; clear hb6))
      have HB6 := Lib.hid hS9.2.2.2.2.2.2.2.2
      clear hS9 hS0 c0 c1 c2 c3 d0 d1 d2 d3 CI KI KS
      obtain ⟨c0, c1, c2, c3, d0, d1, d2, d3, -⟩ := KC.out w6 HB6.out
      have hc := CT.out w6 HB6.out
      go_wp2_with fail
      refine hc.mono ?_
      rintro e w7 ⟨v7, rfl, ho7, hb7⟩
      obtain ⟨a7, c7, rfl⟩ := ho7.shapeN
      have HB7 := Lib.hid (HB6.out.trans (hb7.mono HB6.out.size))
      have HO7 := Lib.hid ho7
      clear hc hb7 ho7 c0 c1 c2 c3 d0 d1 d2 d3 CT
      obtain ⟨c0, c1, c2, c3, d0, d1, d2, d3, -⟩ := KC.out w7 HB7.out
      have hc := CR.out w7 HB7.out
      go_wp2_with fail
      refine hc.mono ?_
      rintro e w8 ⟨v8, rfl, ho8, hb8⟩
      obtain ⟨a8, c8, rfl⟩ := ho8.shapeN
      have HB8 := Lib.hid (HB7.out.trans (hb8.mono HB7.out.size))
      have H78 := Lib.hid hb8
      have HO8 := Lib.hid ho8
      have HO78 := Lib.hid (HO7.out.below hb8)
      obtain ⟨tn, htn⟩ : ∃ tn, T.length = tn := ⟨_, rfl⟩
      have HTN := Lib.hid htn
      have htn60 : tn ≤ 60 := by have := HTL.out; have := HSL.out; omega
      rw [htn] at HO78 HO8 ⊢
      have hmt : (tn != tn) = false := by simp
      clear hc hb8 ho8 c0 c1 c2 c3 d0 d1 d2 d3 CR HO7 htn KC
      go_wp2
      obtain ⟨wo, hwo⟩ : ∃ wo : World, wo = wr := ⟨_, rfl⟩
      subst hwo
      go_loopw [13] (fun vk wr => ∃ j : Nat, vk = .int .i64 j ∧ j ≤ tn ∧ Hid (Below w8.heap.size w8 wr)) (fun vk _ => tn - (intOf vk).toNat)
      case atStart => exact ⟨0, rfl, Nat.zero_le _, Lib.hid (Below.refl _ _)⟩
      case round =>
        obtain ⟨j, rfl, hj, HBJ⟩ := hrel
        by_cases hjt : j < tn
        · have hjz : (j : Int) < (tn : Int) := by omega
          have hj2 : j < T.length := by have := HTN.out; omega
          obtain ⟨g7, rfl, hg7, hc7⟩ := HO78.out.cellsN (by omega)
          obtain ⟨g8, rfl, hg8, hc8⟩ := HO8.out.cellsN (by omega)
          obtain ⟨⟨p0, p1, p2⟩, e7, n7⟩ := hc7 j hj2
          obtain ⟨⟨r0, r1, r2⟩, e8, n8⟩ := hc8 j hj2
          simp only at e7 n7 e8 n8
          have hkT := HTO.out _ (List.getElem_mem hj2)
          obtain ⟨nm, hnm⟩ : ∃ x, T[j]'hj2 = x := ⟨_, rfl⟩
          rw [hnm] at n7 n8 hkT
          have KC := Lib.hid (fun (W : World) (hb : Below w8.heap.size w8 W) => (show W.cell? ⟨g7, j, none⟩ = some (.slice p0 p1 p2) ∧ W.cell? ⟨g8, j, none⟩ = some (.slice r0 r1 r2) ∧ Below w8.heap.size w8 W from ⟨(Below.cell hb (p := ⟨g7, j, none⟩) hg7).trans e7, (Below.cell hb (p := ⟨g8, j, none⟩) hg8).trans e8, hb⟩))
          have KS := Lib.hid (fun (W W' : World) (h : W.cell? ⟨g7, j, none⟩ = some (.slice p0 p1 p2) ∧ W.cell? ⟨g8, j, none⟩ = some (.slice r0 r1 r2) ∧ Below w8.heap.size w8 W) (hb : Below W.heap.size W W') => KC.out W' (h.2.2.trans (hb.mono h.2.2.size)))
          have KI := Lib.hid (fun (W : World) (h : W.cell? ⟨g7, j, none⟩ = some (.slice p0 p1 p2) ∧ W.cell? ⟨g8, j, none⟩ = some (.slice r0 r1 r2) ∧ Below w8.heap.size w8 W) => kn_Is (.slice p0 p1 p2) (.slice r0 r1 r2) nm nm true (by simp) W (n7.below h.2.2) (n8.below (H78.out.trans (h.2.2.mono H78.out.size))) hkT)
          clear hc7 hc8 e7 e8 n7 n8 hg7 hg8 hnm hkT hj2
          obtain ⟨c0, d0, -⟩ := KC.out wr HBJ.out
          have hS0 := KC.out wr.drew (HBJ.out.trans ⟨rfl, rfl, rfl, Nat.le_refl _, fun _ _ => rfl⟩)
          go_wp2_with fail
          go_region_held3 (fun W => W.cell? ⟨g7, j, none⟩ = some (.slice p0 p1 p2) ∧ W.cell? ⟨g8, j, none⟩ = some (.slice r0 r1 r2) ∧ Below w8.heap.size w8 W)
            (first | with_reducible assumption)
            (first | ((with_reducible refine (KI.out _ (by with_reducible assumption)).mono ?_); rintro e w9 ⟨rfl, hb9⟩; have hS9 := KS.out _ _ (by with_reducible assumption) hb9; clear hb9))
          have HB9 := Lib.hid hS9.2.2
          clear hS9 hS0 c0 d0 KI KS KC
          go_wp2
          go_roundw
          case measure => simp [intOf]; omega
          case rel => exact ⟨j + 1, by go_num, by omega, HB9⟩
        · obtain rfl : j = tn := by omega
          go_wp2
          go_roundw
          case measure => simp [intOf]; omega
          case rel => exact ⟨k + 1, by go_num, by omega, Lib.hid (HB8.out.trans (HBJ.out.mono HB8.out.size))⟩
    · obtain rfl : k = m := by omega
      have HBW := Lib.hid (HB5.out.trans (HB.out.mono HB5.out.size))
      have HMW := Lib.hid (HM5.out.below HB.out)
      have hlt0 : ¬ (k : Int) < (k : Int) := by omega
      -- rset.Of
      have hc := row_Of (.slice a n c) (.slice aq qn cq) q t l wr (HROW.out.below HBW.out) (HNQ.out.below HBW.out) HKQ.out HOKL.out (by have := HLL.out; omega)
      unfold OfPost at hc
      have hsok := of_ok HOKL.out q t
      obtain ⟨so, hso⟩ : ∃ o, ofM l q t = o := ⟨_, rfl⟩
      have HSO := Lib.hid hso
      rw [hso] at hc hsok
      obtain ⟨ob, hob⟩ : ∃ b, so.isSome = b := ⟨_, rfl⟩
      obtain ⟨s, hs⟩ : ∃ s, so.getD ⟨[], 0, 0, []⟩ = s := ⟨_, rfl⟩
      rw [hs] at hsok
      rw [hs, hob] at hc
      have HOB := Lib.hid hob; have HSD := Lib.hid hs; have HSOK := Lib.hid hsok
      clear hso hob hs hsok HS5 HR5 HM5 HB5
      go_wp2_with fail
      refine hc.mono ?_
      rintro e w6 ⟨cs6, rfl, hs6, hb6⟩
      obtain ⟨⟨x0, x1, x2⟩, ⟨x3, x4, x5⟩, rfl⟩ := hs6.shape
      have H6 := Lib.hid hs6
      have HB6 := Lib.hid hb6
      clear hc hs6 hb6
      simp only at H6 ⊢
      obtain ⟨dn, hdn⟩ : ∃ d, s.data.length = d := ⟨_, rfl⟩
      obtain ⟨ty, hty⟩ : ∃ d, s.ty = d := ⟨_, rfl⟩
      obtain ⟨tt, htt⟩ : ∃ d, (s.ttl : Int) = d := ⟨_, rfl⟩
      rw [hdn, hty, htt] at H6 ⊢
      have HD := Lib.hid (And.intro hdn (And.intro hty htt))
      clear hdn hty htt
      have hA := (Below.refl w6.heap.size w6).alloc (Nat.le_refl _) (.cells #[.slice x0 x1 x2, .int .i64 ty, .int .u32 tt, .slice x3 dn x5] 38)
      obtain ⟨Bx, hbx⟩ : ∃ b, w6.heap.size = b := ⟨_, rfl⟩
      obtain ⟨w7, hW7⟩ : ∃ W, w6.alloc (.cells #[.slice x0 x1 x2, .int .i64 ty, .int .u32 tt, .slice x3 dn x5] 38) = W := ⟨_, rfl⟩
      have hX := knew w6 (.cells #[.slice x0 x1 x2, .int .i64 ty, .int .u32 tt, .slice x3 dn x5] 38)
      rw [hW7] at hA hX
      rw [hbx] at hX
      have H7 := Lib.hid (H6.out.below hA)
      have X7 := Lib.hid hX
      have hb67 := HB6.out.trans (hA.mono HB6.out.size)
      have HB7 := Lib.hid (HBW.out.trans (hb67.mono HBW.out.size))
      have HM7 := Lib.hid (HMW.out.below hb67)
      clear hA hX hb67 H6 HB6
      -- ref.Of
      have hc : Calls Tryz.prog 22 #[.slice ma mn mc, .slice aq qn cq, .int .i64 t] w7 (OfPostD w7 w7 so) := by
        obtain ⟨css, h1, h2⟩ := HM7.out
        have h := ref_Of (.slice ma mn mc) (.slice aq qn cq) q t css l w7 w7 h1 h2 (Below.refl _ _) (HNQ.out.below HB7.out) HKQ.out HOKL.out (by rw [h2.1]; have := HLL.out; omega)
        rw [HSO.out] at h; exact h
      unfold OfPostD at hc
      rw [HSD.out, HOB.out] at hc
      go_wp2_with fail
      clear hW7 hbx
      refine hc.mono ?_
      rintro e w8 ⟨cs8, rfl, hs8, hb8⟩
      have hr8 := hs8.setR hb8
      obtain ⟨⟨z0, z1, z2⟩, ⟨z3, z4, z5⟩, rfl⟩ := hr8.shape
      simp only [HD.out.1, HD.out.2.1, HD.out.2.2] at hr8 ⊢
      have H8 := Lib.hid hr8
      have H78 := Lib.hid (H7.out.below hb8)
      have X78 := Lib.hid ((hb8.block _ (kblock_lt X7.out)).trans X7.out)
      have HB8 := Lib.hid (HB7.out.trans (hb8.mono HB7.out.size))
      have HM8 := Lib.hid (HM7.out.below hb8)
      clear hc hs8 hr8 hb8 H7 X7 HM7
      have hA := (Below.refl w8.heap.size w8).alloc (Nat.le_refl _) (.cells #[.slice z0 z1 z2, .int .i64 ty, .int .u32 tt, .slice z3 dn z5] 41)
      obtain ⟨By, hby⟩ : ∃ b, w8.heap.size = b := ⟨_, rfl⟩
      obtain ⟨w9, hW9⟩ : ∃ W, w8.alloc (.cells #[.slice z0 z1 z2, .int .i64 ty, .int .u32 tt, .slice z3 dn z5] 41) = W := ⟨_, rfl⟩
      have hX := knew w8 (.cells #[.slice z0 z1 z2, .int .i64 ty, .int .u32 tt, .slice z3 dn z5] 41)
      rw [hW9] at hA hX
      rw [hby] at hX
      have L9 := Lib.hid (H78.out.below hA)
      have M9 := Lib.hid (H8.out.below hA)
      have XX9 := Lib.hid ((hA.block _ (kblock_lt X78.out)).trans X78.out)
      have XY9 := Lib.hid hX
      have HB9 := Lib.hid (HB8.out.trans (hA.mono HB8.out.size))
      have HM9 := Lib.hid (HM8.out.below hA)
      clear hA hX H8 H78 X78 HM8
      -- rset.Types
      have hc := row_Types (.slice a n c) (.slice aq qn cq) q l w9 (HROW.out.below HB9.out) (HNQ.out.below HB9.out) HKQ.out HOKL.out (by have := HLL.out; omega)
      unfold TyPost at hc
      have htl := typesM_len q l
      obtain ⟨zs, hzs⟩ : ∃ z, typesM q l = z := ⟨_, rfl⟩
      have HZS := Lib.hid hzs
      rw [hzs] at hc htl
      clear hzs
      go_wp2_with fail
      clear hW9 hby
      refine hc.mono ?_
      rintro e wa ⟨va, rfl, hoa, hba⟩
      obtain ⟨ua, uc, rfl⟩ := hoa.shape
      have HBA := Lib.hid (HB9.out.trans (hba.mono HB9.out.size))
      have H9A := Lib.hid hba
      have HMA := Lib.hid (HM9.out.below hba)
      have HOA := Lib.hid hoa
      clear hc hoa hba
      -- ref.TypesOf
      have hc : Calls Tryz.prog 24 #[.slice ma mn mc, .slice aq qn cq] wa (TyPost wa zs) := by
        obtain ⟨css, h1, h2⟩ := HMA.out
        have h := ref_TypesOf (.slice ma mn mc) (.slice aq qn cq) q css l wa h1 h2 (HNQ.out.below HBA.out) HKQ.out HOKL.out (by rw [h2.1]; have := HLL.out; omega)
        rw [HZS.out] at h; exact h
      unfold TyPost at hc
      go_wp2_with fail
      refine hc.mono ?_
      rintro e wb ⟨vb, rfl, hob, hbb⟩
      obtain ⟨ta, tc, rfl⟩ := hob.shape
      have HBB := Lib.hid (HBA.out.trans (hbb.mono HBA.out.size))
      have h9b := H9A.out.trans (hbb.mono H9A.out.size)
      have HOA2 := Lib.hid (OwnG.below HOA.out hbb)
      have HOB2 := Lib.hid hob
      have L := Lib.hid (L9.out.below h9b)
      have M := Lib.hid (M9.out.below h9b)
      have xx := (h9b.block _ (kblock_lt XX9.out)).trans XX9.out
      have xy := (h9b.block _ (kblock_lt XY9.out)).trans XY9.out
      have y0 := kcell xx 0 _ rfl; have y1 := kcell xx 1 _ rfl; have y2 := kcell xx 2 _ rfl; have y3 := kcell xx 3 _ rfl
      have z0' := kcell xy 0 _ rfl; have z1' := kcell xy 1 _ rfl; have z2' := kcell xy 2 _ rfl; have z3' := kcell xy 3 _ rfl
      have hci := law6_is _ _ s wb L.out M.out HSOK.out.1 HSOK.out.2.1 (by have := HSOK.out.2.2; have := HLL.out; omega)
      have hoo : (ob != ob) = false := by simp
      obtain ⟨un, hun⟩ : ∃ u, zs.length = u := ⟨_, rfl⟩
      rw [hun] at htl HOA2 HOB2 ⊢
      have HUN := Lib.hid hun
      have hun60 : un ≤ 60 := by have := HLL.out; omega
      have huu : (un != un) = false := by simp
      clear hc hob hbb h9b xx xy HOA HMA HM9 L9 M9 XX9 XY9 hun htl
      go_wp2_with fail
      refine hci.mono ?_
      rintro e wc ⟨rfl, hbc⟩
      have HBC := Lib.hid (HBB.out.trans (hbc.mono HBB.out.size))
      have HOA3 := Lib.hid (OwnG.below HOA2.out hbc)
      have HOB3 := Lib.hid (OwnG.below HOB2.out hbc)
      clear hci hbc y0 y1 y2 y3 z0' z1' z2' z3' HOA2 HOB2
      go_wp2
      go_loopw [20] (fun vk wr => ∃ j : Nat, vk = .int .i64 j ∧ j ≤ un ∧ Hid (Below wc.heap.size wc wr)) (fun vk _ => un - (intOf vk).toNat)
      case atStart => exact ⟨0, rfl, Nat.zero_le _, Lib.hid (Below.refl _ _)⟩
      case round =>
        obtain ⟨j, rfl, hj, HBJ⟩ := hrel
        by_cases hjt : j < un
        · have hjz : (j : Int) < (un : Int) := by omega
          have hj2 : j < zs.length := by have := HUN.out; omega
          obtain ⟨g7, rfl, -, hg7, hc7⟩ := HOA3.out.cells (fun e => by rw [e] at hj2; simp at hj2)
          obtain ⟨g8, rfl, -, hg8, hc8⟩ := HOB3.out.cells (fun e => by rw [e] at hj2; simp at hj2)
          have e7 := (Below.cell HBJ.out (p := ⟨g7, j, none⟩) hg7).trans (hc7 j hj2)
          have e8 := (Below.cell HBJ.out (p := ⟨g8, j, none⟩) hg8).trans (hc8 j hj2)
          obtain ⟨zj, hzj⟩ : ∃ x, zs[j]'hj2 = x := ⟨_, rfl⟩
          rw [hzj] at e7 e8
          have hzz : (zj != zj) = false := by simp
          change wr.cell? ⟨g7, j, none⟩ = some (.int .i64 zj) at e7
          change wr.cell? ⟨g8, j, none⟩ = some (.int .i64 zj) at e8
          clear hc7 hc8 hg7 hg8 hzj hj2
          go_wp2_with fail
          go_quiet (fail)
          go_wp2
          go_roundw
          case measure => simp [intOf]; omega
          case rel => exact ⟨j + 1, by go_num, by omega, Lib.hid (below_drewQ HBJ.out _)⟩
        · obtain rfl : j = un := by omega
          go_wp2
          go_ret
          exact ⟨rfl, HBC.out.trans (HBJ.out.mono HBC.out.size)⟩
end Go.Proofs.YtckammgnmgkieaaGreat

