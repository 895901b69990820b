/-
  rset.Types.
-/
import Derived.Test.YtfcdajldpnomfaaMQ17
import Derived.Test.YtfcdajldpnomfaaMQ12
import Derived.Lib.OwnBridge
import Derived.ControlIn
import Derived.Test.YtfcdajldpnomfaaMQ08
import Derived.Test.YtfcdajldpnomfaaMQ21
import Derived.Deep.RegionHeld3
import Derived.Test.YtfcdajldpnomfaaMQ32
import Derived.Deep.RegionLaw
namespace Go.Proofs.Ytfcdajldpnomfaa
open Go.RowKit Go.Shelf
set_option maxRecDepth 20000
set_option linter.unusedVariables false
set_option linter.unusedSimpArgs false
theorem elemInt : ElemT 3 49 8 := ⟨Try.underlying49, _, _, rfl, rfl, rfl, rfl, rfl⟩
/-- The types of one owner, as the row has them. -/
def tysM (o : Nm) (l : List Rc) : List Int := (l.filter fun r => sameN r.owner o).map fun r => r.data.ty
def typesM (o : Nm) (l : List Rc) : List Int := Lib.compact ((tysM o l).mergeSort fun x y => decide (x ≤ y))
theorem tysM_take {o : Nm} {l : List Rc} {k : Nat} (h : k < l.length) : tysM o (l.take (k + 1)) = tysM o (l.take k) ++ if sameN l[k].owner o = true then [l[k].data.ty] else [] := by
  unfold tysM
  rw [List.take_succ_eq_append_getElem h, List.filter_append, List.map_append]
  congr 1
  cases e : sameN l[k].owner o <;> simp [e]
theorem tysM_len (o : Nm) (l : List Rc) : (tysM o l).length ≤ l.length := by
  unfold tysM; rw [List.length_map]; exact List.length_filter_le _ _
theorem compact_len (zs : List Int) : (Lib.compact zs).length ≤ zs.length := by
  unfold Lib.compact Lib.compactUpTo
  rw [List.length_map]
  exact Nat.le_trans (List.length_filter_le _ _) (by simp)
abbrev iv : Int → Value := Value.int .i64
def TyPost (w : World) (l : List Int) (e : Ending) (w' : World) : Prop := ∃ v, e = .returned v ∧ OwnG 3 iv w' w.heap.size v l ∧ Below w.heap.size w w'
/-- Sorting an own row. -/
theorem sort_own {w0 w : World} {a : Option Addr} {n c : Nat} {zs : List Int} (h : OwnG 3 iv w w0.heap.size (.slice a n c) zs) (hb : Below w0.heap.size w0 w) (hz : zs ≠ []) (hl : zs.length ≤ 1048576) :
    Calls Try.prog 22 #[.slice a n c] w fun e w' => e = .returned (.tuple #[]) ∧ OwnG 3 iv w' w0.heap.size (.slice a n c) (zs.mergeSort fun x y => decide (x ≤ y)) ∧ Below w0.heap.size w0 w' := by
  have hn : (Value.slice a n c) ≠ .slice none 0 0 := fun e => by
    have h1 := h.shape
    obtain ⟨_, _, e2⟩ := h1
    rw [e] at e2
    injection e2 with _ e2 _
    exact hz (List.eq_nil_of_length_eq_zero e2.symm)
  obtain ⟨g, cap, e, hg, hlt, hnc, hcm, hlen, hH⟩ := Lib.holds_of_ownsRow h hn
  have hlen' : zs.length = n := by
    have h1 := h.shape
    obtain ⟨_, _, e2⟩ := h1
    injection e2 with _ e2 _; exact e2.symm
  injection e with e1 e2 e3
  subst e1; subst e3; subst hlen'
  refine (Try.slices_Sort_int g 0 c zs w hH hlt (by omega)).mono ?_
  rintro e w' ⟨rfl, m, os, rfl⟩
  have h1 := Lib.ownsRow_putRow (q := m) (k := zs.length) (ys := zs.mergeSort fun x y => decide (x ≤ y)) h (by simp) (Nat.le_refl _)
  have h2 := Lib.below_putRow (enc := iv) (q := m) (d := (zs.mergeSort fun x y => decide (x ≤ y)).toArray) hb hg
  have h3 : OwnG 3 iv (Sort.putRow iv (Sort.ahead w m) g 0 (zs.mergeSort fun x y => decide (x ≤ y)).toArray) w0.heap.size (.slice (some ⟨g, 0, none⟩) zs.length c) (zs.mergeSort fun x y => decide (x ≤ y)) := by
    unfold OwnG
    rw [List.take_of_length_le (by simp)] at h1
    rw [List.length_mergeSort]
    exact h1
  have hbg := Lib.below_grow (Sort.putRow iv (Sort.ahead w m) g 0 (zs.mergeSort fun x y => decide (x ≤ y)).toArray).heap.size _ (Nat.le_refl _) 0 os
  exact ⟨rfl, h3.below hbg, h2.trans (hbg.mono h2.size)⟩
theorem compact_own {w0 w : World} {a : Option Addr} {n c : Nat} {zs : List Int} (h : OwnG 3 iv w w0.heap.size (.slice a n c) zs) (hb : Below w0.heap.size w0 w) (hz : zs ≠ []) (hl : zs.length ≤ 1048576) :
    Calls Try.prog 23 #[.slice a n c] w fun e w' => ∃ v, e = .returned v ∧ OwnG 3 iv w' w0.heap.size v (Lib.compact zs) ∧ Below w0.heap.size w0 w' := by
  have hn : (Value.slice a n c) ≠ .slice none 0 0 := fun e => by
    have h1 := h.shape
    obtain ⟨_, _, e2⟩ := h1
    rw [e] at e2
    injection e2 with _ e2 _
    exact hz (List.eq_nil_of_length_eq_zero e2.symm)
  obtain ⟨g, cap, e, hg, hlt, hnc, hcm, hlen, hH⟩ := Lib.holds_of_ownsRow h hn
  have hlen' : zs.length = n := by
    have h1 := h.shape
    obtain ⟨_, _, e2⟩ := h1
    injection e2 with _ e2 _; exact e2.symm
  injection e with e1 e2 e3
  subst e1; subst e3; subst hlen'
  refine (Try.slices_Compact_int g 0 c zs w hH (by omega) hnc).mono ?_
  rintro e w' ⟨rfl, m, rfl⟩
  have hcl := compact_len zs
  have hyl : (Lib.compact zs ++ List.replicate (zs.length - (Lib.compact zs).length) 0).length = zs.length := by simp; omega
  have h1 := Lib.ownsRow_putRow (q := m) (k := (Lib.compact zs).length) h hyl hcl
  have h2 := Lib.below_putRow (enc := iv) (q := m) (d := (Lib.compact zs ++ List.replicate (zs.length - (Lib.compact zs).length) 0).toArray) hb hg
  refine ⟨_, rfl, ?_, h2⟩
  unfold OwnG
  rw [List.take_append_of_le_length (Nat.le_refl _), List.take_length] at h1
  exact h1
theorem OwnG.len {W : World} {base : Nat} {a : Option Addr} {n c : Nat} {zs : List Int} (h : OwnG 3 iv W base (.slice a n c) zs) : n = zs.length := by
  obtain ⟨_, _, e⟩ := h.shape
  injection e
theorem sort_any {w0 w : World} {a : Option Addr} {n c : Nat} {zs : List Int} (h : OwnG 3 iv w w0.heap.size (.slice a n c) zs) (hb : Below w0.heap.size w0 w) (hl : zs.length ≤ 1048576) :
    Calls Try.prog 22 #[.slice a n c] w fun e w' => e = .returned (.tuple #[]) ∧ OwnG 3 iv w' w0.heap.size (.slice a n c) (zs.mergeSort fun x y => decide (x ≤ y)) ∧ Below w0.heap.size w0 w' := by
  by_cases hz : zs = []
  · subst hz
    obtain rfl : n = 0 := h.len
    refine (Any.slices_Sort_int_none Try.lays189 a c w).mono ?_
    rintro e w' ⟨rfl, rfl⟩
    refine ⟨rfl, ?_, hb⟩
    rw [show ([] : List Int).mergeSort (fun x y => decide (x ≤ y)) = [] by simp]
    exact h
  · exact sort_own h hb hz hl
theorem compact_any {w0 w : World} {a : Option Addr} {n c : Nat} {zs : List Int} (h : OwnG 3 iv w w0.heap.size (.slice a n c) zs) (hb : Below w0.heap.size w0 w) (hl : zs.length ≤ 1048576) :
    Calls Try.prog 23 #[.slice a n c] w fun e w' => ∃ v, e = .returned v ∧ OwnG 3 iv w' w0.heap.size v (Lib.compact zs) ∧ Below w0.heap.size w0 w' := by
  by_cases hz : zs = []
  · subst hz
    obtain rfl : n = 0 := h.len
    refine (Try.slices_Compact_int_empty a c w).mono ?_
    rintro e w' ⟨rfl, rfl⟩
    exact ⟨_, rfl, h, hb⟩
  · exact compact_own h hb hz hl
set_option maxRecDepth 100000 in
set_option maxHeartbeats 16000000 in
theorem rset_Types (v1 : Option Addr) (n c : Nat) (vo : Value) (o : Nm) (css : List (List Value)) (rs : List Rc) (w : World) (hA : SlK w (.slice v1 n c) css) (hR : Rcs w css rs) (hOK : ∀ r ∈ rs, RcOK r) (hO : NmAt w vo o) (hko : NmOK o) (hl : n ≤ 1048576) :
    Calls Try.prog 13 #[.slice v1 n c, vo] w (TyPost w (typesM o rs)) := by
  obtain ⟨hln, hx⟩ : css.length = n ∧ n ≤ c := by
    obtain ⟨a', c', e, h1, _⟩ := id hA
    cases e; exact ⟨rfl, h1⟩
  have HN := Lib.hid (fun (k : Nat) (u : Value) (W : World) (h1 : k < rs.length) (hu : NmAt W u rs[k].owner) (hb : Below w.heap.size w W) => kn_NSame u vo rs[k].owner o _ rfl W hu (hO.below hb) (hOK _ (List.getElem_mem h1)).1 hko)
  obtain ⟨ao, co, rfl, -⟩ := nmAt_sl.1 hO
  have HA := Lib.hid hA; have HR := Lib.hid hR; have HLN := Lib.hid hln
  have HDL := Lib.hid (show rs.length = n by rw [← hR.1]; exact hln)
  obtain ⟨qo, hqo⟩ : ∃ q, (List.map strV o).length = q := ⟨_, rfl⟩
  rw [hqo] at HN ⊢
  clear hA hR hOK hln hO hko hqo
  go_enter Try.func13, Try.ntmps13
  go_wp2
  go_loopw [5, 10] (fun v3 vi wr => ∃ (k : Nat) (ga : Option Addr) (gn gc : Nat), v3 = .slice ga gn gc ∧ vi = .int .i64 k ∧ k ≤ n ∧ Hid (OwnG 3 iv wr w.heap.size (.slice ga gn gc) (tysM o (rs.take k))) ∧ Hid (Below w.heap.size w wr)) (fun _ vi _ => n - (intOf vi).toNat)
  case atStart => exact ⟨0, none, 0, 0, rfl, rfl, Nat.zero_le _, Lib.hid (OwnG.nil _ _), Lib.hid (Below.refl _ w)⟩
  case round =>
    obtain ⟨k, ga, gn, gc, rfl, rfl, hk, HO, HB⟩ := hrel
    by_cases hlt : k < n
    · have hltz : (k : Int) < (n : Int) := by omega
      have hk1 : k < css.length := by have := HLN.out; omega
      have hk2 : k < rs.length := by have := HDL.out; omega
      obtain ⟨b, off, rfl, hb, hel⟩ := HA.out.elem HR.out.ck (by omega)
      have h0 := HR.out.2 k hk1 hk2
      have htk := tysM_take (o := o) hk2
      have hnk := fun u W => HN.out k u W hk2
      obtain ⟨d, hd⟩ : ∃ d, rs[k]'hk2 = d := ⟨_, rfl⟩
      rw [hd] at h0 htk
      simp only [hd] at hnk
      have hsh := h0.shape
      obtain ⟨⟨p0, q0, k0⟩, ⟨p3, q3, k3⟩, ⟨p4, q4, k4⟩, ⟨p5, q5, k5⟩, ⟨p6, q6, k6⟩, e0⟩ := hsh
      simp only at e0
      obtain ⟨c0', c1, c2, c3, c4, c5, c6⟩ := hel k hk1 _ _ _ _ _ _ _ e0 wr HB.out
      have hown0 : NmAt w (.slice p0 q0 k0) d.owner := by
        obtain ⟨_, _, _, _, _, e5, g1, _⟩ := h0
        rw [e0] at e5
        simp only [List.cons.injEq, and_true] at e5
        rw [e5.1]; exact g1
      have HBB := Lib.hid (HB.out.alloc HB.out.size (.cells #[.slice p0 q0 k0, .int .u32 (d.ttl : Int), .int .i64 d.data.ty, .slice p3 q3 k3, .slice p4 q4 k4, .slice p5 q5 k5, .slice p6 q6 k6] 53))
      have hn := hnk _ _ (hown0.below HBB.out) HBB.out
      have HO1 := Lib.hid (HO.out.below ((Below.refl _ wr).alloc (Nat.le_refl _) (.cells #[.slice p0 q0 k0, .int .u32 (d.ttl : Int), .int .i64 d.data.ty, .slice p3 q3 k3, .slice p4 q4 k4, .slice p5 q5 k5, .slice p6 q6 k6] 53)))
      have X1 := Lib.hid (block_new wr (.cells #[.slice p0 q0 k0, .int .u32 (d.ttl : Int), .int .i64 d.data.ty, .slice p3 q3 k3, .slice p4 q4 k4, .slice p5 q5 k5, .slice p6 q6 k6] 53))
      have HTK := Lib.hid htk
      clear h0 htk hd e0 hown0 hk1 hk2 hel hnk HO HB
      generalize (d.ttl : Int) = tr at *
      generalize d.data.ty = ty at *
      go_wp2_with fail
      refine hn.mono ?_
      rintro e w2 ⟨rfl, hbb2⟩
      have HB2 := Lib.hid (HBB.out.trans (hbb2.mono HBB.out.size))
      have hblk := (hbb2.block wr.heap.size (by simp)).trans X1.out
      have hc2 := cell_of_block hblk 2 _ rfl
      have hfz := frozen_block hblk 2
      have HO2 := Lib.hid (HO1.out.below hbb2)
      have hz2 := HB2.out.size
      have HTL := Lib.hid (show (tysM o (rs.take k)).length ≤ 1048576 by have := tysM_len o (rs.take k); rw [List.length_take] at this; omega)
      clear hbb2 hblk hn HBB HO1 X1 c0' c1 c2 c3 c4 c5 c6
      by_cases hs : sameN d.owner o = true
      · rw [hs]
        rw [if_pos hs] at HTK
        have HT := Lib.hid HTK.out
        clear HTK hs
        go_wp2_with (at_builtin; (refine wpl_append_g w2 rfl (.tmp 18) (.tmp 22) elemInt rfl (fun _ => rfl) w.heap.size (.slice ga gn gc) (tysM o (rs.take k)) rfl HO2.out [.int .i64 ty] [ty] rfl 1 1 rfl rfl hz2 (by have := HTL.out; unfold maxLen; simp; omega) (by have := HTL.out; simp; omega) ?_); intro v3 w3 hown3 hg3)
        have HO3 : Hid (OwnG 3 iv w3 w.heap.size v3 (tysM o (rs.take (k + 1)))) := Lib.hid (by rw [HT.out]; exact hown3)
        have HB3 := Lib.hid (HB2.out.grown hg3 hz2 HO2.out.base_le)
        obtain ⟨a3, c3', rfl⟩ := hown3.shape
        clear hown3 hg3
        go_roundw
        case measure => simp [intOf]; omega
        case rel => exact ⟨k + 1, a3, _, c3', rfl, by go_num, by omega, HO3, HB3⟩
      · rw [if_neg hs, List.append_nil] at HTK
        simp only [Bool.not_eq_true] at hs
        rw [hs]
        have HO3 : Hid (OwnG 3 iv w2 w.heap.size (.slice ga gn gc) (tysM o (rs.take (k + 1)))) := Lib.hid (by rw [HTK.out]; exact HO2.out)
        clear HTK hs
        go_wp2
        go_roundw
        case measure => simp [intOf]; omega
        case rel => exact ⟨k + 1, ga, gn, gc, rfl, by go_num, by omega, HO3, HB2⟩
    · obtain rfl : k = n := by omega
      have h := HO.out
      rw [List.take_of_length_le (by have := HDL.out; omega)] at h
      have HH := Lib.hid h
      have HTL := Lib.hid (show (tysM o rs).length ≤ 1048576 by have := tysM_len o rs; have := HDL.out; omega)
      clear h HO
      go_wp2_with fail
      refine (sort_any HH.out HB.out HTL.out).mono ?_
      rintro e w2 ⟨rfl, ho2, hb2⟩
      have HS2 := Lib.hid (compact_any ho2 hb2 (by rw [List.length_mergeSort]; exact HTL.out))
      clear ho2 hb2
      go_wp2_with fail
      refine HS2.out.mono ?_
      rintro e w3 ⟨v3, rfl, ho3, hb3⟩
      have HO3 := Lib.hid ho3; have HB3 := Lib.hid hb3
      clear ho3 hb3
      go_wp2
      go_ret
      exact ⟨_, rfl, HO3.out, HB3.out⟩
end Go.Proofs.Ytfcdajldpnomfaa

/-
  rset.Of.
-/
namespace Go.Proofs.Ytfcdajldpnomfaa
open Go.RowKit Go.Shelf
set_option maxRecDepth 20000
set_option linter.unusedVariables false
set_option linter.unusedSimpArgs false
theorem wanted_take {o : Nm} {t : Int} {l : List Rc} {k : Nat} (h : k < l.length) : (l.take (k + 1)).filter (belM o t) = (l.take k).filter (belM o t) ++ if belM o t l[k] = true then [l[k]] else [] := by
  rw [List.take_succ_eq_append_getElem h, List.filter_append]
  congr 1
  cases e : belM o t l[k] <;> simp [e]
theorem wpl_append_c' {S T : TypeId} {k bytes : Nat} {ops : Array Oper} {rest : List Oper} {o : Oper} {a : Act} {Q : Exit → Act → World → Prop} (W : World) (hgd : o.guard = none) (s x : Operand) (hE : ElemK k T S bytes) (hk0 : 0 < k)
    (ho : o.op = .call { callee := .builtin .append, args := #[s, x], argTypes := #[S, S] })
    (base : Nat) (v : Value) (xs : List (List Value)) (hs : a.eval s = v) (hown : OwnC k T W base v xs)
    (cs : List Value) (hcl : cs.length = k) (hc1 : ∀ u ∈ cs, u.oneCell' = true) (c : Nat) (hx : a.eval x = .slice (some ⟨W.heap.size, 0, none⟩) 1 c)
    (hbase : base ≤ W.heap.size) (hk : xs.length + 1 ≤ maxLen) (hk2 : (xs.length + 1) * bytes ≤ 140737488355328)
    (h : ∀ v' w', OwnC k T w' base v' (xs ++ [cs]) → W.grownBy w' v.ownBlock → wpList Try.prog ops Q rest (a.put o.dst v') w') :
    wpList Try.prog ops Q (o :: rest) a (W.alloc (.cells cs.toArray T)) := by
  obtain ⟨ht, i, z, hi, hz, hz1, hz2, hzc⟩ := hE
  refine wpList_append_own _ hgd s x S ho base T i z k bytes ht hi hz hz1 hz2 hzc hk0 v xs.length (xs.flatMap fun cs => cs) hs (hown.alloc _) ⟨W.heap.size, 0, none⟩ 1 c cs hx (by omega) (cells_new W _ _) hc1 hk hk2 (by simp; omega) ?_
  intro v' w' h1 h2 _
  refine h v' w' ?_ (grownBy_of_alloc h2)
  unfold OwnC OwnK
  rw [List.length_append, List.flatMap_append]
  have e : [cs].flatMap (fun cs => cs) = cs := by simp
  rw [e]
  exact h1
def OfPost (w : World) (s : Option St) (e : Ending) (w' : World) : Prop := ∃ cs, e = .returned (.tuple #[.agg cs.toArray, .bool s.isSome]) ∧ SetR w' cs (s.getD ⟨[], 0, 0, []⟩) ∧ Below w.heap.size w w'
theorem Rcs.snoc {W : World} {css : List (List Value)} {rs : List Rc} {cs : List Value} {r : Rc} (h : Rcs W css rs) (h1 : RcAt W cs r) : Rcs W (css ++ [cs]) (rs ++ [r]) := by
  refine ⟨by simp [h.1], fun i a b => ?_⟩
  by_cases hi : i < css.length
  · have hi2 : i < rs.length := by have := h.1; omega
    rw [List.getElem_append_left hi, List.getElem_append_left hi2]
    exact h.2 i hi hi2
  · have e1 : i = css.length := by simp at a; omega
    have e2 : i = rs.length := by have := h.1; omega
    rw [List.getElem_append_right (by omega), List.getElem_append_right (by omega)]
    simpa using h1
theorem results_set {fn : Func} {t u : Tmp} (h : fn.results = #[.cell t 40, .cell u 4]) (tmps : Array Value) (W : World) {a b : Nat} {x0 x1 x2 x3 v : Value} (h0 : x0.oneCell' = true) (h1 : x1.oneCell' = true) (h2 : x2.oneCell' = true) (h3 : x3.oneCell' = true) (hv : v.oneCell' = true)
    (ht : tmps.getD t undef = .pointer (some ⟨a, 0, none⟩)) (hu : tmps.getD u undef = .pointer (some ⟨b, 0, none⟩)) (c0 : W.cell? ⟨a, 0, none⟩ = some x0) (c1 : W.cell? ⟨a, 1, none⟩ = some x1) (c2 : W.cell? ⟨a, 2, none⟩ = some x2) (c3 : W.cell? ⟨a, 3, none⟩ = some x3) (c4 : W.cell? ⟨b, 0, none⟩ = some v) :
    (results fn tmps).run Try.prog W = .ok (.tuple #[.agg #[x0, x1, x2, x3], v]) W := by
  have ht' : tmps[t]?.getD undef = .pointer (some ⟨a, 0, none⟩) := by rw [← ht]; simp
  have hv' : tmps[u]?.getD undef = .pointer (some ⟨b, 0, none⟩) := by rw [← hu]; simp
  have hA : ∀ w, Sem.run Try.prog (underlying 40) w = .ok _ w := run_underlying Try.underlying40
  have hB : ∀ w, Sem.run Try.prog (underlying 4) w = .ok _ w := run_underlying Try.underlying4
  simp [results, h, ht', hv', loadVar, asAddr, go_sem, hA, hB, c0, c1, c2, c3, c4, isAgg]
def OfI (N B : Nat) (W0 : World) {n : Nat} (pre : List (SegD n)) (W : World) : Prop := pre = [] ∧ KpX N B W0 W ∧ W.heap[B]? = some (.cells #[.slice none 0 0, .int .i64 0, .int .u32 0, .slice none 0 0] 40)
def OfX (N B : Nat) (w : World) (css : List (List Value)) (vo : Nat → Option Addr × Nat × Nat) (L : List Rc) {n : Nat} (c : Code) (pre : List (SegD n)) (W : World) : Prop :=
  c = .ret ∧ ∃ x, pre = [x] ∧ Below w.heap.size w W ∧ W.heap[B]? = some (.cells (setC vo L x).toArray 40) ∧ W.heap[B + 1]? = some (.cells #[.bool true] 4) ∧ DatO N css x W ∧ ∀ j (h1 : j < css.length) (h2 : j < L.length), FrAt W (B + 2) css[j] L[j]
theorem ofI_own {N B : Nat} {W0 : World} {n : Nat} (hB : B < N) (hn : N ≤ W0.heap.size) : OwnFrom N (OfI (n := n) N B W0) := by
  rintro pre W W' row ⟨h1, h2, h3⟩ hg hr
  exact ⟨h1, h2.trans (KpX.grown (Nat.le_trans hn h2.size) hg (fun r e => .inl (hr r e).1)), (hg.block B (kblock_lt h3) (fun e => by have := (hr B e.symm).1; omega)).trans h3⟩
theorem ofX_own {N B : Nat} {w : World} {css : List (List Value)} {vo : Nat → Option Addr × Nat × Nat} {L : List Rc} {n : Nat} (c : Code) (hB : B + 1 < N) (hw : w.heap.size ≤ N) : OwnFrom N (OfX (n := n) N B w css vo L c) := by
  rintro pre W W' row ⟨h1, x, h2, h3, h4, h5, h6, h7⟩ hg hr
  exact ⟨h1, x, h2, h3.grown hg h3.size (fun r e => by have := (hr r e).1; omega), (hg.block B (kblock_lt h4) (fun e => by have := (hr B e.symm).1; omega)).trans h4, (hg.block (B + 1) (kblock_lt h5) (fun e => by have := (hr (B + 1) e.symm).1; omega)).trans h5, h6.keptO hg (fun r e => (hr r e).2), fun j a b => (h7 j a b).keptO hg (fun r e => (hr r e).2)⟩
theorem of_fin {N B : Nat} {w W : World} {css : List (List Value)} {vo : Nat → Option Addr × Nat × Nat} {L : List Rc} {n : Nat} {x : SegD n} {v0 v1 v2 v3 z0 z1 z2 z3 z4 : Value} (ecs : setC vo L x = [v0, v1, v2, v3]) (hx6 : W.heap[B]? = some (.cells #[z0, z1, z2, z3] 40)) (hx7 : W.heap[B + 1]? = some (.cells #[z4] 4))
    (hD : DatO N css x W) (hF : ∀ j (h1 : j < css.length) (h2 : j < L.length), FrAt W (B + 2) css[j] L[j]) (hww : Below w.heap.size w W) (hBw : w.heap.size ≤ B) :
    OfX N B w css vo L .ret ([] ++ [x]) (((((W.setCell ⟨B, 0, none⟩ v0).setCell ⟨B, 1, none⟩ v1).setCell ⟨B, 2, none⟩ v2).setCell ⟨B, 3, none⟩ v3).setCell ⟨B + 1, 0, none⟩ (.bool true)) := by
  have q0 := kset hx6 0 v0
  have q1 := kset q0 1 v1
  have q2 := kset q1 2 v2
  have q3 := kset q2 3 v3
  have g0 := grownBy_set W B 0 v0
  have g1 := grownBy_set (W.setCell ⟨B, 0, none⟩ v0) B 1 v1
  have g2 := grownBy_set ((W.setCell ⟨B, 0, none⟩ v0).setCell ⟨B, 1, none⟩ v1) B 2 v2
  have g3 := grownBy_set (((W.setCell ⟨B, 0, none⟩ v0).setCell ⟨B, 1, none⟩ v1).setCell ⟨B, 2, none⟩ v2) B 3 v3
  have g4 := grownBy_set ((((W.setCell ⟨B, 0, none⟩ v0).setCell ⟨B, 1, none⟩ v1).setCell ⟨B, 2, none⟩ v2).setCell ⟨B, 3, none⟩ v3) (B + 1) 0 (.bool true)
  have hne : (some (B + 1) : Option Nat) ≠ some B := fun e => by injection e; omega
  have hne2 : (some B : Option Nat) ≠ some (B + 1) := fun e => by injection e; omega
  have r0 := (g0.block (B + 1) (kblock_lt hx7) hne).trans hx7
  have r1 := (g1.block (B + 1) (kblock_lt r0) hne).trans r0
  have r2 := (g2.block (B + 1) (kblock_lt r1) hne).trans r1
  have r3 := (g3.block (B + 1) (kblock_lt r2) hne).trans r2
  have r4 := kset r3 0 (.bool true)
  have q4 := (g4.block B (kblock_lt q3) hne2).trans q3
  refine ⟨rfl, x, rfl, ?_, ?_, ?_, ?_, ?_⟩
  · exact ((((hww.setCell (p := ⟨B, 0, none⟩) hBw _).setCell (p := ⟨B, 1, none⟩) hBw _).setCell (p := ⟨B, 2, none⟩) hBw _).setCell (p := ⟨B, 3, none⟩) hBw _).setCell (p := ⟨B + 1, 0, none⟩) (by show w.heap.size ≤ B + 1; omega) _
  · rw [ecs]; exact q4
  · exact r4
  · exact OwnK.keptB (OwnK.keptB (OwnK.keptB (OwnK.keptB (OwnK.keptB hD hx6 (by decide) 0 v0) q0 (by decide) 1 v1) q1 (by decide) 2 v2) q2 (by decide) 3 v3) r3 (by decide) 0 _
  · intro j h1 h2
    exact (((((hF j h1 h2).keptX (by omega) g0).keptX (by omega) g1).keptX (by omega) g2).keptX (by omega) g3).keptX (by omega) g4
theorem of_zero {B d : Nat} {w W : World} {z0 z1 z2 z3 z4 : Value} (hx6 : W.heap[B]? = some (.cells #[z0, z1, z2, z3] 40)) (hx7 : W.heap[B + 1]? = some (.cells #[z4] 4)) (hww : Below w.heap.size w W) (hBw : w.heap.size ≤ B) {ds : List Deferred} (hd : W.heap[d]? = some (.deferred (some ds))) (h1 : d ≠ B) (h2 : d ≠ B + 1) :
    ∃ W5, ((((W.setCell ⟨B, 0, none⟩ (.slice none 0 0)).setCell ⟨B, 1, none⟩ (.int .i64 0)).setCell ⟨B, 2, none⟩ (.int .u32 0)).setCell ⟨B, 3, none⟩ (.slice none 0 0)).setCell ⟨B + 1, 0, none⟩ (.bool false) = W5 ∧ W5.heap[B]? = some (.cells #[.slice none 0 0, .int .i64 0, .int .u32 0, .slice none 0 0] 40) ∧ W5.heap[B + 1]? = some (.cells #[.bool false] 4) ∧ Below w.heap.size w W5 ∧ W5.heap[d]? = some (.deferred (some ds)) := by
  have q0 := kset hx6 0 (.slice none 0 0)
  have q1 := kset q0 1 (.int .i64 0)
  have q2 := kset q1 2 (.int .u32 0)
  have q3 := kset q2 3 (.slice none 0 0)
  have g0 := grownBy_set W B 0 (.slice none 0 0)
  have g1 := grownBy_set (W.setCell ⟨B, 0, none⟩ (.slice none 0 0)) B 1 (.int .i64 0)
  have g2 := grownBy_set ((W.setCell ⟨B, 0, none⟩ (.slice none 0 0)).setCell ⟨B, 1, none⟩ (.int .i64 0)) B 2 (.int .u32 0)
  have g3 := grownBy_set (((W.setCell ⟨B, 0, none⟩ (.slice none 0 0)).setCell ⟨B, 1, none⟩ (.int .i64 0)).setCell ⟨B, 2, none⟩ (.int .u32 0)) B 3 (.slice none 0 0)
  have g4 := grownBy_set ((((W.setCell ⟨B, 0, none⟩ (.slice none 0 0)).setCell ⟨B, 1, none⟩ (.int .i64 0)).setCell ⟨B, 2, none⟩ (.int .u32 0)).setCell ⟨B, 3, none⟩ (.slice none 0 0)) (B + 1) 0 (.bool false)
  have hne : (some (B + 1) : Option Nat) ≠ some B := fun e => by injection e; omega
  have hne2 : (some B : Option Nat) ≠ some (B + 1) := fun e => by injection e; omega
  have hnd : (some d : Option Nat) ≠ some B := fun e => by injection e; omega
  have hnd2 : (some d : Option Nat) ≠ some (B + 1) := fun e => by injection e; omega
  have r0 := (g0.block (B + 1) (kblock_lt hx7) hne).trans hx7
  have r1 := (g1.block (B + 1) (kblock_lt r0) hne).trans r0
  have r2 := (g2.block (B + 1) (kblock_lt r1) hne).trans r1
  have r3 := (g3.block (B + 1) (kblock_lt r2) hne).trans r2
  have d0 := (g0.block d (kblock_lt hd) hnd).trans hd
  have d1 := (g1.block d (kblock_lt d0) hnd).trans d0
  have d2 := (g2.block d (kblock_lt d1) hnd).trans d1
  have d3 := (g3.block d (kblock_lt d2) hnd).trans d2
  refine ⟨_, rfl, (g4.block B (kblock_lt q3) hne2).trans q3, kset r3 0 (.bool false), ?_, (g4.block d (kblock_lt d3) hnd2).trans d3⟩
  exact ((((hww.setCell (p := ⟨B, 0, none⟩) hBw _).setCell (p := ⟨B, 1, none⟩) hBw _).setCell (p := ⟨B, 2, none⟩) hBw _).setCell (p := ⟨B, 3, none⟩) hBw _).setCell (p := ⟨B + 1, 0, none⟩) (by show w.heap.size ≤ B + 1; omega) _
theorem setR_zero (W : World) : SetR W [.slice none 0 0, .int .i64 0, .int .u32 0, .slice none 0 0] ((none : Option St).getD ⟨[], 0, 0, []⟩) :=
  ⟨(none, 0, 0), (none, 0, 0), [], rfl, (OwnG.nmAt (OwnG.nil W 0) : NmAt W (.slice none 0 0) []), SlK.nil W, rfl, fun j a => absurd a (by simp)⟩
section
attribute [local go_sem] Oper.semAt_some
set_option maxRecDepth 100000 in
set_option maxHeartbeats 16000000 in
theorem rset_Of (v1 : Option Addr) (n c : Nat) (vo : Value) (o : Nm) (t : Int) (css : List (List Value)) (rs : List Rc) (w : World) (hA : SlK w (.slice v1 n c) css) (hR : Rcs w css rs) (hOK : ∀ r ∈ rs, RcOK r) (hO : NmAt w vo o) (hko : NmOK o) (hl : n ≤ 1048576) :
    Calls Try.prog 12 #[.slice v1 n c, vo, .int .i64 t] w (OfPost w (ofM rs o t)) := by
  obtain ⟨hln, hx⟩ : css.length = n ∧ n ≤ c := by
    obtain ⟨a', c', e, h1, _⟩ := id hA
    cases e; exact ⟨rfl, h1⟩
  have HN := Lib.hid (fun (k : Nat) (u : Value) (W : World) (h1 : k < rs.length) (hu : NmAt W u rs[k].owner) (hb : Below w.heap.size w W) => kn_NSame u vo rs[k].owner o _ rfl W hu (hO.below hb) (hOK _ (List.getElem_mem h1)).1 hko)
  obtain ⟨ao, co, rfl, -⟩ := nmAt_sl.1 hO
  have HA := Lib.hid hA; have HR := Lib.hid hR; have HLN := Lib.hid hln; have HOK := Lib.hid hOK
  have HDL := Lib.hid (show rs.length = n by rw [← hR.1]; exact hln)
  obtain ⟨qo, hqo⟩ : ∃ q, (List.map strV o).length = q := ⟨_, rfl⟩
  rw [hqo] at HN ⊢
  clear hA hR hOK hln hO hko hqo
  refine (callsIn_wide (n := 8)).1 ?_
  refine callsIn_of_wp_marks Try.func12 rfl trivial ?_ rfl
  simp only [Try.ntmps12, List.size_toArray, List.length_cons, List.length_nil, Nat.reduceAdd, Nat.reduceSub, Array.replicate_succ, Array.replicate_zero, List.push_toArray, List.append_toArray, List.nil_append, List.cons_append]
  refine wpIn_wide.2 ?_
  go_wp2
  have HB0 := Lib.hid (((Below.refl w.heap.size w).alloc (Nat.le_refl _) (.cells #[.slice none 0 0, .int .i64 0, .int .u32 0, .slice none 0 0] 40)).alloc (by simp) (.cells #[.bool false] 4))
  have X6 := Lib.hid ((Below.heap_alloc (w.alloc (.cells #[.slice none 0 0, .int .i64 0, .int .u32 0, .slice none 0 0] 40)) (.cells #[.bool false] 4) w.heap.size (by simp)).trans (knew w (.cells #[.slice none 0 0, .int .i64 0, .int .u32 0, .slice none 0 0] 40)))
  have X7 := Lib.hid (knew (w.alloc (.cells #[.slice none 0 0, .int .i64 0, .int .u32 0, .slice none 0 0] 40)) (.cells #[.bool false] 4))
  rw [World.size_alloc] at X7
  have HZ0 := Lib.hid (show ((w.alloc (.cells #[.slice none 0 0, .int .i64 0, .int .u32 0, .slice none 0 0] 40)).alloc (.cells #[.bool false] 4)).heap.size = w.heap.size + 2 by simp)
  generalize (w.alloc (.cells #[.slice none 0 0, .int .i64 0, .int .u32 0, .slice none 0 0] 40)).alloc (.cells #[.bool false] 4) = W0 at *
  go_loopw [8, 14] (fun v3 vi wr => ∃ (k : Nat) (ga : Option Addr) (gn gc : Nat) (csw : List (List Value)), v3 = .slice ga gn gc ∧ vi = .int .i64 k ∧ k ≤ n ∧ Hid (OwnC 7 53 wr W0.heap.size (.slice ga gn gc) csw) ∧ Hid (Rcs w csw ((rs.take k).filter (belM o t))) ∧ Hid (Below W0.heap.size W0 wr)) (fun _ vi _ => n - (intOf vi).toNat)
  case atStart => exact ⟨0, none, 0, 0, [], rfl, rfl, Nat.zero_le _, Lib.hid (OwnK.nil _ _), Lib.hid ⟨rfl, fun i a => absurd a (by simp)⟩, Lib.hid (Below.refl _ W0)⟩
  case round =>
    obtain ⟨k, ga, gn, gc, csw, rfl, rfl, hk, HO, HRw, HB⟩ := hrel
    by_cases hlt : k < n
    · have hltz : (k : Int) < (n : Int) := by omega
      have hk1 : k < css.length := by have := HLN.out; omega
      have hk2 : k < rs.length := by have := HDL.out; omega
      have hwr : Below w.heap.size w wr := HB0.out.trans (HB.out.mono (by have := HZ0.out; omega))
      obtain ⟨b, off, rfl, hb, hel⟩ := HA.out.elem HR.out.ck (by omega)
      have h0 := HR.out.2 k hk1 hk2
      have htk := wanted_take (o := o) (t := t) hk2
      have hnk := fun u W => HN.out k u W hk2
      obtain ⟨d, hd⟩ : ∃ d, rs[k]'hk2 = d := ⟨_, rfl⟩
      rw [hd] at h0 htk
      simp only [hd] at hnk
      have hsh := h0.shape
      obtain ⟨⟨p0, q0, k0⟩, ⟨p3, q3, k3⟩, ⟨p4, q4, k4⟩, ⟨p5, q5, k5⟩, ⟨p6, q6, k6⟩, e0⟩ := hsh
      simp only at e0
      obtain ⟨c0', c1, c2, c3, c4, c5, c6⟩ := hel k hk1 _ _ _ _ _ _ _ e0 wr hwr
      have hown0 : NmAt w (.slice p0 q0 k0) d.owner := by
        obtain ⟨_, _, _, _, _, e5, g1, _⟩ := h0
        rw [e0] at e5
        simp only [List.cons.injEq, and_true] at e5
        rw [e5.1]; exact g1
      rw [e0] at h0
      have HD0 := Lib.hid h0
      have HBB := Lib.hid (HB.out.alloc HB.out.size (.cells #[.slice p0 q0 k0, .int .u32 (d.ttl : Int), .int .i64 d.data.ty, .slice p3 q3 k3, .slice p4 q4 k4, .slice p5 q5 k5, .slice p6 q6 k6] 53))
      have HBW := Lib.hid (hwr.alloc hwr.size (.cells #[.slice p0 q0 k0, .int .u32 (d.ttl : Int), .int .i64 d.data.ty, .slice p3 q3 k3, .slice p4 q4 k4, .slice p5 q5 k5, .slice p6 q6 k6] 53))
      have hn := hnk _ _ (hown0.below HBW.out) HBW.out
      have HO1 := Lib.hid (OwnK.below HO.out ((Below.refl _ wr).alloc (Nat.le_refl _) (.cells #[.slice p0 q0 k0, .int .u32 (d.ttl : Int), .int .i64 d.data.ty, .slice p3 q3 k3, .slice p4 q4 k4, .slice p5 q5 k5, .slice p6 q6 k6] 53)))
      have X1 := Lib.hid (knew wr (.cells #[.slice p0 q0 k0, .int .u32 (d.ttl : Int), .int .i64 d.data.ty, .slice p3 q3 k3, .slice p4 q4 k4, .slice p5 q5 k5, .slice p6 q6 k6] 53))
      have HTK := Lib.hid htk
      have HBE := Lib.hid (show belM o t d = (decide (d.data.ty = t) && sameN d.owner o) from rfl)
      generalize belM o t d = res at *
      clear h0 htk hd e0 hown0 hk1 hk2 hel hnk HO HB hwr
      generalize (d.ttl : Int) = tr at *
      generalize d.data.ty = ty at *
      by_cases hty : ty = t
      · subst hty
        have HR1 : Hid (res = sameN d.owner o) := Lib.hid (by rw [HBE.out]; simp)
        clear HBE
        go_wp2_with fail
        refine hn.mono ?_
        rintro e w2 ⟨rfl, hbb2⟩
        have HB2 := Lib.hid (HBB.out.trans (hbb2.mono HBB.out.size))
        have hblk := (hbb2.block wr.heap.size (by simp)).trans X1.out
        have y0 := kcell hblk 0 _ rfl; have y1 := kcell hblk 1 _ rfl; have y2 := kcell hblk 2 _ rfl; have y3 := kcell hblk 3 _ rfl; have y4 := kcell hblk 4 _ rfl; have y5 := kcell hblk 5 _ rfl; have y6 := kcell hblk 6 _ rfl
        have HO2 := Lib.hid (OwnK.below HO1.out hbb2)
        have hz2 := HB2.out.size
        have HTL := Lib.hid (show csw.length ≤ 1048576 by have := HRw.out.1; have h2 := List.length_filter_le (belM o ty) (rs.take k); rw [List.length_take] at h2; omega)
        clear hbb2 hblk hn HBB HO1 X1 c0' c1 c2 c3 c4 c5 c6
        by_cases hs : sameN d.owner o = true
        · rw [hs] at HR1 ⊢
          have HT : Hid ((rs.take (k + 1)).filter (belM o ty) = (rs.take k).filter (belM o ty) ++ [d]) := Lib.hid (by rw [HTK.out, HR1.out]; simp)
          have HRw2 : Hid (Rcs w (csw ++ [[.slice p0 q0 k0, .int .u32 tr, .int .i64 ty, .slice p3 q3 k3, .slice p4 q4 k4, .slice p5 q5 k5, .slice p6 q6 k6]]) ((rs.take (k + 1)).filter (belM o ty))) := Lib.hid (by rw [HT.out]; exact HRw.out.snoc HD0.out)
          clear HTK hs HT HRw HD0 HR1
          go_wp2_with (at_builtin; refine wpl_append_c' w2 rfl (.tmp 29) (.tmp 31) elem_rec (by decide) rfl W0.heap.size (.slice ga gn gc) csw rfl HO2.out [.slice p0 q0 k0, .int .u32 tr, .int .i64 ty, .slice p3 q3 k3, .slice p4 q4 k4, .slice p5 q5 k5, .slice p6 q6 k6] rfl (by intro u hu; simp only [List.mem_cons, List.not_mem_nil, or_false] at hu; rcases hu with rfl | rfl | rfl | rfl | rfl | rfl | rfl <;> rfl) 1 (by rfl) hz2 (by have := HTL.out; unfold maxLen; omega) (by have := HTL.out; omega) ?_; intro v3 w3 hown3 hg3)
          have HB3 := Lib.hid (HB2.out.grown hg3 hz2 (OwnK.base_le HO2.out))
          obtain ⟨a9, c9, e9⟩ := OwnK.shape hown3
          subst e9
          have HO3 := Lib.hid hown3
          generalize List.length (csw ++ _) = m9 at *
          clear hg3 hown3
          go_roundw
          case measure => simp [intOf]; omega
          case rel => exact ⟨k + 1, a9, m9, c9, _, rfl, by go_num, by omega, HO3, HRw2, HB3⟩
        · simp only [Bool.not_eq_true] at hs
          rw [hs] at HR1 ⊢
          have HTK2 : Hid ((rs.take (k + 1)).filter (belM o ty) = (rs.take k).filter (belM o ty)) := Lib.hid (by rw [HTK.out, HR1.out]; simp)
          have HRw2 : Hid (Rcs w csw ((rs.take (k + 1)).filter (belM o ty))) := Lib.hid (by rw [HTK2.out]; exact HRw.out)
          clear HTK HTK2 HR1 HRw hs
          go_wp2
          go_roundw
          case measure => simp [intOf]; omega
          case rel => exact ⟨k + 1, ga, gn, gc, csw, rfl, by go_num, by omega, HO2, HRw2, HB2⟩
      · have hxb : (ty == t) = false := by simpa using hty
        have HR1 : Hid (res = false) := Lib.hid (by rw [HBE.out]; simp [hty])
        clear HBE hn
        have HTK2 : Hid ((rs.take (k + 1)).filter (belM o t) = (rs.take k).filter (belM o t)) := Lib.hid (by rw [HTK.out, HR1.out]; simp)
        have HRw2 : Hid (Rcs w csw ((rs.take (k + 1)).filter (belM o t))) := Lib.hid (by rw [HTK2.out]; exact HRw.out)
        clear HTK HTK2 HR1 HRw
        go_wp2
        go_roundw
        case measure => simp [intOf]; omega
        case rel => exact ⟨k + 1, ga, gn, gc, csw, rfl, by go_num, by omega, HO1, HRw2, HBB⟩
    · obtain rfl : k = n := by omega
      have h := HRw.out
      rw [List.take_of_length_le (by have := HDL.out; omega)] at h
      have HH := Lib.hid h
      clear h HRw
      have hwr : Below w.heap.size w wr := HB0.out.trans (HB.out.mono (by have := HZ0.out; omega))
      have hC := rec_Canon (.slice ga gn gc) csw (rs.filter (belM o t)) wr (SlK.of_own HO.out HH.out.ck) (HH.out.below hwr) (fun r hr => HOK.out r (List.mem_filter.1 hr).1) (by have := HH.out.1; have h2 := List.length_filter_le (belM o t) rs; have := HDL.out; omega)
      have HFL := Lib.hid (show (rs.filter (belM o t)).length ≤ 1048576 by have h2 := List.length_filter_le (belM o t) rs; have := HDL.out; omega)
      have HOKL := Lib.hid (canonM_ok' (rs.filter (belM o t)) (fun r hr => HOK.out r (List.mem_filter.1 hr).1))
      have HOF := Lib.hid (show ofM rs o t = (setsM (canonM (rs.filter (belM o t)))).head? from rfl)
      obtain ⟨L, hL⟩ : ∃ L, canonM (rs.filter (belM o t)) = L := ⟨_, rfl⟩
      unfold CanonPost at hC
      have HLn := Lib.hid (show L.length ≤ 1048576 by rw [← hL]; have := canonM_length (rs.filter (belM o t)); have := HFL.out; omega)
      rw [hL] at hC HOKL HOF
      generalize ofM rs o t = res at *
      clear hwr HH HO HFL hL HN HA HR HOK
      go_wp2_with fail
      refine hC.mono ?_
      rintro e w1 ⟨v2, css2, rfl, ho1, hl1, hf1, hb1⟩
      obtain ⟨a1, c1, rfl⟩ := OwnK.shape ho1
      obtain ⟨m, hm⟩ : ∃ m, css2.length = m := ⟨_, rfl⟩
      rw [hm] at ho1 hl1 ⊢
      have HO1 := Lib.hid ho1; have HL1 := Lib.hid hl1; have HF1 := Lib.hid hf1; have HB1 := Lib.hid hb1; have HM := Lib.hid hm
      clear ho1 hl1 hf1 hb1 hC hm
      go_wp2_with fail
      refine (rset_sets _ _ _ _).mono ?_
      rintro e w2 ⟨rfl, rfl⟩
      go_wp2
      refine (wpIn_wide (n := 8)).1 ?_
      obtain ⟨B, hB⟩ : ∃ B, w.heap.size = B := ⟨_, rfl⟩
      obtain ⟨W2, hW2⟩ : ∃ W2, w1.alloc (.cells #[.slice a1 m c1] 43) = W2 := ⟨_, rfl⟩
      obtain ⟨N, hN⟩ : ∃ N, W2.heap.size = N := ⟨_, rfl⟩
      have hsz : N = w1.heap.size + 1 := by rw [← hN, ← hW2]; simp
      have hs0 : B + 2 ≤ wr.heap.size := by have h1 := HZ0.out; have h2 := HB.out.size; omega
      have hs1 : wr.heap.size ≤ w1.heap.size := HB1.out.size
      have hB12 : Below w1.heap.size w1 W2 := by rw [← hW2]; exact (Below.refl _ w1).alloc (Nat.le_refl _) _
      have hB02 : Below W0.heap.size W0 W2 := (HB.out.trans (HB1.out.mono HB.out.size)).trans (hB12.mono (by have := HB.out.size; omega))
      have hw2 : Below w.heap.size w W2 := HB0.out.trans (hB02.mono (by have := HZ0.out; omega))
      have b1 : Boxed W2 w1.heap.size 43 (.slice a1 m c1) := by rw [← hW2]; exact Boxed.new w1 _ _
      have x6 : W2.heap[B]? = some (.cells #[.slice none 0 0, .int .i64 0, .int .u32 0, .slice none 0 0] 40) := by
        rw [← hB]; exact (hB02.block _ (by have := HZ0.out; omega)).trans X6.out
      have x7 : W2.heap[B + 1]? = some (.cells #[.bool false] 4) := by
        rw [← hB]; exact (hB02.block _ (by have := HZ0.out; omega)).trans X7.out
      have hml : m = L.length := HL1.out
      have hmb : m ≤ 1048576 := by have := HLn.out; omega
      have hm := HM.out
      have hfr : ∀ j (h1 : j < css2.length) (h2 : j < L.length), FrAt W2 (B + 2) css2[j] L[j] := fun j h1 h2 => ((HF1.out j h1 h2).below hB12).weaken hs0
      have hfrK : ∀ W, KpX N B W2 W → ∀ j (h1 : j < css2.length) (h2 : j < L.length), FrAt W (B + 2) css2[j] L[j] := fun W hK j h1 h2 => (hfr j h1 h2).keptX (by omega) (hK.grownX hN.symm)
      have hst : ∀ W, KpX N B W2 W → Rcs W css2 L := fun W hK => ⟨by rw [hm]; exact hml, fun i h1 h2 => (hfrK W hK i h1 h2).rcAt⟩
      have hsl : SlK W2 (.slice a1 m c1) css2 := (SlK.of_own HO1.out (fun cs hc => by
        obtain ⟨i, hi, rfl⟩ := List.mem_iff_getElem.1 hc
        exact (HF1.out i hi (by omega)).rcAt.len)).below hB12
      have hown : ∀ b, (Value.slice a1 m c1).ownBlock = some b → b ≠ B := fun b e => by
        have := OwnK.base_le HO1.out b e
        omega
      obtain ⟨vo, vn, vu, vt, vr, hc⟩ := rcs_shapes (hst W2 (KpX.refl _ _ _))
      have HSEQ := Lib.hid (sets_stops N B W2 a1 m c1 w1.heap.size css2 L vo vn vu vt vr hsl hm hmb hst HOKL.out hN.symm (by omega) (by omega) hown b1 hc)
      rw [hB, hW2]
      have HSZ := Lib.hid hsz; have HS0 := Lib.hid hs0; have HS1 := Lib.hid hs1; have HW2 := Lib.hid hw2; have HBb := Lib.hid hB; have HN := Lib.hid hN; have HFK := Lib.hid hfrK; have HCC := Lib.hid hc; have Y6 := Lib.hid x6; have Y7 := Lib.hid x7; have HML := Lib.hid hml
      clear hsz hs0 hs1 hw2 hB hN hst hmb hc hfr hsl hown hml HF1 HO1 HB1 hm hfrK x6 x7 hB12 hB02 b1 hW2 HB HB0 X6 X7
      refine wpIn_rangeFunc_D rfl (by omega) (gf := 36) (lb := #[.pointer (some ⟨w1.heap.size, 0, none⟩)]) rfl trivial (enters_of Try.func36 (by kernel_rfl) rfl)
        HSEQ.out (fun h k => h.trans k)
        (fun W l o o' hl h h1 h2 => ⟨rfl, rfl, rfl, by simp, fun k a b => World.putObj_heap_other (by have := HN.out; omega)⟩) (Below.refl _ _) (fun _ => rfl)
        (OfI N B W2) (OfX N B w css2 vo L) (by rw [HN.out]; exact ofI_own (by have := HSZ.out; have := HS0.out; have := HS1.out; omega) (by rw [HN.out]; omega)) (fun c => by rw [HN.out]; exact ofX_own c (by have := HSZ.out; have := HS0.out; have := HS1.out; omega) (by have := HSZ.out; have := HS0.out; have := HS1.out; have := HBb.out; omega))
        ⟨rfl, KpX.refl _ _ _, Y6.out⟩
        (fun x a' W => ∃ b, a' = { tmps := #[.slice v1 k c, .slice ao qo co, .int .i64 t, undef, undef, undef, .pointer (some ⟨B, 0, none⟩), .pointer (some ⟨B + 1, 0, none⟩), .slice ga gn gc, undef, u10, .pointer (some ⟨b, 0, none⟩), .slice v1 k c, .int .i64 k, .int .i64 k, .bool false, u16, u17, u18, u19, u20, u21, u22, u23, u24, u25, u26, u27, u28, u29, u30, u31, u32, u33, .slice ga gn gc, .slice a1 m c1, .func (.func 36) #[] #[.pointer (some ⟨w1.heap.size, 0, none⟩)], .agg (setC vo L x).toArray, undef, undef], defers := [] } ∧ W2.heap.size ≤ b ∧ W.heap[b]? = some (.cells (setC vo L x).toArray 40) ∧ DatO N css2 x W)
        (fun a' x W W' row ⟨b, ha, hb, hx, hd⟩ hg hr => ⟨b, ha, hb, (hg.block b (kblock_lt hx) (fun e => by obtain ⟨_, o, ho, hcell⟩ := hr b e.symm; rw [hx] at ho; cases ho; cases hcell)).trans hx, hd.keptO hg (fun r e => (hr r e).2)⟩) ?assign ?body ?done ?stop
      case assign =>
        intro l pre x W K hi hd hK
        have hNW : N ≤ W.heap.size := by rw [← HN.out]; exact hi.2.1.size
        have hbA : ∀ o, Below W.heap.size W (W.alloc o) := fun o => (Below.refl _ W).alloc (Nat.le_refl _) o
        unfold setV
        gi_wp2
        exact hK _ _ ((KeepsOthers.of_below (hbA _)).from _) (KpX.of_below hNW (hbA _)) ⟨hi.1, hi.2.1.trans (KpX.of_below hNW (hbA _)), ((hbA _).block B (kblock_lt hi.2.2)).trans hi.2.2⟩ ⟨W.heap.size, rfl, by rw [HN.out]; exact hNW, knew W _, OwnK.below hd (hbA _)⟩
      case body =>
        rintro l pre x a' W ⟨rfl, hK, hx6⟩ ⟨b, rfl, hb, hbx, hdx⟩ hlt
        have hNW : N ≤ W.heap.size := by rw [← HN.out]; exact hK.size
        have hBN : B + 2 ≤ N := by have := HSZ.out; have := HS0.out; have := HS1.out; omega
        have hx7 : W.heap[B + 1]? = some (.cells #[.bool false] 4) := (hK.block (B + 1) (by omega) (by omega)).trans Y7.out
        have hfr := HFK.out W hK
        have hww : Below w.heap.size w W := HW2.out.trans (hK.below (by have := HBb.out; omega) (by have := HBb.out; omega))
        have hcs : ∃ p0 q0 k0 t1 t2 p3 q3 k3, setC vo L x = [.slice p0 q0 k0, .int .i64 t1, .int .u32 t2, .slice p3 q3 k3] := ⟨_, _, _, _, _, _, _, _, rfl⟩
        obtain ⟨p0, q0, k0, t1, t2, p3, q3, k3, ecs⟩ := hcs
        have HEC := Lib.hid ecs
        rw [ecs] at hbx
        have y0 := kcell hbx 0 _ rfl; have y1 := kcell hbx 1 _ rfl; have y2 := kcell hbx 2 _ rfl; have y3 := kcell hbx 3 _ rfl
        have z0 := kcell hx6 0 _ rfl; have z1 := kcell hx6 1 _ rfl; have z2 := kcell hx6 2 _ rfl; have z3 := kcell hx6 3 _ rfl; have z4 := kcell hx7 0 _ rfl
        have f0 := kfrozen hx6 0; have f1 := kfrozen hx6 1; have f2 := kfrozen hx6 2; have f3 := kfrozen hx6 3; have f4 := kfrozen hx7 0
        have HD := Lib.hid hdx; have HF := Lib.hid hfr; have HWW := Lib.hid hww; have HX6 := Lib.hid hx6; have HX7 := Lib.hid hx7; have HNW := Lib.hid hNW
        rw [ecs]
        clear hbx hdx hfr hww hx6 hx7 ecs hNW HSEQ hK
        gi_wp2
        exact ⟨(((((KeepsOthers.setCell _ _ _).trans (KeepsOthers.setCell _ _ _)).trans (KeepsOthers.setCell _ _ _)).trans (KeepsOthers.setCell _ _ _)).trans (KeepsOthers.setCell _ _ _)).from _, of_fin HEC.out HX6.out HX7.out HD.out HF.out HWW.out (by rw [HBb.out]; exact Nat.le_refl _)⟩
      case done =>
        rintro d xs W hd hxs ⟨rfl, hK, hx6⟩ hD0
        have hDN : N ≤ d := by rw [HN.out] at hd; exact hd
        have hBN : B + 2 ≤ N := by have := HSZ.out; have := HS0.out; have := HS1.out; omega
        have hx7 : W.heap[B + 1]? = some (.cells #[.bool false] 4) := (hK.block (B + 1) (by omega) (by omega)).trans Y7.out
        have hww : Below w.heap.size w W := HW2.out.trans (hK.below (by have := HBb.out; omega) (by have := HBb.out; omega))
        have HRES : Hid (res = none) := Lib.hid (by
          rw [HOF.out, ← segs_sets, ← hxs]; rfl)
        have hBw : w.heap.size ≤ B := by rw [HBb.out]; exact Nat.le_refl _
        have z0 := kcell hx6 0 _ rfl; have z1 := kcell hx6 1 _ rfl; have z2 := kcell hx6 2 _ rfl; have z3 := kcell hx6 3 _ rfl; have z4 := kcell hx7 0 _ rfl
        have f0 := kfrozen hx6 0; have f1 := kfrozen hx6 1; have f2 := kfrozen hx6 2; have f3 := kfrozen hx6 3; have f4 := kfrozen hx7 0
        obtain ⟨W5, hW5, k6, k7, k8, k9⟩ := of_zero hx6 hx7 hww hBw hD0 (by omega) (by omega)
        have e6 : (W5.putObj d (.deferred none)).heap[B]? = _ := (World.putObj_heap_other (by omega)).trans k6
        have e7 : (W5.putObj d (.deferred none)).heap[B + 1]? = _ := (World.putObj_heap_other (by omega)).trans k7
        have HWW : Hid (Below w.heap.size w (W5.putObj d (.deferred none))) := Lib.hid (below_putO k8 (show w.heap.size ≤ d by omega) (Nat.le_refl _))
        have c0 := kcell e6 0 _ rfl; have c1' := kcell e6 1 _ rfl; have c2 := kcell e6 2 _ rfl; have c3 := kcell e6 3 _ rfl; have c4 := kcell e7 0 _ rfl
        have HC0 := Lib.hid c0; have HC1 := Lib.hid c1'; have HC2 := Lib.hid c2; have HC3 := Lib.hid c3; have HC4 := Lib.hid c4
        have HW5 := Lib.hid hW5; have HK9 := Lib.hid k9
        clear hx6 hx7 hK e6 e7 c0 c1' c2 c3 c4 hww hxs hW5 k6 k7 k8 k9 hD0
        go_wp2
        rw [HW5.out]
        refine ⟨by simp, .inl ⟨_, _, rfl, run_takeDeferred HK9.out, ?_⟩⟩
        refine ⟨_, results_set rfl _ _ rfl rfl rfl rfl rfl rfl rfl HC0.out HC1.out HC2.out HC3.out HC4.out, ?_⟩
        rw [HRES.out]
        exact ⟨_, rfl, setR_zero _, HWW.out⟩
      case stop =>
        rintro d c3 pre W hd hp hX hK
        obtain ⟨rfl, x, rfl, hww, hx6, hx7, hdx, hfr⟩ := hX
        have hcs : ∃ p0 q0 k0 t1 t2 p3 q3 k3, setC vo L x = [.slice p0 q0 k0, .int .i64 t1, .int .u32 t2, .slice p3 q3 k3] := ⟨_, _, _, _, _, _, _, _, rfl⟩
        obtain ⟨p0, q0, k0, t1, t2, p3, q3, k3, ecs⟩ := hcs
        have HEC := Lib.hid ecs
        rw [ecs] at hx6
        have hr : ∀ r, some d = some r → ∃ o : Obj, W.heap[r]? = some o ∧ o.isCells = false := fun r e => by cases e; exact ⟨_, hK, rfl⟩
        have hg := grownBy_putObj' W d (.deferred none)
        have hDN : N ≤ d := by rw [HN.out] at hd; exact hd
        have hBN : B + 2 ≤ N := by have := HSZ.out; have := HS0.out; have := HS1.out; omega
        have e6 : (W.putObj d (.deferred none)).heap[B]? = _ := (World.putObj_heap_other (by omega)).trans hx6
        have e7 : (W.putObj d (.deferred none)).heap[B + 1]? = _ := (World.putObj_heap_other (by omega)).trans hx7
        have HS : Hid (SetR (W.putObj d (.deferred none)) (setC vo L x) (setR L x.1.1)) := Lib.hid (setR_of HM.out ⟨by rw [HM.out]; exact HML.out, fun j h1 h2 => ((hfr j h1 h2).keptO hg hr).rcAt⟩ HCC.out x (OwnC.keptO hdx hg hr))
        have HRES : Hid (res = some (setR L x.1.1)) := Lib.hid (by
          obtain ⟨t', ht'⟩ := hp
          rw [HOF.out, ← segs_sets, ← ht']; rfl)
        have HWW : Hid (Below w.heap.size w (W.putObj d (.deferred none))) := Lib.hid (below_putO hww (show w.heap.size ≤ d by have := HBb.out; omega) (Nat.le_refl _))
        rw [HEC.out] at HS
        have c0 := kcell e6 0 _ rfl; have c1' := kcell e6 1 _ rfl; have c2 := kcell e6 2 _ rfl; have c3 := kcell e6 3 _ rfl; have c4 := kcell e7 0 _ rfl
        have HC0 := Lib.hid c0; have HC1 := Lib.hid c1'; have HC2 := Lib.hid c2; have HC3 := Lib.hid c3; have HC4 := Lib.hid c4
        clear hx6 hx7 hdx hfr ecs hr hg e6 e7 c0 c1' c2 c3 c4 hww
        gi_wp2
        refine ⟨by simp, .inl ⟨_, _, rfl, run_takeDeferred hK, ?_⟩⟩
        refine ⟨_, results_set rfl _ _ rfl rfl rfl rfl rfl rfl rfl HC0.out HC1.out HC2.out HC3.out HC4.out, ?_⟩
        rw [HRES.out]
        exact ⟨_, rfl, HS.out, HWW.out⟩
end
end Go.Proofs.Ytfcdajldpnomfaa

/-
  ref.SameData, ref.SameDatas. (Written by wip/tools/gensetj.py.)
-/
namespace Go.Proofs.Ytfcdajldpnomfaa
open Go.RowKit Go.Shelf
set_option maxRecDepth 20000
set_option linter.unusedVariables false
set_option linter.unusedSimpArgs false

theorem dt_shapeV {W : World} {v : Value} {d : Dat} (h : DatAt W v d) : ∃ x3 x4 x5 x6 : Option Addr × Nat × Nat, v = .agg #[.int .i64 d.ty, .slice x3.1 x3.2.1 x3.2.2, .slice x4.1 x4.2.1 x4.2.2, .slice x5.1 x5.2.1 x5.2.2, .slice x6.1 x6.2.1 x6.2.2] := by
  obtain ⟨un, uu, ut, ur, e, h2⟩ := id h
  obtain ⟨x3, x4, x5, x6, e'⟩ := dt_shape (cs := [.int .i64 d.ty, un, uu, ut, ur]) (by subst e; exact h)
  refine ⟨x3, x4, x5, x6, ?_⟩
  rw [e, ← e']
set_option maxRecDepth 100000 in
set_option maxHeartbeats 8000000 in
theorem ref_SameData (v u : Value) (a b : Dat) (w : World) (hA : DatAt w v a) (hU : DatAt w u b) (hk : DatOK a) (hk2 : DatOK b) :
    Calls Try.prog 20 #[v, u] w fun e w' => e = .returned (.bool (compareD a b == 0)) ∧ Below w.heap.size w w' := by
  obtain ⟨x3, x4, x5, x6, e0⟩ := dt_shapeV hA
  obtain ⟨y3, y4, y5, y6, e1⟩ := dt_shapeV hU
  obtain ⟨p3, q3, r3⟩ := x3; obtain ⟨p4, q4, r4⟩ := x4; obtain ⟨p5, q5, r5⟩ := x5; obtain ⟨p6, q6, r6⟩ := x6
  obtain ⟨s3, t3, z3⟩ := y3; obtain ⟨s4, t4, z4⟩ := y4; obtain ⟨s5, t5, z5⟩ := y5; obtain ⟨s6, t6, z6⟩ := y6
  subst e0 e1
  have hb : Below w.heap.size w ((w.alloc (.cells #[.int .i64 a.ty, .slice p3 q3 r3, .slice p4 q4 r4, .slice p5 q5 r5, .slice p6 q6 r6] 34)).alloc (.cells #[.int .i64 b.ty, .slice s3 t3 z3, .slice s4 t4 z4, .slice s5 t5 z5, .slice s6 t6 z6] 34)) := ((Below.refl _ w).alloc (Nat.le_refl _) _).alloc (by simp) _
  have hc := ref_CompareData _ _ a b _ (hA.below hb) (hU.below hb) hk hk2
  have HB := Lib.hid hb
  clear hA hU hk hk2 hb
  generalize compareD a b = q at *
  generalize a.ty = ta at *
  generalize b.ty = tb at *
  go_enter Try.func20, Try.ntmps20
  go_wp2_with fail
  refine hc.mono ?_
  rintro e w1 ⟨rfl, hb1⟩
  go_wp2
  go_ret
  exact ⟨rfl, HB.out.trans (hb1.mono HB.out.size)⟩
set_option maxRecDepth 100000 in
set_option maxHeartbeats 8000000 in
theorem ref_SameDatas (v u : Value) (css ess : List (List Value)) (l m : List Dat) (w : World) (hA : SlK w v css) (hR : Dts w css l) (hU : SlK w u ess) (hS : Dts w ess m) (hOK : ∀ r ∈ l, DatOK r) (hOK2 : ∀ r ∈ m, DatOK r) (hl : css.length ≤ 1048576) (hl2 : ess.length ≤ 1048576) :
    Calls Try.prog 9 #[v, u] w fun e w' => e = .returned (.bool (sameDsM l m)) ∧ Below w.heap.size w w' := by
  obtain ⟨a, c, rfl, hc1, hc2, hx⟩ := id hA
  obtain ⟨b, d, rfl, hd1, hd2, hy⟩ := id hU
  obtain ⟨n, hn⟩ : ∃ n, css.length = n := ⟨_, rfl⟩
  obtain ⟨n2, hn2⟩ : ∃ n, ess.length = n := ⟨_, rfl⟩
  have HSA := Lib.hid hA; have HSU := Lib.hid hU; have HR := Lib.hid hR; have HS := Lib.hid hS; have HOK := Lib.hid hOK; have HOK2 := Lib.hid hOK2
  rw [hn] at HSA hc1 hl ⊢
  rw [hn2] at HSU hd1 hl2 ⊢
  have HN := Lib.hid hn; have HN2 := Lib.hid hn2
  have HLA := Lib.hid (show l.length = n by rw [← hn]; exact hR.1.symm)
  have HLB := Lib.hid (show m.length = n2 by rw [← hn2]; exact hS.1.symm)
  obtain ⟨res, hres⟩ : ∃ r, sameDsM l m = r := ⟨_, rfl⟩
  rw [hres]
  have HRES := Lib.hid hres
  clear hA hU hR hS hOK hOK2 hc2 hx hd2 hy hn hn2 hres
  by_cases hnn : n = n2
  · subst hnn
    have HB0 : Hid (Below w.heap.size w w) := Lib.hid (Below.refl _ _)
    go_enter Try.func9, Try.ntmps9
    go_wp2
    go_loopw [5] (fun vi wr => ∃ (k : Nat), vi = .int .i64 k ∧ k ≤ n ∧ Hid (res = sameDsM (l.drop k) (m.drop k)) ∧ Hid (Below w.heap.size w wr)) (fun vi _ => n - (intOf vi).toNat)
    case atStart => exact ⟨0, rfl, Nat.zero_le _, Lib.hid HRES.out.symm, HB0⟩
    case round =>
      obtain ⟨k, rfl, hk, HC, HB⟩ := hrel
      by_cases hlt : k < n
      · have hltz : (k : Int) < (n : Int) := by omega
        have hk1 : k < css.length := by have := HN.out; omega
        have hk2 : k < ess.length := by have := HN2.out; omega
        have hk3 : k < l.length := by have := HLA.out; omega
        have hk4 : k < m.length := by have := HLB.out; omega
        obtain ⟨ga, oa, rfl, hga, hea⟩ := HSA.out.elem5 HR.out.ck (by omega)
        obtain ⟨gb, ob, rfl, hgb, heb⟩ := HSU.out.elem5 HS.out.ck (by omega)
        have h0 := (HR.out.2 k hk1 hk3).2
        have h1 := (HS.out.2 k hk2 hk4).2
        have hok := HOK.out _ (List.getElem_mem hk3)
        have hok2 := HOK2.out _ (List.getElem_mem hk4)
        have hst := sameDsM_step k hk3 hk4
        obtain ⟨ra, hra⟩ : ∃ r, l[k]'hk3 = r := ⟨_, rfl⟩
        obtain ⟨rb, hrb⟩ : ∃ r, m[k]'hk4 = r := ⟨_, rfl⟩
        rw [hra] at h0 hok hst
        rw [hrb] at h1 hok2 hst
        clear hra hrb
        have htw := fun W (hb : Below w.heap.size w W) => ref_SameData _ _ _ _ W (h0.below hb) (h1.below hb) hok hok2
        obtain ⟨⟨p3, q3, r3⟩, ⟨p4, q4, r4⟩, ⟨p5, q5, r5⟩, ⟨p6, q6, r6⟩, e0⟩ := dt_shape h0
        obtain ⟨⟨p3', q3', r3'⟩, ⟨p4', q4', r4'⟩, ⟨p5', q5', r5'⟩, ⟨p6', q6', r6'⟩, e1⟩ := dt_shape h1
        simp only at e0 e1
        have f0 := fun p : WIn (fun W => Below w.heap.size w W) => hea k hk1 _ _ _ _ _ e0 p.w p.ok
        have f1 := fun p : WIn (fun W => Below w.heap.size w W) => heb k hk2 _ _ _ _ _ e1 p.w p.ok
        have g0 := fun p => (f0 p).1; have g1 := fun p => (f0 p).2.1; have g2 := fun p => (f0 p).2.2.1; have g3 := fun p => (f0 p).2.2.2.1; have g4 := fun p => (f0 p).2.2.2.2
        have j0 := fun p => (f1 p).1; have j1 := fun p => (f1 p).2.1; have j2 := fun p => (f1 p).2.2.1; have j3 := fun p => (f1 p).2.2.2.1; have j4 := fun p => (f1 p).2.2.2.2
        rw [e0, e1] at htw
        obtain ⟨tw, htw'⟩ : ∃ t, (compareD ra rb == 0) = t := ⟨_, rfl⟩
        rw [htw'] at htw hst
        have hcg := fun p : WIn (fun W => Below w.heap.size w W) => Calls.cls (C := fun W => Below w.heap.size w W) ((htw p.w p.ok).mono fun _ _ ⟨hq, hb⟩ => ⟨hq, p.ok.trans (hb.mono p.ok.size)⟩)
        have HC2 : Hid (res = (tw && sameDsM (l.drop (k + 1)) (m.drop (k + 1)))) := Lib.hid (by rw [HC.out, hst])
        have hne : Nonempty (WIn (fun W => Below w.heap.size w W)) := ⟨⟨_, HB.out⟩⟩
        have hbd : Below w.heap.size w wr.drew := HB.out.trans ⟨rfl, rfl, rfl, Nat.le_refl _, fun _ _ => rfl⟩
        clear h0 h1 hok hok2 htw hst e0 e1 htw' hea heb hk1 hk2 hk3 hk4 f0 f1 HC
        cases tw
        · have HE : Hid (res = false) := Lib.hid (by rw [HC2.out]; rfl)
          clear HC2
          go_wp2_with fail
          refine wp_region_cls (fun W => Below w.heap.size w W) follows_mixed (by kernel_rfl) hbd ?_
          repeat (go_big_quiet_step (exact hcg _))
          refine wpQuiet_nil ?_
          rintro _ ⟨p, rfl⟩
          have HB2 := Lib.hid p.ok
          clear g0 g1 g2 g3 g4 j0 j1 j2 j3 j4 hcg
          go_wp2
          go_ret
          exact ⟨by rw [HE.out]; rfl, HB2.out⟩
        · have HE : Hid (res = sameDsM (l.drop (k + 1)) (m.drop (k + 1))) := Lib.hid (by rw [HC2.out]; rfl)
          clear HC2
          go_wp2_with fail
          refine wp_region_cls (fun W => Below w.heap.size w W) follows_mixed (by kernel_rfl) hbd ?_
          repeat (go_big_quiet_step (exact hcg _))
          refine wpQuiet_nil ?_
          rintro _ ⟨p, rfl⟩
          have HB2 := Lib.hid p.ok
          clear g0 g1 g2 g3 g4 j0 j1 j2 j3 j4 hcg
          go_wp2
          go_roundw
          case measure => simp [intOf]; omega
          case rel => exact ⟨k + 1, by go_num, by omega, HE, HB2⟩
      · obtain rfl : k = n := by omega
        have HE : Hid (res = true) := Lib.hid (by
          rw [HC.out, List.drop_of_length_le (by have := HLA.out; omega), List.drop_of_length_le (by have := HLB.out; omega)]; rfl)
        clear HC
        go_wp2
        go_ret
        exact ⟨by rw [HE.out]; rfl, HB.out⟩
  · have hz : ¬ (n : Int) = (n2 : Int) := by omega
    have hzb : ((n : Int) != (n2 : Int)) = true := by simpa using hz
    have HE : Hid (res = false) := Lib.hid (by rw [← HRES.out]; exact sameDsM_len _ _ (by have := HLA.out; have := HLB.out; omega))
    go_enter Try.func9, Try.ntmps9
    go_wp2
    go_ret
    exact ⟨by rw [HE.out]; rfl, Below.refl _ _⟩

end Go.Proofs.Ytfcdajldpnomfaa

/-
  law6.known holds.
-/
namespace Go.Proofs.Ytfcdajldpnomfaa
open Go.RowKit Go.Shelf
set_option maxRecDepth 20000
set_option linter.unusedVariables false
set_option linter.unusedSimpArgs false
def knA1 : Dat := ⟨1, [], [], [], [2, 2, 2, 2]⟩
def knA2 : Dat := ⟨1, [], [], [], [1, 1, 1, 1]⟩
def knA3 : Dat := ⟨2, [[[120]]], [], [], []⟩
def knR1 : Rc := ⟨[[97]], 9, knA1⟩
def knR2 : Rc := ⟨[[97]], 5, knA2⟩
def knR3 : Rc := ⟨[[97]], 7, knA3⟩
theorem kn_sets : setsM (canonM [knR1, knR2, knR3]) = [⟨[[97]], 1, 5, [knA2, knA1]⟩, ⟨[[97]], 2, 7, [knA3]⟩] := by rfl
theorem kn_of1 : ofM [knR1, knR2, knR3] [[65]] 1 = some ⟨[[97]], 1, 5, [knA2, knA1]⟩ := by rfl
theorem kn_of5 : ofM [knR1, knR2, knR3] [[97]] 5 = none := by rfl
theorem kn_types : typesM [[97]] [knR1, knR2, knR3] = [1, 2] := by
  have e : tysM [[97]] [knR1, knR2, knR3] = [1, 1, 2] := by rfl
  unfold typesM
  rw [e, List.mergeSort_of_pairwise (by decide)]
  decide
theorem kn_targets : targetsM 2 [knA3] = [[[120]]] := by rfl
theorem kn_equal : sameDsM [knA2, knA1] [knA2, knA1] = true := sameDsM_self _
theorem kn_unequal : sameDsM [knA2, knA1] [knA3] = false := by decide
theorem knA1_ok : DatOK knA1 := ⟨⟨by decide, by decide⟩, by decide, (fun n h => by cases h), by decide, (fun n h => by cases h), ⟨by decide, (fun n h => by cases h)⟩, by decide⟩
theorem knA2_ok : DatOK knA2 := ⟨⟨by decide, by decide⟩, by decide, (fun n h => by cases h), by decide, (fun n h => by cases h), ⟨by decide, (fun n h => by cases h)⟩, by decide⟩
theorem knA3_ok : DatOK knA3 := ⟨⟨by decide, by decide⟩, by decide, (fun n h => by simp only [knA3, List.mem_singleton] at h; subst h; exact ⟨by decide, by decide⟩), by decide, (fun n h => by cases h), ⟨by decide, (fun n h => by cases h)⟩, by decide⟩
theorem kn_ok : ∀ r ∈ [knR1, knR2, knR3], RcOK r := by
  intro r hr
  simp only [List.mem_cons, List.not_mem_nil, or_false] at hr
  rcases hr with rfl | rfl | rfl
  · exact ⟨⟨by decide, by decide⟩, by decide, knA1_ok⟩
  · exact ⟨⟨by decide, by decide⟩, by decide, knA2_ok⟩
  · exact ⟨⟨by decide, by decide⟩, by decide, knA3_ok⟩
/-- A row of records. -/
def RowC (W : World) (v : Value) (l : List Rc) : Prop := ∃ css, SlK W v css ∧ Rcs W css l
theorem RowC.below {W W' : World} {v : Value} {l : List Rc} (h : RowC W v l) (hb : Below W.heap.size W W') : RowC W' v l := by
  obtain ⟨css, h1, h2⟩ := h
  exact ⟨css, h1.below hb, h2.below hb⟩
theorem RowS.below {W W' : World} {v : Value} {l : List St} (h : RowS W v l) (hb : Below W.heap.size W W') : RowS W' v l := by
  obtain ⟨csd, h1, h2, h3⟩ := h
  exact ⟨csd, h1.below hb, h2, fun j a b => (h3 j a b).below hb⟩
theorem RowS.shape {W : World} {v : Value} {l : List St} (h : RowS W v l) : ∃ a c, v = .slice a l.length c := by
  obtain ⟨csd, ⟨a, c, e, _⟩, h2, _⟩ := h
  exact ⟨a, c, by rw [e, h2]⟩
/-- A set of such a row: its cells. -/
theorem RowS.elem {W : World} {a : Option Addr} {n c : Nat} {l : List St} (h : RowS W (.slice a n c) l) (h0 : 0 < l.length) : ∃ b off, a = some ⟨b, off, none⟩ ∧ b < W.heap.size ∧
    ∀ k (hk : k < l.length), ∃ (x0 x3 : Option Addr × Nat × Nat), SetR W [.slice x0.1 x0.2.1 x0.2.2, .int .i64 l[k].ty, .int .u32 (l[k].ttl : Int), .slice x3.1 l[k].data.length x3.2.2] l[k] ∧
      ∀ W', Below W.heap.size W W' → W'.cell? ⟨b, off + k * 4, none⟩ = some (.slice x0.1 x0.2.1 x0.2.2) ∧ W'.cell? ⟨b, off + k * 4 + 1, none⟩ = some (.int .i64 l[k].ty) ∧ W'.cell? ⟨b, off + k * 4 + 2, none⟩ = some (.int .u32 (l[k].ttl : Int)) ∧ W'.cell? ⟨b, off + k * 4 + 3, none⟩ = some (.slice x3.1 l[k].data.length x3.2.2) := by
  obtain ⟨csd, h1, h2, h3⟩ := h
  obtain ⟨b, off, e, hb, hel⟩ := h1.elem4 (fun cs hc => by
    obtain ⟨i, hi, rfl⟩ := List.mem_iff_getElem.1 hc
    obtain ⟨x0, x3, ds, e, _⟩ := h3 i hi (by omega)
    rw [e]; rfl) (by omega)
  refine ⟨b, off, e, hb, fun k hk => ?_⟩
  have hk1 : k < csd.length := by omega
  have hs := h3 k hk1 hk
  obtain ⟨x0, x3, ds, e2, q1, q2, q3, q4⟩ := id hs
  have hl : x3.2.1 = l[k].data.length := by
    obtain ⟨_, _, e3, _⟩ := id q2
    injection e3 with _ e3 _
    rw [e3, q3]
  rw [hl] at e2
  rw [e2] at hs
  exact ⟨x0, x3, hs, fun W' hB => hel k hk1 _ _ _ _ e2 W' hB⟩
/-- What a set in memory is to rset.Targets and rset.Equal. -/
theorem SetR.dts {W : World} {x0 x3 : Option Addr × Nat × Nat} {y t : Int} {n : Nat} {s : St} (h : SetR W [.slice x0.1 x0.2.1 x0.2.2, .int .i64 y, .int .u32 t, .slice x3.1 n x3.2.2] s) : ∃ ds, SlK W (.slice x3.1 n x3.2.2) ds ∧ Dts W ds s.data ∧ n = s.data.length := by
  obtain ⟨z0, z3, ds, e, q1, q2, q3, q4⟩ := h
  simp only [List.cons.injEq, and_true] at e
  obtain ⟨-, -, -, e3⟩ := e
  rw [← e3] at q2
  refine ⟨ds, q2, ⟨q3, q4⟩, ?_⟩
  obtain ⟨_, _, e4, _⟩ := id q2
  injection e4 with _ e4 _
  rw [e4, q3]
theorem SetR.shape {W : World} {cs : List Value} {s : St} (h : SetR W cs s) : ∃ (x0 x3 : Option Addr × Nat × Nat), cs = [.slice x0.1 x0.2.1 x0.2.2, .int .i64 s.ty, .int .u32 (s.ttl : Int), .slice x3.1 s.data.length x3.2.2] := by
  obtain ⟨x0, x3, ds, e, q1, q2, q3, q4⟩ := h
  refine ⟨x0, x3, ?_⟩
  rw [e]
  obtain ⟨_, _, e4, _⟩ := id q2
  injection e4 with _ e4 _
  rw [e4, q3]
theorem row_Sets (v : Value) (l : List Rc) (w : World) (h : RowC w v l) (hOK : ∀ r ∈ l, RcOK r) (hl : l.length ≤ 1048576) : Calls Try.prog 11 #[v] w (SetsPost w (setsM (canonM l))) := by
  obtain ⟨css, h1, h2⟩ := h
  exact rset_Sets v css l w h1 h2 hOK (by rw [h2.1]; exact hl)
theorem row_Of (v vo : Value) (o : Nm) (t : Int) (l : List Rc) (w : World) (h : RowC w v l) (hO : NmAt w vo o) (hko : NmOK o) (hOK : ∀ r ∈ l, RcOK r) (hl : l.length ≤ 1048576) : Calls Try.prog 12 #[v, vo, .int .i64 t] w (OfPost w (ofM l o t)) := by
  obtain ⟨css, h1, h2⟩ := h
  obtain ⟨a, c, rfl, _⟩ := id h1
  exact rset_Of a _ c vo o t css l w h1 h2 hOK hO hko (by rw [h2.1]; exact hl)
theorem row_Types (v vo : Value) (o : Nm) (l : List Rc) (w : World) (h : RowC w v l) (hO : NmAt w vo o) (hko : NmOK o) (hOK : ∀ r ∈ l, RcOK r) (hl : l.length ≤ 1048576) : Calls Try.prog 13 #[v, vo] w (TyPost w (typesM o l)) := by
  obtain ⟨css, h1, h2⟩ := h
  obtain ⟨a, c, rfl, _⟩ := id h1
  exact rset_Types a _ c vo o css l w h1 h2 hOK hO hko (by rw [h2.1]; exact hl)
theorem knewD (W : World) (o : Obj) : ((W.alloc o).drew).heap[W.heap.size]? = some o := knew W o
theorem kn_six (w W : World) (o0 o1 o2 o3 o4 o5 : Obj) (hW : (((((w.alloc o0).alloc o1).alloc o2).alloc o3).alloc o4).alloc o5 = W) :
    W.heap[w.heap.size]? = some o0 ∧ W.heap[w.heap.size + 1]? = some o1 ∧ W.heap[w.heap.size + 1 + 1]? = some o2 ∧ W.heap[w.heap.size + 1 + 1 + 1]? = some o3 ∧ W.heap[w.heap.size + 1 + 1 + 1 + 1]? = some o4 ∧ W.heap[w.heap.size + 1 + 1 + 1 + 1 + 1]? = some o5 ∧ Below w.heap.size w W := by
  subst hW
  have step : ∀ (X : World) (k : Nat) (o o' : Obj), X.heap[k]? = some o → (X.alloc o').heap[k]? = some o := fun X k o o' h => (Below.heap_alloc X o' k (kblock_lt h)).trans h
  have new : ∀ (X : World) (o : Obj) (k : Nat), X.heap.size = k → (X.alloc o).heap[k]? = some o := fun X o k h => by subst h; exact knew X o
  refine ⟨step _ _ _ _ (step _ _ _ _ (step _ _ _ _ (step _ _ _ _ (step _ _ _ _ (new _ _ _ rfl))))), step _ _ _ _ (step _ _ _ _ (step _ _ _ _ (step _ _ _ _ (new _ _ _ (by simp))))), step _ _ _ _ (step _ _ _ _ (step _ _ _ _ (new _ _ _ (by simp)))), step _ _ _ _ (step _ _ _ _ (new _ _ _ (by simp))), step _ _ _ _ (new _ _ _ (by simp)), new _ _ _ (by simp), ?_⟩
  exact (((((((Below.refl _ w).alloc (Nat.le_refl _) _).alloc (by simp) _).alloc (by simp; omega) _).alloc (by simp; omega) _).alloc (by simp; omega) _).alloc (by simp; omega) _)
set_option maxRecDepth 100000 in
set_option maxHeartbeats 16000000 in
theorem law6_known (w : World) :
    Calls Try.prog 5 #[] w fun e w' => e = .returned (.bool true) ∧ Below w.heap.size w w' := by
  go_enter Try.func5, Try.ntmps5
  go_wp2_with fail
  obtain ⟨n, hn⟩ : ∃ n, w.heap.size = n := ⟨_, rfl⟩
  obtain ⟨W, hW⟩ : ∃ W, (((((w.alloc (.cells #[.string ⟨#[97]⟩] 9)).alloc (.cells #[.int .u8 2, .int .u8 2, .int .u8 2, .int .u8 2] 5)).alloc (.cells #[.int .u8 1, .int .u8 1, .int .u8 1, .int .u8 1] 5)).alloc (.cells #[.string ⟨#[120]⟩] 9)).alloc (.cells #[.slice (some ⟨n + 1 + 1 + 1, 0, none⟩) 1 1] 38)).alloc (.cells #[.slice (some ⟨n, 0, none⟩) 1 1, .int .u32 9, .int .i64 1, .slice none 0 0, .slice none 0 0, .slice none 0 0, .slice (some ⟨n + 1, 0, none⟩) 4 4, .slice (some ⟨n, 0, none⟩) 1 1, .int .u32 5, .int .i64 1, .slice none 0 0, .slice none 0 0, .slice none 0 0, .slice (some ⟨n + 1 + 1, 0, none⟩) 4 4, .slice (some ⟨n, 0, none⟩) 1 1, .int .u32 7, .int .i64 2, .slice (some ⟨n + 1 + 1 + 1 + 1, 0, none⟩) 1 1, .slice none 0 0, .slice none 0 0, .slice none 0 0] 53) = W := ⟨_, rfl⟩
  obtain ⟨k0, k1, k2, k3, k4, k5, hB⟩ := kn_six w W _ _ _ _ _ _ hW
  rw [hn] at k0 k1 k2 k3 k4 k5
  have hN0 : NmAt W (.slice (some ⟨n, 0, none⟩) 1 1) [[97]] := nmAt_sl.2 (slAt_blk (l := [.string ⟨#[97]⟩]) k0)
  have hN3 : NmAt W (.slice (some ⟨n + 1 + 1 + 1, 0, none⟩) 1 1) [[120]] := nmAt_sl.2 (slAt_blk (l := [.string ⟨#[120]⟩]) k3)
  have hD1 : SlAt W (.slice (some ⟨n + 1, 0, none⟩) 4 4) ([2, 2, 2, 2].map bv) := slAt_blk (l := [.int .u8 2, .int .u8 2, .int .u8 2, .int .u8 2]) k1
  have hD2 : SlAt W (.slice (some ⟨n + 1 + 1, 0, none⟩) 4 4) ([1, 1, 1, 1].map bv) := slAt_blk (l := [.int .u8 1, .int .u8 1, .int .u8 1, .int .u8 1]) k2
  have hD3 : SlAt W (.slice (some ⟨n + 1 + 1 + 1 + 1, 0, none⟩) 1 1) [.slice (some ⟨n + 1 + 1 + 1, 0, none⟩) 1 1] := slAt_blk (l := [.slice (some ⟨n + 1 + 1 + 1, 0, none⟩) 1 1]) k4
  have r1 : RcAt W [.slice (some ⟨n, 0, none⟩) 1 1, .int .u32 ((9 : Nat) : Int), .int .i64 1, .slice none 0 0, .slice none 0 0, .slice none 0 0, .slice (some ⟨n + 1, 0, none⟩) 4 4] knR1 := ⟨_, _, _, _, _, rfl, hN0, _, _, _, _, rfl, NmsAt.nil _, SlAt.nil _, nm_nil _, hD1⟩
  have r2 : RcAt W [.slice (some ⟨n, 0, none⟩) 1 1, .int .u32 ((5 : Nat) : Int), .int .i64 1, .slice none 0 0, .slice none 0 0, .slice none 0 0, .slice (some ⟨n + 1 + 1, 0, none⟩) 4 4] knR2 := ⟨_, _, _, _, _, rfl, hN0, _, _, _, _, rfl, NmsAt.nil _, SlAt.nil _, nm_nil _, hD2⟩
  have r3 : RcAt W [.slice (some ⟨n, 0, none⟩) 1 1, .int .u32 ((7 : Nat) : Int), .int .i64 2, .slice (some ⟨n + 1 + 1 + 1 + 1, 0, none⟩) 1 1, .slice none 0 0, .slice none 0 0, .slice none 0 0] knR3 :=
    ⟨_, _, _, _, _, rfl, hN0, _, _, _, _, rfl, ⟨_, hD3, rfl, fun i h1 => by
      match i, h1 with
      | 0, _ => exact hN3⟩, SlAt.nil _, nm_nil _, SlAt.nil _⟩
  have hRC : RowC W (.slice (some ⟨n + 1 + 1 + 1 + 1 + 1, 0, none⟩) 3 3) [knR1, knR2, knR3] := ⟨_, slK_blk (css := [[.slice (some ⟨n, 0, none⟩) 1 1, .int .u32 ((9 : Nat) : Int), .int .i64 1, .slice none 0 0, .slice none 0 0, .slice none 0 0, .slice (some ⟨n + 1, 0, none⟩) 4 4], [.slice (some ⟨n, 0, none⟩) 1 1, .int .u32 ((5 : Nat) : Int), .int .i64 1, .slice none 0 0, .slice none 0 0, .slice none 0 0, .slice (some ⟨n + 1 + 1, 0, none⟩) 4 4], [.slice (some ⟨n, 0, none⟩) 1 1, .int .u32 ((7 : Nat) : Int), .int .i64 2, .slice (some ⟨n + 1 + 1 + 1 + 1, 0, none⟩) 1 1, .slice none 0 0, .slice none 0 0, .slice none 0 0]]) k5, rfl, fun i h1 h2 => by
    match i, h1 with
    | 0, _ => exact r1
    | 1, _ => exact r2
    | 2, _ => exact r3⟩
  have hc := row_Sets _ _ W hRC kn_ok (by decide)
  rw [kn_sets] at hc
  rw [hn, hW]
  have HB := Lib.hid hB; have HR := Lib.hid hRC; have HN := Lib.hid hN0
  clear hB hRC hN0 hN3 hD1 hD2 hD3 r1 r2 r3 k0 k1 k2 k3 k4 k5 hW hn
  refine hc.mono ?_
  rintro e w2 ⟨v2, rfl, hs2, hb2⟩
  obtain ⟨sa, sc, rfl⟩ := hs2.shape
  have HS2 := Lib.hid hs2
  have HB2 := Lib.hid (HB.out.trans (hb2.mono HB.out.size))
  have HR2 := Lib.hid (HR.out.below hb2)
  have HN2 := Lib.hid (HN.out.below hb2)
  clear hs2 hb2 hc HB HR HN
  have hN29 : ∀ W', Below w2.heap.size w2 W' → RowC W' (.slice (some ⟨n + 1 + 1 + 1 + 1 + 1, 0, none⟩) 3 3) [knR1, knR2, knR3] := fun W' h => HR2.out.below h
  have hAl := (Below.refl w2.heap.size w2).alloc (Nat.le_refl _) (.cells #[.string ⟨#[65]⟩] 9)
  have hNA : NmAt (w2.alloc (.cells #[.string ⟨#[65]⟩] 9)) (.slice (some ⟨w2.heap.size, 0, none⟩) 1 1) [[65]] := nmAt_sl.2 (slAt_blk (l := [.string ⟨#[65]⟩]) (knew w2 _))
  have hc := row_Of _ _ _ 1 _ _ (HR2.out.below hAl) hNA ⟨by decide, by decide⟩ kn_ok (by decide)
  rw [kn_of1] at hc
  have HAl := Lib.hid hAl
  clear hN29 hAl hNA
  go_wp2_with fail
  refine hc.mono ?_
  rintro e w3 ⟨cs3, rfl, hs3, hb3⟩
  obtain ⟨⟨p0, q0, z0⟩, ⟨p3, q3, z3⟩, rfl⟩ := hs3.shape
  have hbb := HAl.out.trans (hb3.mono HAl.out.size)
  have HS3 := Lib.hid (HS2.out.below hbb)
  have HB3 := Lib.hid (HB2.out.trans (hbb.mono HB2.out.size))
  have HR3 := Lib.hid (HR2.out.below hbb)
  have HN3 := Lib.hid (HN2.out.below hbb)
  have HA3 := Lib.hid hs3
  clear hs3 hb3 hc HB2 HR2 HN2 HS2 HAl hbb
  have hAl := (Below.refl w3.heap.size w3).alloc (Nat.le_refl _) (.cells #[.slice p0 q0 z0, .int .i64 1, .int .u32 5, .slice p3 2 z3] 40)
  have hX4 := knew w3 (.cells #[.slice p0 q0 z0, .int .i64 1, .int .u32 5, .slice p3 2 z3] 40)
  have hc := row_Of _ _ _ 5 _ _ (HR3.out.below hAl) (HN3.out.below hAl) ⟨by decide, by decide⟩ kn_ok (by decide)
  rw [kn_of5] at hc
  have HAl := Lib.hid hAl; have HX4 := Lib.hid hX4
  clear hAl hX4
  go_wp2_with fail
  refine hc.mono ?_
  rintro e w4 ⟨cs4, rfl, hs4, hb4⟩
  obtain ⟨⟨p0', q0', z0'⟩, ⟨p3', q3', z3'⟩, rfl⟩ := hs4.shape
  have hbb := HAl.out.trans (hb4.mono HAl.out.size)
  have HS4 := Lib.hid (HS3.out.below hbb)
  have HB4 := Lib.hid (HB3.out.trans (hbb.mono HB3.out.size))
  have HR4 := Lib.hid (HR3.out.below hbb)
  have HN4 := Lib.hid (HN3.out.below hbb)
  have HA4 := Lib.hid (HA3.out.below hbb)
  have HX5 := Lib.hid ((hb4.block _ (kblock_lt HX4.out)).trans HX4.out)
  clear hs4 hb4 hc HB3 HR3 HN3 HS3 HAl hbb HA3 HX4
  have hAl := (Below.refl w4.heap.size w4).alloc (Nat.le_refl _) (.cells #[.slice p0' q0' z0', .int .i64 0, .int .u32 0, .slice p3' 0 z3'] 40)
  have hc := row_Types _ _ _ _ _ (HR4.out.below hAl) (HN4.out.below hAl) ⟨by decide, by decide⟩ kn_ok (by decide)
  rw [kn_types] at hc
  have HAl := Lib.hid hAl
  clear hAl
  go_wp2_with fail
  refine hc.mono ?_
  rintro e w5 ⟨v5, rfl, ho5, hb5⟩
  have hbb := HAl.out.trans (hb5.mono HAl.out.size)
  have HS5 := Lib.hid (HS4.out.below hbb)
  have HB5 := Lib.hid (HB4.out.trans (hbb.mono HB4.out.size))
  have HA5 := Lib.hid (HA4.out.below hbb)
  have HX6 := Lib.hid ((hbb.block _ (kblock_lt HX5.out)).trans HX5.out)
  obtain ⟨ta, tc, rfl⟩ := ho5.shape
  obtain ⟨tb, rfl, -, htb, htcell⟩ := ho5.cells (by simp)
  have ht1 := htcell 1 (by simp)
  have HT5 := Lib.hid (And.intro htb ht1)
  obtain ⟨sb, so, rfl, hsb, hel⟩ := HS5.out.elem (by simp)
  obtain ⟨x0, x3, hx, hxc⟩ := hel 0 (by simp)
  obtain ⟨y0, y3, hy, hyc⟩ := hel 1 (by simp)
  obtain ⟨f0, f1, f2, f3⟩ := hyc w5 (Below.refl _ _)
  simp only [List.getElem_cons_zero, List.getElem_cons_succ, List.length_cons, List.length_nil, Nat.zero_add, Nat.reduceAdd, Nat.zero_mul, Nat.one_mul, Nat.add_zero] at hx hxc hy hyc f0 f1 f2 f3
  obtain ⟨x01, x02, x03⟩ := x0; obtain ⟨x31, x32, x33⟩ := x3; obtain ⟨y01, y02, y03⟩ := y0; obtain ⟨y31, y32, y33⟩ := y3
  have hyd := hy.dts (x0 := (y01, y02, y03)) (x3 := (y31, y32, y33))
  obtain ⟨dy, dy1, dy2, -⟩ := hyd
  have hc := rset_Targets y01 y02 y03 2 7 y31 1 y33 dy [knA3] w5 dy1 dy2 (fun r hr => by rw [List.mem_singleton] at hr; subst hr; exact knA3_ok) (by omega)
  rw [kn_targets] at hc
  have HXX := Lib.hid hx; have HYY := Lib.hid hy; have HXC := Lib.hid hxc; have HYC := Lib.hid hyc; have HSB := Lib.hid hsb
  clear ho5 hb5 hbb HS4 HB4 HR4 HN4 HA4 HAl HX5 HS5 hel htcell hx hxc hy hyc htb ht1 dy1 dy2
  go_wp2_with fail
  refine hc.mono ?_
  rintro e w6 ⟨v6, rfl, ⟨vs6, g1, g2, g3⟩, hb6⟩
  obtain ⟨v61, rfl⟩ : ∃ x, vs6 = [x] := by
    match vs6, g2 with
    | [x], _ => exact ⟨x, rfl⟩
  have g4 := g3 0 (by simp) (by simp)
  simp only [List.getElem_cons_zero] at g4
  obtain ⟨xa, xc, rfl⟩ := g1.shape
  obtain ⟨xb, rfl, -, hxb, hxcell⟩ := g1.cells (by simp)
  have hx1 := hxcell 0 (by simp)
  have HB6 := Lib.hid (HB5.out.trans (hb6.mono HB5.out.size))
  have HX7 := Lib.hid ((hb6.block _ (kblock_lt HX6.out)).trans HX6.out)
  have HG4 := Lib.hid g4.nmAt
  have HT6 := Lib.hid (show w6.cell? ⟨tb, 1, none⟩ = some (.int .i64 2) from (hb6.cell (p := ⟨tb, 1, none⟩) HT5.out.1).trans HT5.out.2)
  have HX8 := Lib.hid (And.intro hxb hx1)
  have HT6B := Lib.hid (show tb < w5.heap.size from HT5.out.1)
  have H66 := Lib.hid hb6
  clear g1 g2 g3 g4 hxcell hx1 hb6 hc HB5 HX6 HT5
  obtain ⟨ma, mn, mc⟩ := v61
  obtain ⟨S, hS⟩ : ∃ S : World → Prop, S = (fun W => (W.cell? ⟨sb, so, none⟩ = some (.slice x01 x02 x03) ∧ W.cell? ⟨sb, so + 1, none⟩ = some (.int .i64 1) ∧ W.cell? ⟨sb, so + 2, none⟩ = some (.int .u32 5) ∧ W.cell? ⟨sb, so + 3, none⟩ = some (.slice x31 2 x33) ∧ W.cell? ⟨w3.heap.size, 0, none⟩ = some (.slice p0 q0 z0) ∧ W.cell? ⟨w3.heap.size, 1, none⟩ = some (.int .i64 1) ∧ W.cell? ⟨w3.heap.size, 2, none⟩ = some (.int .u32 5) ∧ W.cell? ⟨w3.heap.size, 3, none⟩ = some (.slice p3 2 z3) ∧ W.cell? ⟨tb, 1, none⟩ = some (.int .i64 2) ∧ W.cell? ⟨xb, 0, none⟩ = some (.slice ma mn mc) ∧ W.cell? ⟨sb, so + 4, none⟩ = some (.slice y01 y02 y03) ∧ W.cell? ⟨sb, so + 4 + 1, none⟩ = some (.int .i64 2) ∧ W.cell? ⟨sb, so + 4 + 2, none⟩ = some (.int .u32 7) ∧ W.cell? ⟨sb, so + 4 + 3, none⟩ = some (.slice y31 1 y33) ∧ Below w6.heap.size w6 W)) := ⟨_, rfl⟩
  have hKB : ∀ W, Below w6.heap.size w6 W → S W := fun W hb => by
    subst hS
    obtain ⟨a0, a1, a2, a3⟩ := HXC.out W (H66.out.trans (hb.mono H66.out.size))
    obtain ⟨f0, f1, f2, f3⟩ := HYC.out W (H66.out.trans (hb.mono H66.out.size))
    have hX9 := (hb.block _ (kblock_lt HX7.out)).trans HX7.out
    have d0 := kcell hX9 0 _ rfl; have d1 := kcell hX9 1 _ rfl; have d2 := kcell hX9 2 _ rfl; have d3 := kcell hX9 3 _ rfl
    have hm0 : W.cell? ⟨xb, 0, none⟩ = some (.slice ma mn mc) := (hb.cell (p := ⟨xb, 0, none⟩) HX8.out.1).trans HX8.out.2
    have ht0 : W.cell? ⟨tb, 1, none⟩ = some (.int .i64 2) := (hb.cell (p := ⟨tb, 1, none⟩) (Nat.lt_of_lt_of_le HT6B.out H66.out.size)).trans HT6.out
    exact ⟨a0, a1, a2, a3, d0, d1, d2, d3, ht0, hm0, f0, f1, f2, f3, hb⟩
  have hKS : ∀ W W', S W → Below W.heap.size W W' → S W' := fun W W' h hb => hKB W' (by
    subst hS
    obtain ⟨-, -, -, -, -, -, -, -, -, -, -, -, -, -, hB⟩ := h
    exact hB.trans (hb.mono hB.size))
  have hSB : ∀ W, S W → Below w6.heap.size w6 W := fun W h => by
    subst hS
    obtain ⟨-, -, -, -, -, -, -, -, -, -, -, -, -, -, hB⟩ := h
    exact hB
  have hKR : ∀ W, S W → S W.drew := fun W h => hKS W _ h ⟨rfl, rfl, rfl, Nat.le_refl _, fun _ _ => rfl⟩
  have hKA : ∀ W o, S W → S (W.alloc o) := fun W o h => hKS W _ h ((Below.refl _ W).alloc (Nat.le_refl _) o)
  have hSame : ∀ W g, S W → W.heap[g]? = some (.cells #[.string ⟨#[120]⟩] 9) → Calls Try.prog 16 #[.slice ma mn mc, .slice (some ⟨g, 0, none⟩) 1 1] W fun e w' => e = .returned (.bool true) ∧ Below W.heap.size W w' := fun W g h hg =>
    kn_NSame (.slice ma mn mc) (.slice (some ⟨g, 0, none⟩) 1 1) [[120]] [[120]] true (sameN_refl _) W (HG4.out.below (hSB W h)) (nmAt_sl.2 (slAt_blk (l := [.string ⟨#[120]⟩]) hg)) ⟨by decide, by decide⟩ ⟨by decide, by decide⟩
  have hxd := HXX.out.dts (x0 := (x01, x02, x03)) (x3 := (x31, x32, x33))
  obtain ⟨dx, dx1, dx2, -⟩ := hxd
  have hyd := HYY.out.dts (x0 := (y01, y02, y03)) (x3 := (y31, y32, y33))
  obtain ⟨dy', dy1, dy2, -⟩ := hyd
  have had := HA5.out.dts (x0 := (p0, q0, z0)) (x3 := (p3, q3, z3))
  obtain ⟨da, da1, da2, -⟩ := had
  have o2 : ∀ r ∈ [knA2, knA1], DatOK r := fun r hr => by
    simp only [List.mem_cons, List.not_mem_nil, or_false] at hr
    rcases hr with rfl | rfl
    · exact knA2_ok
    · exact knA1_ok
  have o3 : ∀ r ∈ [knA3], DatOK r := fun r hr => by rw [List.mem_singleton] at hr; subst hr; exact knA3_ok
  have h5 : ∀ W, S W → Below w5.heap.size w5 W := fun W h => H66.out.trans ((hSB W h).mono H66.out.size)
  have hEq1 : ∀ W, S W → Calls Try.prog 8 #[.agg #[.slice x01 x02 x03, .int .i64 1, .int .u32 5, .slice x31 2 x33], .agg #[.slice p0 q0 z0, .int .i64 1, .int .u32 5, .slice p3 2 z3]] W fun e w' => e = .returned (.bool true) ∧ Below W.heap.size W w' := fun W h => by
    have := rset_Equal x01 x02 x03 1 5 (x31, 2, x33) p0 q0 z0 1 5 (p3, 2, z3) dx da [knA2, knA1] [knA2, knA1] W (dx1.below (h5 W h)) (dx2.below (h5 W h)) (da1.below (h5 W h)) (da2.below (h5 W h)) o2 o2 (by rw [dx2.1]; decide) (by rw [da2.1]; decide)
    rw [kn_equal] at this; exact this
  have hEq2 : ∀ W, S W → Calls Try.prog 8 #[.agg #[.slice x01 x02 x03, .int .i64 1, .int .u32 5, .slice x31 2 x33], .agg #[.slice y01 y02 y03, .int .i64 2, .int .u32 7, .slice y31 1 y33]] W fun e w' => e = .returned (.bool false) ∧ Below W.heap.size W w' := fun W h => by
    have := rset_Equal x01 x02 x03 1 5 (x31, 2, x33) y01 y02 y03 2 7 (y31, 1, y33) dx dy' [knA2, knA1] [knA3] W (dx1.below (h5 W h)) (dx2.below (h5 W h)) (dy1.below (h5 W h)) (dy2.below (h5 W h)) o2 o3 (by rw [dx2.1]; decide) (by rw [dy2.1]; decide)
    rw [kn_unequal] at this; exact this
  have hS6 := hKB w6 (Below.refl _ _)
  subst hS
  have KS := Lib.hid hKS; have KR := Lib.hid hKR; have KA := Lib.hid hKA; have HSame := Lib.hid hSame; have HE1 := Lib.hid hEq1; have HE2 := Lib.hid hEq2
  clear hKB hKS hSB hKR hKA hSame h5 hEq1 hEq2 o2 o3 dx1 dx2 dy1 dy2 da1 da2 HXC HYC HX7 HX8 HT6 HT6B HG4
  go_wp2_with fail
  simp only [List.append_eq, List.cons_append, List.nil_append]
  go_region_held3 (fun W => (W.cell? ⟨sb, so, none⟩ = some (.slice x01 x02 x03) ∧ W.cell? ⟨sb, so + 1, none⟩ = some (.int .i64 1) ∧ W.cell? ⟨sb, so + 2, none⟩ = some (.int .u32 5) ∧ W.cell? ⟨sb, so + 3, none⟩ = some (.slice x31 2 x33) ∧ W.cell? ⟨w3.heap.size, 0, none⟩ = some (.slice p0 q0 z0) ∧ W.cell? ⟨w3.heap.size, 1, none⟩ = some (.int .i64 1) ∧ W.cell? ⟨w3.heap.size, 2, none⟩ = some (.int .u32 5) ∧ W.cell? ⟨w3.heap.size, 3, none⟩ = some (.slice p3 2 z3) ∧ W.cell? ⟨tb, 1, none⟩ = some (.int .i64 2) ∧ W.cell? ⟨xb, 0, none⟩ = some (.slice ma mn mc) ∧ W.cell? ⟨sb, so + 4, none⟩ = some (.slice y01 y02 y03) ∧ W.cell? ⟨sb, so + 4 + 1, none⟩ = some (.int .i64 2) ∧ W.cell? ⟨sb, so + 4 + 2, none⟩ = some (.int .u32 7) ∧ W.cell? ⟨sb, so + 4 + 3, none⟩ = some (.slice y31 1 y33) ∧ Below w6.heap.size w6 W)) (first | assumption | exact KR.out _ (by assumption) | exact KA.out _ _ (by assumption) | exact KA.out _ _ (KR.out _ (by assumption))) (first | ((with_reducible refine (HE1.out _ (by assumption)).mono ?_); rintro e w2 ⟨rfl, hb2⟩; have hS2 := KS.out _ _ (by assumption) hb2) | ((with_reducible refine (HE2.out _ (by assumption)).mono ?_); rintro e w2 ⟨rfl, hb2⟩; have hS2 := KS.out _ _ (by assumption) hb2) | ((with_reducible refine (HSame.out _ _ (by assumption) (knewD _ _)).mono ?_); rintro e w2 ⟨rfl, hb2⟩; have hS2 := KS.out _ _ (by assumption) hb2))
  all_goals
    rename_i hSe
    go_wp2_with fail
    go_ret
    exact ⟨rfl, HB6.out.trans (hSe.2.2.2.2.2.2.2.2.2.2.2.2.2.2.mono HB6.out.size)⟩
end Go.Proofs.Ytfcdajldpnomfaa

/-
  law4.Of: what its answer is made of. (Written by wip/tools/genofs.py from XDatN2.)
-/
namespace Go.Proofs.Ytfcdajldpnomfaa
open Go.RowKit Go.Shelf
set_option maxRecDepth 20000
set_option linter.unusedVariables false
set_option linter.unusedSimpArgs false

def OfPostS (w0 : World) (v : Value) (d : Dat) (w : World) (e : Ending) (w' : World) : Prop :=
  ∃ vn vn' vu vt vr, ∃ ss : List SlV, v = .agg #[.int .i64 d.ty, vn, vu, vt, vr] ∧ e = .returned (.agg #[.int .i64 d.ty, vn', vu, vt, vr]) ∧ OwnG 28 slEnc w' w.heap.size vn' ss ∧ ss.length = d.names.length ∧
    (∀ j (h1 : j < ss.length) (h2 : j < d.names.length), NmAt w0 (slEnc ss[j]) d.names[j]) ∧ SlAt w0 vu (d.nums.map u32V) ∧ NmAt w0 vt d.texts ∧ SlAt w0 vr (d.raw.map bv) ∧ Below w.heap.size w w'
set_option maxRecDepth 100000 in
set_option maxHeartbeats 8000000 in
theorem law4_OfS (w0 : World) (v : Value) (d : Dat) (w : World) (hA : DatAt w0 v d) (hwz : Below w0.heap.size w0 w) (hk : d.names.length ≤ 1048576) :
    Calls Try.prog 7 #[v] w (OfPostS w0 v d w) := by
  obtain ⟨vn, vu, vt, vr, rfl, ⟨vs, s1, sl, s2⟩, a2, a3, a4⟩ := hA
  obtain ⟨an, ca, rfl, _⟩ := id s1
  obtain ⟨bn, cb, rfl, _⟩ := id a2
  obtain ⟨tn, ct, rfl, _⟩ := id a3.1
  obtain ⟨rn, cr, rfl, _⟩ := id a4
  obtain ⟨ss, hss⟩ := sl_list vs (fun x hx => by obtain ⟨j, hj, rfl⟩ := List.mem_iff_getElem.1 hx; exact (s2 j hj).sl)
  subst hss
  have HA2 := Lib.hid a2; have HA3 := Lib.hid a3; have HA4 := Lib.hid a4
  have hNA : ∀ j (_ : j < (ss.map slEnc).length) (h2 : j < d.names.length), NmAt w0 (ss.map slEnc)[j] d.names[j] := fun j h1 _ => s2 j h1
  have HNA := Lib.hid hNA
  have HCA := Lib.hid (fun W (hb : Below w.heap.size w W) j (hj : j < (ss.map slEnc).length) => (s1.below hwz).cell hb j hj)
  clear s1 s2 a2 a3 a4 hNA hwz
  rw [List.length_map] at sl
  rw [List.length_map, List.length_map, List.length_map]
  obtain ⟨n1, e1⟩ : ∃ n, ss.length = n := ⟨_, rfl⟩
  obtain ⟨n2, e2⟩ : ∃ n, d.nums.length = n := ⟨_, rfl⟩
  obtain ⟨n3, e3⟩ : ∃ n, d.texts.length = n := ⟨_, rfl⟩
  obtain ⟨n4, e4⟩ : ∃ n, d.raw.length = n := ⟨_, rfl⟩
  rw [List.length_map, e2] at HA2
  rw [e3] at HA3
  rw [List.length_map, e4] at HA4
  rw [e1, e2, e3, e4]
  have hn1 : n1 ≤ 1048576 := by omega
  have E1 := Lib.hid e1; have SL := Lib.hid sl
  clear e1 e2 e3 e4 sl hk
  go_enter Try.func7, Try.ntmps7
  go_upto_block 0 with fail
  have hW : ∀ W0, (((w.alloc (.cells #[.int .i64 d.ty, .slice an n1 ca, .slice bn n2 cb, .slice tn n3 ct, .slice rn n4 cr] 31)).alloc (.cells #[.int .i64 0, .slice none 0 0, .slice none 0 0, .slice none 0 0, .slice none 0 0] 34)).alloc (.cells #[.int .i64 d.ty, .slice none 0 0, .slice bn n2 cb, .slice tn n3 ct, .slice rn n4 cr] 34)) = W0 → Below w.heap.size w W0 ∧ (∀ (j : Nat) (z : Value), [Value.int .i64 d.ty, .slice an n1 ca, .slice bn n2 cb, .slice tn n3 ct, .slice rn n4 cr][j]? = some z → W0.cell? ⟨w.heap.size, j, none⟩ = some z) ∧ W0.heap[w.heap.size + 1]? = some (.cells #[.int .i64 0, .slice none 0 0, .slice none 0 0, .slice none 0 0, .slice none 0 0] 34) ∧ W0.heap[w.heap.size + 1 + 1]? = some (.cells #[.int .i64 d.ty, .slice none 0 0, .slice bn n2 cb, .slice tn n3 ct, .slice rn n4 cr] 34) := by
    rintro W0 rfl
    have hz1 : (w.alloc (.cells #[.int .i64 d.ty, .slice an n1 ca, .slice bn n2 cb, .slice tn n3 ct, .slice rn n4 cr] 31)).heap.size = w.heap.size + 1 := by simp
    have hz2 : ((w.alloc (.cells #[.int .i64 d.ty, .slice an n1 ca, .slice bn n2 cb, .slice tn n3 ct, .slice rn n4 cr] 31)).alloc (.cells #[.int .i64 0, .slice none 0 0, .slice none 0 0, .slice none 0 0, .slice none 0 0] 34)).heap.size = w.heap.size + 1 + 1 := by simp
    have e0 := new_at w [.int .i64 d.ty, .slice an n1 ca, .slice bn n2 cb, .slice tn n3 ct, .slice rn n4 cr] 31
    have e1 := block_new (w.alloc (.cells #[.int .i64 d.ty, .slice an n1 ca, .slice bn n2 cb, .slice tn n3 ct, .slice rn n4 cr] 31)) (.cells #[.int .i64 0, .slice none 0 0, .slice none 0 0, .slice none 0 0, .slice none 0 0] 34)
    have e2 := block_new ((w.alloc (.cells #[.int .i64 d.ty, .slice an n1 ca, .slice bn n2 cb, .slice tn n3 ct, .slice rn n4 cr] 31)).alloc (.cells #[.int .i64 0, .slice none 0 0, .slice none 0 0, .slice none 0 0, .slice none 0 0] 34)) (.cells #[.int .i64 d.ty, .slice none 0 0, .slice bn n2 cb, .slice tn n3 ct, .slice rn n4 cr] 34)
    rw [hz1] at e1
    rw [hz2] at e2
    have b1 : Below (w.heap.size + 1) (w.alloc (.cells #[.int .i64 d.ty, .slice an n1 ca, .slice bn n2 cb, .slice tn n3 ct, .slice rn n4 cr] 31)) (((w.alloc (.cells #[.int .i64 d.ty, .slice an n1 ca, .slice bn n2 cb, .slice tn n3 ct, .slice rn n4 cr] 31)).alloc (.cells #[.int .i64 0, .slice none 0 0, .slice none 0 0, .slice none 0 0, .slice none 0 0] 34)).alloc (.cells #[.int .i64 d.ty, .slice none 0 0, .slice bn n2 cb, .slice tn n3 ct, .slice rn n4 cr] 34)) := ((Below.refl _ _).alloc (by simp) _).alloc (by simp) _
    have b2 : Below (w.heap.size + 1 + 1) ((w.alloc (.cells #[.int .i64 d.ty, .slice an n1 ca, .slice bn n2 cb, .slice tn n3 ct, .slice rn n4 cr] 31)).alloc (.cells #[.int .i64 0, .slice none 0 0, .slice none 0 0, .slice none 0 0, .slice none 0 0] 34)) (((w.alloc (.cells #[.int .i64 d.ty, .slice an n1 ca, .slice bn n2 cb, .slice tn n3 ct, .slice rn n4 cr] 31)).alloc (.cells #[.int .i64 0, .slice none 0 0, .slice none 0 0, .slice none 0 0, .slice none 0 0] 34)).alloc (.cells #[.int .i64 d.ty, .slice none 0 0, .slice bn n2 cb, .slice tn n3 ct, .slice rn n4 cr] 34)) := (Below.refl _ _).alloc (by simp) _
    refine ⟨(((Below.refl _ w).alloc (Nat.le_refl _) _).alloc (by simp) _).alloc (by simp; omega) _, fun j z h => (b1.cell (p := ⟨w.heap.size, j, none⟩) (Nat.lt_succ_self _)).trans (e0 j z h), (b2.block _ (Nat.lt_succ_self _)).trans e1, e2⟩
  generalize hW0 : (((w.alloc (.cells #[.int .i64 d.ty, .slice an n1 ca, .slice bn n2 cb, .slice tn n3 ct, .slice rn n4 cr] 31)).alloc (.cells #[.int .i64 0, .slice none 0 0, .slice none 0 0, .slice none 0 0, .slice none 0 0] 34)).alloc (.cells #[.int .i64 d.ty, .slice none 0 0, .slice bn n2 cb, .slice tn n3 ct, .slice rn n4 cr] 34)) = W0
  obtain ⟨k1, k2, k3, k4⟩ := hW W0 hW0
  clear hW hW0
  have K1 := Lib.hid k1; have K2 := Lib.hid k2; have K3 := Lib.hid k3; have K4 := Lib.hid k4
  clear k1 k2 k3 k4
  go_wp2_with fail
  go_loopw [4] (fun i wr => ∃ (k : Nat) (a : Option Addr) (c : Nat), i = .int .i64 k ∧ k ≤ n1 ∧ Hid (OwnG 28 slEnc wr (w.heap.size + 3) (.slice a k c) (ss.take k)) ∧ Hid (wr.heap[w.heap.size + 1 + 1]? = some (.cells #[.int .i64 d.ty, .slice a k c, .slice bn n2 cb, .slice tn n3 ct, .slice rn n4 cr] 34)) ∧ Hid (Below (w.heap.size + 2) W0 wr)) (fun i _ => n1 - (intOf i).toNat)
  case atStart => exact ⟨0, none, 0, rfl, Nat.zero_le _, Lib.hid (OwnG.nil _ _), K4, Lib.hid (Below.refl _ _)⟩
  case round =>
    obtain ⟨k, a, c, rfl, hkn, HOW, HBX, HB⟩ := hrel
    have hx1 := (HB.out.cell (p := ⟨w.heap.size, 1, none⟩) (by show w.heap.size < _; omega)).trans (K2.out 1 _ rfl)
    have hx3 := cell_of_block HBX.out 1 _ rfl
    have hB0 := K1.out.trans (HB.out.mono (by omega))
    have hsz := block_lt HBX.out
    by_cases hlt : k < n1
    · have hks : k < ss.length := by rw [E1.out]; exact hlt
      obtain ⟨g, off, rfl, hg, hc⟩ := HCA.out wr hB0 k (by rw [List.length_map]; exact hks)
      rw [List.getElem_map] at hc
      have HTK := Lib.hid (show ss.take (k + 1) = ss.take k ++ [ss[k]] from List.take_succ_eq_append_getElem hks)
      obtain ⟨⟨pa, pn, pc⟩, hp⟩ : ∃ s, ss[k] = s := ⟨_, rfl⟩
      rw [hp] at hc HTK
      unfold slEnc at hc
      simp only at hc
      have hkn1 : (0 : Int) ≤ (k : Int) := by omega
      have hkn2 : (k : Int) < (n1 : Int) := by omega
      have HH := Lib.hid (And.intro hg (And.intro hsz hlt))
      obtain ⟨ht0, i0, zz, hi, hz0, hz1, hz2, hzc⟩ := elemStrs
      have hown2 : wr.ownsRow (w.heap.size + 3) 28 1 (.slice a k c) k ((ss.take k).map slEnc) := by
        have h := HOW.out
        unfold OwnG at h
        rw [List.length_take, Nat.min_eq_left (by omega)] at h
        exact h
      have HOB := Lib.hid HOW.out.base_le
      have hAw : ∀ W, Below wr.heap.size wr W → W.cell? ⟨w.heap.size, 1, none⟩ = some (.slice (some ⟨g, off, none⟩) n1 ca) ∧ W.cell? ⟨g, off + k, none⟩ = some (.slice pa pn pc) ∧ W.cell? ⟨w.heap.size + 1 + 1, 1, none⟩ = some (.slice a k c) := fun W hb =>
        ⟨(hb.cell (p := ⟨w.heap.size, 1, none⟩) (by show w.heap.size < _; omega)).trans hx1, (hb.cell (p := ⟨g, off + k, none⟩) (by show g < _; omega)).trans hc, (hb.cell (p := ⟨w.heap.size + 1 + 1, 1, none⟩) hsz).trans hx3⟩
      obtain ⟨da1, da2, da3⟩ := hAw wr.drew (below_drew1 (Below.refl _ _))
      obtain ⟨db1, db2, db3⟩ := hAw (wr.drew.alloc (.cells #[.slice pa pn pc] 28)) ((below_drew1 (Below.refl _ _)).alloc (Nat.le_refl _) _)
      have HBY : Hid ((wr.drew.alloc (.cells #[.slice pa pn pc] 28)).heap[w.heap.size + 1 + 1]? = some (.cells #[.int .i64 d.ty, .slice a k c, .slice bn n2 cb, .slice tn n3 ct, .slice rn n4 cr] 34)) := Lib.hid ((((below_drew1 (Below.refl wr.heap.size wr)).alloc (Nat.le_refl _) _).block _ hsz).trans HBX.out)
      have HOY : Hid (OwnG 28 slEnc (wr.drew.alloc (.cells #[.slice pa pn pc] 28)) (w.heap.size + 3) (.slice a k c) (ss.take k)) := Lib.hid (HOW.out.drew.alloc _)
      have HH := Lib.hid (And.intro hg (And.intro hsz hlt))
      clear hp hks hB0 hg hlt hAw
      go_wp2_with fail
      go_region_law (first
        | (refine step_append_lies _ (by rfl) _ _ _ (by rfl) (w.heap.size + 3) 28 i0 zz 1 24 ht0 hi hz0 hz1 hz2 hzc (by omega) (.slice a k c) k ((ss.take k).map slEnc) (by rfl) ((hown2.drew).alloc _)
            ⟨wr.heap.size, 0, none⟩ 1 1 [.slice pa pn pc] (by rfl) (by rfl) (World.news_of_block (cs := #[.slice pa pn pc]) (t := 28) (fr := (0, 0)) (heap_alloc_new wr _)) (by simp [Value.oneCell'])
            (by omega) (by unfold maxLen; omega) (by omega) (by simp; omega) (wr.heap.size + 1) (by simp) ?_; intro gg cap w6 hown6 hgrow hat hlt6; have hbx6 := Lib.hid ((hgrow.block (w.heap.size + 1 + 1) (block_lt HBY.out) (HOY.out.ne_block HBY.out (by decide))).trans HBY.out); have hc6 := cell_of_block hbx6.out 1 _ rfl; have hf6 := frozen_block hbx6.out 1))
      all_goals
        have HO6 := Lib.hid (show OwnG 28 slEnc (w6.setCell ⟨w.heap.size + 1 + 1, 1, none⟩ (.slice (some ⟨gg, 0, none⟩) (k + 1) cap)) (w.heap.size + 3) (.slice (some ⟨gg, 0, none⟩) (k + 1) cap) (ss.take (k + 1)) from by
          refine OwnG.keptB (cs := #[.int .i64 d.ty, .slice a k c, .slice bn n2 cb, .slice tn n3 ct, .slice rn n4 cr]) (t := 34) ?_ hbx6.out (by decide) 1 _
          unfold OwnG
          rw [HTK.out, List.length_append, List.map_append, List.length_take, Nat.min_eq_left (by have := HH.out.2.2; have := E1.out; omega)]
          exact hown6)
        have HX6 := Lib.hid (show (w6.setCell ⟨w.heap.size + 1 + 1, 1, none⟩ (.slice (some ⟨gg, 0, none⟩) (k + 1) cap)).heap[w.heap.size + 1 + 1]? = some (.cells #[.int .i64 d.ty, .slice (some ⟨gg, 0, none⟩) (k + 1) cap, .slice bn n2 cb, .slice tn n3 ct, .slice rn n4 cr] 34) from block_set hbx6.out 1 _)
        have HB6 := Lib.hid (show Below (w.heap.size + 2) W0 (w6.setCell ⟨w.heap.size + 1 + 1, 1, none⟩ (.slice (some ⟨gg, 0, none⟩) (k + 1) cap)) from
          HB.out.trans ((((below_drew1 (Below.refl (w.heap.size + 2) wr)).alloc (by show w.heap.size + 2 ≤ wr.heap.size; omega) _).grown hgrow (by simp; omega) (fun x e => by have := HOB.out x e; omega)).setCell (p := ⟨w.heap.size + 1 + 1, 1, none⟩) (by show w.heap.size + 2 ≤ w.heap.size + 1 + 1; omega) _))
        have hltk := HH.out.2.2
        clear hown6 hgrow hat hlt6 hc6 hf6 hown2 da1 da2 da3 db1 db2 db3 hx1 hx3 hc
        go_wp2_with fail
        go_roundw
        case rel => exact ⟨k + 1, some ⟨gg, 0, none⟩, cap, by go_num, by omega, HO6, HX6, HB6⟩
        case measure => simp [intOf]; omega
    · obtain rfl : k = n1 := by omega
      have hkn3 : ¬ (k : Int) < (k : Int) := by omega
      have hR := (HB.out.block (w.heap.size + 1) (by omega)).trans K3.out
      obtain ⟨r0, r1, r2, r3, r4⟩ := cells5' HBX.out
      obtain ⟨f0, f1, f2, f3, f4⟩ := frozen5' hR
      obtain ⟨s0, s1, s2, s3, s4⟩ := cells5' hR
      have HR := Lib.hid hR
      have HB0 := Lib.hid hB0
      obtain ⟨q0, q1, q2, q3, q4⟩ := cells5' (set5_block' hR (.int .i64 d.ty) (.slice a k c) (.slice bn n2 cb) (.slice tn n3 ct) (.slice rn n4 cr))
      unfold set5 at q0 q1 q2 q3 q4
      clear hR hB0 hx3 hsz
      go_wp2_with fail
      refine bodyPost_ret (v := .agg #[.int .i64 d.ty, .slice a k c, .slice bn n2 cb, .slice tn n3 ct, .slice rn n4 cr]) (by simp [results, Try.results7, go_sem, q0, q1, q2, q3, q4]) rfl ?_
      have ho := ownG_set5 HR.out (.int .i64 d.ty) (.slice a k c) (.slice bn n2 cb) (.slice tn n3 ct) (.slice rn n4 cr) (by decide) HOW.out
      have ht : ss.take k = ss := List.take_of_length_le (by rw [E1.out]; exact Nat.le_refl _)
      rw [ht] at ho
      exact ⟨_, _, _, _, _, ss, rfl, rfl, ho.weaken (by omega), SL.out, fun j h1 h2 => (by have h := HNA.out j (by rw [List.length_map]; exact h1) h2; rw [List.getElem_map] at h; exact h), HA2.out, HA3.out, HA4.out, HB0.out.trans ((set5_below (Below.refl (w.heap.size + 1) wr) _ _ _ _ _).mono (by omega))⟩
end Go.Proofs.Ytfcdajldpnomfaa

/-
  Rows of the document's data that law6 gathers.
-/
namespace Go.Proofs.Ytfcdajldpnomfaa
open Go.RowKit Go.Shelf
set_option maxRecDepth 20000
set_option linter.unusedVariables false
set_option linter.unusedSimpArgs false
/-- What law4.Of gives, as cells. -/
def OfD (w0 W : World) (base : Nat) (cs : List Value) (d : Dat) : Prop :=
  ∃ vn vu vt vr, ∃ ss : List SlV, cs = [.int .i64 d.ty, vn, vu, vt, vr] ∧ OwnG 28 slEnc W base vn ss ∧ ss.length = d.names.length ∧
    (∀ j (h1 : j < ss.length) (h2 : j < d.names.length), NmAt w0 (slEnc ss[j]) d.names[j]) ∧ SlAt w0 vu (d.nums.map u32V) ∧ NmAt w0 vt d.texts ∧ SlAt w0 vr (d.raw.map bv)
theorem OfD.datAt {w0 W : World} {base : Nat} {cs : List Value} {d : Dat} (h : OfD w0 W base cs d) (hb : Below w0.heap.size w0 W) : cs.length = 5 ∧ DatAt W (.agg cs.toArray) d := by
  obtain ⟨vn, vu, vt, vr, ss, rfl, h2, h3, h4, h5, h6, h7⟩ := h
  exact ⟨rfl, _, _, _, _, rfl, ⟨ss.map slEnc, SlAt.of_own h2, by rw [List.length_map]; exact h3, fun j hj => by rw [List.getElem_map]; exact (h4 j (by simpa using hj) (by rw [List.length_map] at hj; omega)).below hb⟩, h5.below hb, h6.below hb, h7.below hb⟩
theorem OfD.below {w0 W W' : World} {base : Nat} {cs : List Value} {d : Dat} (h : OfD w0 W base cs d) (hb : Below W.heap.size W W') : OfD w0 W' base cs d := by
  obtain ⟨vn, vu, vt, vr, ss, e, h2, h3⟩ := h
  exact ⟨vn, vu, vt, vr, ss, e, h2.below hb, h3⟩
theorem OfD.weaken {w0 W : World} {base b2 : Nat} {cs : List Value} {d : Dat} (h : OfD w0 W base cs d) (hb : b2 ≤ base) : OfD w0 W b2 cs d := by
  obtain ⟨vn, vu, vt, vr, ss, e, h2, h3⟩ := h
  exact ⟨vn, vu, vt, vr, ss, e, h2.weaken hb, h3⟩
theorem OfD.grown {w0 W W' : World} {base base' k : Nat} {T : TypeId} {cs : List Value} {d : Dat} {v' : Value} {yss : List (List Value)} (h : OfD w0 W base cs d) (h' : OwnC k T W base' v' yss) (hT : 28 ≠ T) (hg : W.grownBy W' v'.ownBlock) : OfD w0 W' base cs d := by
  obtain ⟨vn, vu, vt, vr, ss, e, h2, h3⟩ := h
  exact ⟨vn, vu, vt, vr, ss, e, h2.kept_c h' hT hg, h3⟩
def OfDs (w0 W : World) (base : Nat) (csd : List (List Value)) (l : List Dat) : Prop := csd.length = l.length ∧ ∀ j (h1 : j < csd.length) (h2 : j < l.length), OfD w0 W base csd[j] l[j]
theorem OfDs.below {w0 W W' : World} {base : Nat} {csd : List (List Value)} {l : List Dat} (h : OfDs w0 W base csd l) (hb : Below W.heap.size W W') : OfDs w0 W' base csd l := ⟨h.1, fun j a b => (h.2 j a b).below hb⟩
theorem OfDs.dts {w0 W : World} {base : Nat} {csd : List (List Value)} {l : List Dat} (h : OfDs w0 W base csd l) (hb : Below w0.heap.size w0 W) : Dts W csd l := ⟨h.1, fun j a b => (h.2 j a b).datAt hb⟩
theorem elem_refD : ElemK 5 34 24 104 := ⟨Try.underlying24, _, _, rfl, rfl, rfl, rfl, rfl⟩
theorem OfDs.snoc {w0 W W' : World} {base : Nat} {v : Value} {csd : List (List Value)} {l : List Dat} {cs : List Value} {d : Dat} (h : OfDs w0 W base csd l) (ho : OwnC 5 34 W base v csd) (hc : OfD w0 W base cs d) (hg : W.grownBy W' v.ownBlock) : OfDs w0 W' base (csd ++ [cs]) (l ++ [d]) := by
  refine ⟨by simp [h.1], fun j a b => ?_⟩
  by_cases hj : j < csd.length
  · rw [List.getElem_append_left hj, List.getElem_append_left (by have := h.1; omega)]
    exact (h.2 j hj (by have := h.1; omega)).grown ho (by decide) hg
  · obtain rfl : j = csd.length := by simp at a; omega
    have e1 : (csd ++ [cs])[csd.length]'a = cs := by simp
    have e2 : (l ++ [d])[csd.length]'b = d := by simp [h.1]
    rw [e1, e2]
    exact hc.grown ho (by decide) hg
/-- The row of an argument. -/
def DtsArg (W : World) (css : List (List Value)) (l : List Dat) : Prop := css.length = l.length ∧ ∀ i (h1 : i < css.length) (h2 : i < l.length), css[i].length = 5 ∧ DatArg W (.agg css[i].toArray) l[i]
theorem DtsArg.dts {W : World} {css : List (List Value)} {l : List Dat} (h : DtsArg W css l) : Dts W css l := ⟨h.1, fun i a b => ⟨(h.2 i a b).1, (h.2 i a b).2.1⟩⟩
theorem OfPostS.cells {w0 w w' : World} {v : Value} {d : Dat} {e : Ending} (h : OfPostS w0 v d w e w') : ∃ cs, e = .returned (.agg cs.toArray) ∧ OfD w0 w' w.heap.size cs d ∧ Below w.heap.size w w' := by
  obtain ⟨vn, vn', vu, vt, vr, ss, rfl, rfl, h1, h2, h3, h4, h5, h6, h7⟩ := h
  exact ⟨[.int .i64 d.ty, vn', vu, vt, vr], rfl, ⟨vn', vu, vt, vr, ss, rfl, h1, h2, h3, h4, h5, h6⟩, h7⟩
theorem OfD.shape {w0 W : World} {base : Nat} {cs : List Value} {d : Dat} (h : OfD w0 W base cs d) : ∃ x3 x4 x5 x6 : Option Addr × Nat × Nat, cs = [.int .i64 d.ty, .slice x3.1 x3.2.1 x3.2.2, .slice x4.1 x4.2.1 x4.2.2, .slice x5.1 x5.2.1 x5.2.2, .slice x6.1 x6.2.1 x6.2.2] := by
  obtain ⟨vn, vu, vt, vr, ss, rfl, h2, h3, h4, h5, h6, h7⟩ := h
  obtain ⟨a3, c3, rfl⟩ := h2.shape
  obtain ⟨a4, c4, rfl, _⟩ := h5
  obtain ⟨a5, c5, rfl, _⟩ := nmAt_sl.1 h6
  obtain ⟨a6, c6, rfl, _⟩ := h7
  exact ⟨(a3, _, c3), (a4, _, c4), (a5, _, c5), (a6, _, c6), rfl⟩
end Go.Proofs.Ytfcdajldpnomfaa

/-
  law6.SetsEqual: true for any two rows of data. (Written by wip/tools/gen6e.py.)
-/
namespace Go.Proofs.Ytfcdajldpnomfaa
open Go.RowKit Go.Shelf
set_option maxRecDepth 20000
set_option linter.unusedVariables false
set_option linter.unusedSimpArgs false
set_option maxRecDepth 100000 in
set_option maxHeartbeats 16000000 in
theorem law6_SetsEqual {w : World} (va vb : Value) (css ess : List (List Value)) (l m : List Dat) (hA : SlK w va css) (hR : DtsArg w css l) (hU : SlK w vb ess) (hS : DtsArg w ess m) :
    Calls Try.prog 3 #[va, vb] w fun e w' => e = .returned (.bool true) ∧ Below w.heap.size w w' := by
  obtain ⟨a, c, rfl, -⟩ := id hA
  obtain ⟨a', c', rfl, -⟩ := id hU
  obtain ⟨n, hn⟩ : ∃ n, css.length = n := ⟨_, rfl⟩
  obtain ⟨n', hn'⟩ : ∃ n, ess.length = n := ⟨_, rfl⟩
  rw [hn] at hA ⊢
  rw [hn'] at hU ⊢
  have HA1 := Lib.hid hA; have HA2 := Lib.hid hU; have HR1 := Lib.hid hR; have HR2 := Lib.hid hS
  have HLN1 := Lib.hid hn; have HLN2 := Lib.hid hn'
  have HLL1 := Lib.hid (show l.length = n by rw [← hn]; exact hR.1.symm)
  have HLL2 := Lib.hid (show m.length = n' by rw [← hn']; exact hS.1.symm)
  clear hA hU hR hS hn hn'
  have hkn := law6_known w
  go_enter Try.func3, Try.ntmps3
  go_wp2_with fail
  refine hkn.mono ?_
  rintro e w1 ⟨rfl, hb1⟩
  have HB1 := Lib.hid hb1
  clear hkn hb1
  by_cases h12 : n > 12
  · have hz : (12 : Int) < (n : Int) := by omega
    go_wp2
    go_ret
    exact ⟨rfl, HB1.out⟩
  by_cases h13 : n' > 12
  · have hz : ¬ (12 : Int) < (n : Int) := by omega
    have hz2 : (12 : Int) < (n' : Int) := by omega
    go_wp2
    go_ret
    exact ⟨rfl, HB1.out⟩
  have hz : ¬ (12 : Int) < (n : Int) := by omega
  have hz2 : ¬ (12 : Int) < (n' : Int) := by omega
  go_wp2
  go_loopw [5, 7] (fun vx vi wr => ∃ (k : Nat) (ga : Option Addr) (gc : Nat) (csd : List (List Value)), vx = .slice ga k gc ∧ vi = .int .i64 k ∧ k ≤ n ∧ Hid (csd.length = k) ∧ Hid (OwnC 5 34 wr w1.heap.size (.slice ga k gc) csd) ∧ Hid (OfDs w wr w1.heap.size csd (l.take k)) ∧ Hid (∀ r ∈ l.take k, DatOK r) ∧ Hid (Below w1.heap.size w1 wr)) (fun _ vi _ => n - (intOf vi).toNat)
  case atStart => exact ⟨0, none, 0, [], rfl, rfl, Nat.zero_le _, Lib.hid rfl, Lib.hid (OwnK.nil _ _), Lib.hid ⟨rfl, fun j h => by simp at h⟩, Lib.hid (fun r h => by simp at h), Lib.hid (Below.refl _ _)⟩
  case round =>
    obtain ⟨k, ga, gc, csd, rfl, rfl, hk, HK, HO, HF, HD, HB⟩ := hrel
    by_cases hlt : k < n
    · have hltz : (k : Int) < (n : Int) := by omega
      have hk1 : k < css.length := by have := HLN1.out; omega
      have hk2 : k < l.length := by have := HLL1.out; omega
      obtain ⟨b, off, rfl, hb, hel⟩ := HA1.out.elem5 HR1.out.dts.ck (by omega)
      have h0 := (HR1.out.2 k hk1 hk2).2
      have htk : l.take (k + 1) = l.take k ++ [l[k]'hk2] := List.take_succ_eq_append_getElem hk2
      obtain ⟨d, hd⟩ : ∃ d, l[k]'hk2 = d := ⟨_, rfl⟩
      rw [hd] at h0 htk
      obtain ⟨x3, x4, x5, x6, e0⟩ := dt_shape h0.1
      obtain ⟨p3, q3, r3⟩ := x3; obtain ⟨p4, q4, r4⟩ := x4; obtain ⟨p5, q5, r5⟩ := x5; obtain ⟨p6, q6, r6⟩ := x6
      simp only at e0
      have hwr : Below w.heap.size w wr := HB1.out.trans (HB.out.mono HB1.out.size)
      obtain ⟨c0, c1, c2, c3, c4⟩ := hel k hk1 _ _ _ _ _ e0 wr hwr
      have hcs := fun W (hW : Below w.heap.size w W) => hel k hk1 _ _ _ _ _ e0 W hW
      rw [e0] at h0
      have hc := law4_Few _ d wr ⟨h0.1.below hwr, h0.2⟩
      have HTK := Lib.hid htk; have H0 := Lib.hid h0; have HCS := Lib.hid hcs; have HWR := Lib.hid hwr
      clear h0 htk hd e0 hel hk1 hk2 hcs hwr
      go_wp2_with fail
      refine hc.mono ?_
      rintro e w2 ⟨rfl, hb2⟩
      have HWW := Lib.hid (HWR.out.trans (hb2.mono HWR.out.size))
      by_cases hf : fewD d = true
      · have HOKD := Lib.hid (fewD_ok H0.out hf)
        have hkn : d.names.length ≤ 1048576 := by
          have hf2 := hf
          simp only [fewD, Bool.and_eq_true, decide_eq_true_eq] at hf2; omega
        rw [hf]
        have hc := law4_OfS w _ d w2 H0.out.1 HWW.out hkn
        have HB2 := Lib.hid (HB.out.trans (hb2.mono HB.out.size))
        have HO2 := Lib.hid (OwnK.below HO.out hb2)
        have HF2 := Lib.hid (HF.out.below hb2)
        clear c0 c1 c2 c3 c4 hb2 HO HF HB hf hkn HWR
        obtain ⟨c0, c1, c2, c3, c4⟩ := HCS.out w2 HWW.out
        go_wp2_with fail
        refine hc.mono ?_
        rintro e w3 h3
        obtain ⟨cs3, rfl, hof, hb3⟩ := h3.cells
        have HOF := Lib.hid (hof.weaken HB2.out.size)
        obtain ⟨⟨i3, j3, z3⟩, ⟨i4, j4, z4⟩, ⟨i5, j5, z5⟩, ⟨i6, j6, z6⟩, rfl⟩ := hof.shape
        have HB3 := Lib.hid (HB2.out.trans (hb3.mono HB2.out.size))
        have HO3 := Lib.hid (OwnK.below HO2.out hb3)
        have HF3 := Lib.hid (HF2.out.below hb3)
        have HSZ := Lib.hid HB3.out.size
        clear hc hof h3 hb3 HB2 HO2 HF2 HCS HWW c0 c1 c2 c3 c4
        go_wp2_with (at_builtin; refine wpl_append_c' w3 rfl (.tmp 31) (.tmp 37) elem_refD (by decide) rfl w1.heap.size (.slice ga k gc) csd rfl HO3.out [.int .i64 d.ty, .slice i3 j3 z3, .slice i4 j4 z4, .slice i5 j5 z5, .slice i6 j6 z6] rfl (by intro u hu; simp only [List.mem_cons, List.not_mem_nil, or_false] at hu; rcases hu with rfl | rfl | rfl | rfl | rfl <;> rfl) 1 (by rfl) HSZ.out (by have := HK.out; unfold maxLen; omega) (by have := HK.out; omega) ?_; intro v4 w4 hown4 hg4)
        have HF4 := Lib.hid (HF3.out.snoc HO3.out HOF.out hg4)
        have HB4 := Lib.hid (HB3.out.grown hg4 HSZ.out (OwnK.base_le HO3.out))
        obtain ⟨a9, c9, e9⟩ := OwnK.shape hown4
        rw [List.length_append, HK.out] at e9
        simp only [List.length_cons, List.length_nil, Nat.zero_add] at e9
        subst e9
        have HO4 := Lib.hid hown4
        have HD4 : Hid (∀ r ∈ l.take (k + 1), DatOK r) := Lib.hid (fun r hr => by
          rw [HTK.out] at hr
          rcases List.mem_append.1 hr with hr | hr
          · exact HD.out r hr
          · rw [List.mem_singleton] at hr; subst hr; exact HOKD.out)
        clear hg4 hown4 HD
        go_roundw
        case measure => simp [intOf]; omega
        case rel => exact ⟨k + 1, a9, c9, _, rfl, by go_num, by omega, Lib.hid (by rw [List.length_append, HK.out]; rfl), HO4, Lib.hid (by rw [HTK.out]; exact HF4.out), HD4, HB4⟩
      · simp only [Bool.not_eq_true] at hf
        rw [hf]
        clear hc hb2 c0 c1 c2 c3 c4
        go_wp2
        go_ret
        exact ⟨rfl, HWW.out⟩
    · obtain rfl : k = n := by omega
      have HBM := Lib.hid (HB1.out.trans (HB.out.mono HB1.out.size))
      have hx := HO.out
      have HX := Lib.hid (SlK.of_own hx (fun cs hc => by
        obtain ⟨i, hi, rfl⟩ := List.mem_iff_getElem.1 hc
        exact ((HF.out.2 i hi (by have := HF.out.1; omega)).datAt HBM.out).1))
      have hfd := HF.out.dts HBM.out
      rw [List.take_of_length_le (by have := HLL1.out; omega)] at hfd
      have HFD := Lib.hid hfd
      have hdd := HD.out
      rw [List.take_of_length_le (by have := HLL1.out; omega)] at hdd
      have HDD := Lib.hid hdd
      have HCK := Lib.hid HK.out
      clear hx hfd hdd HO HF HD HK HB
      go_wp2
      generalize wr = wm at *
      generalize ga = xa at *
      generalize gc = xc at *
      generalize csd = xs at *
      generalize k = n1 at *
      go_loopw [6, 8] (fun vx vi wr => ∃ (k : Nat) (ga : Option Addr) (gc : Nat) (csd : List (List Value)), vx = .slice ga k gc ∧ vi = .int .i64 k ∧ k ≤ n' ∧ Hid (csd.length = k) ∧ Hid (OwnC 5 34 wr wm.heap.size (.slice ga k gc) csd) ∧ Hid (OfDs w wr wm.heap.size csd (m.take k)) ∧ Hid (∀ r ∈ m.take k, DatOK r) ∧ Hid (Below wm.heap.size wm wr)) (fun _ vi _ => n' - (intOf vi).toNat)
      case atStart => exact ⟨0, none, 0, [], rfl, rfl, Nat.zero_le _, Lib.hid rfl, Lib.hid (OwnK.nil _ _), Lib.hid ⟨rfl, fun j h => by simp at h⟩, Lib.hid (fun r h => by simp at h), Lib.hid (Below.refl _ _)⟩
      case round =>
        obtain ⟨k, ga, gc, csd, rfl, rfl, hk, HK, HO, HF, HD, HB⟩ := hrel
        by_cases hlt : k < n'
        · have hltz : (k : Int) < (n' : Int) := by omega
          have hk1 : k < ess.length := by have := HLN2.out; omega
          have hk2 : k < m.length := by have := HLL2.out; omega
          obtain ⟨b, off, rfl, hb, hel⟩ := HA2.out.elem5 HR2.out.dts.ck (by omega)
          have h0 := (HR2.out.2 k hk1 hk2).2
          have htk : m.take (k + 1) = m.take k ++ [m[k]'hk2] := List.take_succ_eq_append_getElem hk2
          obtain ⟨d, hd⟩ : ∃ d, m[k]'hk2 = d := ⟨_, rfl⟩
          rw [hd] at h0 htk
          obtain ⟨x3, x4, x5, x6, e0⟩ := dt_shape h0.1
          obtain ⟨p3, q3, r3⟩ := x3; obtain ⟨p4, q4, r4⟩ := x4; obtain ⟨p5, q5, r5⟩ := x5; obtain ⟨p6, q6, r6⟩ := x6
          simp only at e0
          have hwr : Below w.heap.size w wr := HBM.out.trans (HB.out.mono HBM.out.size)
          obtain ⟨c0, c1, c2, c3, c4⟩ := hel k hk1 _ _ _ _ _ e0 wr hwr
          have hcs := fun W (hW : Below w.heap.size w W) => hel k hk1 _ _ _ _ _ e0 W hW
          rw [e0] at h0
          have hc := law4_Few _ d wr ⟨h0.1.below hwr, h0.2⟩
          have HTK := Lib.hid htk; have H0 := Lib.hid h0; have HCS := Lib.hid hcs; have HWR := Lib.hid hwr
          clear h0 htk hd e0 hel hk1 hk2 hcs hwr
          go_wp2_with fail
          refine hc.mono ?_
          rintro e w2 ⟨rfl, hb2⟩
          have HWW := Lib.hid (HWR.out.trans (hb2.mono HWR.out.size))
          by_cases hf : fewD d = true
          · have HOKD := Lib.hid (fewD_ok H0.out hf)
            have hkn : d.names.length ≤ 1048576 := by
              have hf2 := hf
              simp only [fewD, Bool.and_eq_true, decide_eq_true_eq] at hf2; omega
            rw [hf]
            have hc := law4_OfS w _ d w2 H0.out.1 HWW.out hkn
            have HB2 := Lib.hid (HB.out.trans (hb2.mono HB.out.size))
            have HO2 := Lib.hid (OwnK.below HO.out hb2)
            have HF2 := Lib.hid (HF.out.below hb2)
            clear c0 c1 c2 c3 c4 hb2 HO HF HB hf hkn HWR
            obtain ⟨c0, c1, c2, c3, c4⟩ := HCS.out w2 HWW.out
            go_wp2_with fail
            refine hc.mono ?_
            rintro e w3 h3
            obtain ⟨cs3, rfl, hof, hb3⟩ := h3.cells
            have HOF := Lib.hid (hof.weaken HB2.out.size)
            obtain ⟨⟨i3, j3, z3⟩, ⟨i4, j4, z4⟩, ⟨i5, j5, z5⟩, ⟨i6, j6, z6⟩, rfl⟩ := hof.shape
            have HB3 := Lib.hid (HB2.out.trans (hb3.mono HB2.out.size))
            have HO3 := Lib.hid (OwnK.below HO2.out hb3)
            have HF3 := Lib.hid (HF2.out.below hb3)
            have HSZ := Lib.hid HB3.out.size
            clear hc hof h3 hb3 HB2 HO2 HF2 HCS HWW c0 c1 c2 c3 c4
            go_wp2_with (at_builtin; refine wpl_append_c' w3 rfl (.tmp 51) (.tmp 57) elem_refD (by decide) rfl wm.heap.size (.slice ga k gc) csd rfl HO3.out [.int .i64 d.ty, .slice i3 j3 z3, .slice i4 j4 z4, .slice i5 j5 z5, .slice i6 j6 z6] rfl (by intro u hu; simp only [List.mem_cons, List.not_mem_nil, or_false] at hu; rcases hu with rfl | rfl | rfl | rfl | rfl <;> rfl) 1 (by rfl) HSZ.out (by have := HK.out; unfold maxLen; omega) (by have := HK.out; omega) ?_; intro v4 w4 hown4 hg4)
            have HF4 := Lib.hid (HF3.out.snoc HO3.out HOF.out hg4)
            have HB4 := Lib.hid (HB3.out.grown hg4 HSZ.out (OwnK.base_le HO3.out))
            obtain ⟨a9, c9, e9⟩ := OwnK.shape hown4
            rw [List.length_append, HK.out] at e9
            simp only [List.length_cons, List.length_nil, Nat.zero_add] at e9
            subst e9
            have HO4 := Lib.hid hown4
            have HD4 : Hid (∀ r ∈ m.take (k + 1), DatOK r) := Lib.hid (fun r hr => by
              rw [HTK.out] at hr
              rcases List.mem_append.1 hr with hr | hr
              · exact HD.out r hr
              · rw [List.mem_singleton] at hr; subst hr; exact HOKD.out)
            clear hg4 hown4 HD
            go_roundw
            case measure => simp [intOf]; omega
            case rel => exact ⟨k + 1, a9, c9, _, rfl, by go_num, by omega, Lib.hid (by rw [List.length_append, HK.out]; rfl), HO4, Lib.hid (by rw [HTK.out]; exact HF4.out), HD4, HB4⟩
          · simp only [Bool.not_eq_true] at hf
            rw [hf]
            clear hc hb2 c0 c1 c2 c3 c4
            go_wp2
            go_ret
            exact ⟨rfl, HWW.out⟩
        · obtain rfl : k = n' := by omega
          have HBN := Lib.hid (HBM.out.trans (HB.out.mono HBM.out.size))
          have hfe := HF.out.dts HBN.out
          rw [List.take_of_length_le (by have := HLL2.out; omega)] at hfe
          have hde := HD.out
          rw [List.take_of_length_le (by have := HLL2.out; omega)] at hde
          have HY := Lib.hid (SlK.of_own HO.out (fun cs hc => by
            obtain ⟨i, hi, rfl⟩ := List.mem_iff_getElem.1 hc
            exact ((HF.out.2 i hi (by have := HF.out.1; omega)).datAt HBN.out).1))
          have HFE := Lib.hid hfe; have HDE := Lib.hid hde; have HCE := Lib.hid HK.out
          have HXN := Lib.hid (HX.out.below HB.out); have HFN := Lib.hid (HFD.out.below HB.out)
          clear hfe hde HO HF HD HK HB HX HFD
          have hb9 := (Below.refl wr.heap.size wr).alloc (Nat.le_refl _) (.cells #[.string ⟨#[113]⟩] 9)
          have hw9 := HBN.out.trans (hb9.mono HBN.out.size)
          have hc := rset_Equal none 0 0 0 1 (a, n1, c) (some ⟨wr.heap.size, 0, none⟩) 1 1 0 0 (a', k, c') css ess l m _ (HA1.out.below hw9) (HR1.out.dts.below hw9) (HA2.out.below hw9) (HR2.out.dts.below hw9) HDD.out HDE.out (by have := HLN1.out; omega) (by have := HLN2.out; omega)
          have HW9 := Lib.hid hw9; have HB9 := Lib.hid hb9
          clear hb9 hw9
          go_wp2_with fail
          refine hc.mono ?_
          rintro e w5 ⟨rfl, hb5⟩
          have hb95 := HB9.out.trans (hb5.mono HB9.out.size)
          have HW5 := Lib.hid (HBN.out.trans (hb95.mono HBN.out.size))
          have hc := ref_SameDatas _ _ _ _ l m w5 (HXN.out.below hb95) (HFN.out.below hb95) (HY.out.below hb95) (HFE.out.below hb95) HDD.out HDE.out (by have := HCK.out; omega) (by have := HCE.out; omega)
          clear hb5 hb95 HW9 HB9
          go_wp2_with fail
          refine hc.mono ?_
          rintro e w6 ⟨rfl, hb6⟩
          have HW6 := Lib.hid (HW5.out.trans (hb6.mono HW5.out.size))
          clear hb6 hc
          generalize sameDsM l m = q at *
          cases q
          · go_wp2
            go_ret
            exact ⟨rfl, HW6.out⟩
          · go_wp2
            go_ret
            exact ⟨rfl, HW6.out⟩
end Go.Proofs.Ytfcdajldpnomfaa

