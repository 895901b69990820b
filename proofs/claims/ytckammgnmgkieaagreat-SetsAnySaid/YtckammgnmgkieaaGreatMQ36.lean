/-
  rset.Types.
-/
import Derived.Test.YtckammgnmgkieaaGreatMQ03
import Derived.Test.YtckammgnmgkieaaGreatMQ09
import Derived.Lib.OwnBridge
import Derived.ControlIn
namespace Go.Proofs.YtckammgnmgkieaaGreat
set_option maxRecDepth 20000
open Go.RowKit Go.Shelf
set_option maxRecDepth 20000
set_option linter.unusedVariables false
set_option linter.unusedSimpArgs false
theorem elemInt : ElemT 3 51 8 := ⟨Tryz.underlying51, _, _, rfl, rfl, rfl, rfl, rfl⟩
def tysM (o : Nm) (l : List Rc) : List Int := (l.filter fun r => sameN r.owner o).map fun r => r.data.ty
def typesM (o : Nm) (l : List Rc) : List Int := Lib.compact ((tysM o l).mergeSort fun x y => decide (x ≤ y))
theorem tysM_take {o : Nm} {l : List Rc} {k : Nat} (h : k < l.length) : tysM o (l.take (k + 1)) = tysM o (l.take k) ++ if sameN l[k].owner o = true then [l[k].data.ty] else [] := by
  unfold tysM
  rw [List.take_succ_eq_append_getElem h, List.filter_append, List.map_append]
  congr 1
  cases e : sameN l[k].owner o <;> simp [e]
theorem tysM_len (o : Nm) (l : List Rc) : (tysM o l).length ≤ l.length := by
  unfold tysM; rw [List.length_map]; exact List.length_filter_le _ _
theorem compact_len (zs : List Int) : (Lib.compact zs).length ≤ zs.length := by
  unfold Lib.compact Lib.compactUpTo
  rw [List.length_map]
  exact Nat.le_trans (List.length_filter_le _ _) (by simp)
abbrev iv : Int → Value := Value.int .i64
def TyPost (w : World) (l : List Int) (e : Ending) (w' : World) : Prop := ∃ v, e = .returned v ∧ OwnG 3 iv w' w.heap.size v l ∧ Below w.heap.size w w'
theorem sort_own {w0 w : World} {a : Option Addr} {n c : Nat} {zs : List Int} (h : OwnG 3 iv w w0.heap.size (.slice a n c) zs) (hb : Below w0.heap.size w0 w) (hz : zs ≠ []) (hl : zs.length ≤ 1048576) :
    Calls Tryz.prog 65 #[.slice a n c] w fun e w' => e = .returned (.tuple #[]) ∧ OwnG 3 iv w' w0.heap.size (.slice a n c) (zs.mergeSort fun x y => decide (x ≤ y)) ∧ Below w0.heap.size w0 w' := by
  have hn : (Value.slice a n c) ≠ .slice none 0 0 := fun e => by
    have h1 := h.shape
    obtain ⟨_, _, e2⟩ := h1
    rw [e] at e2
    injection e2 with _ e2 _
    exact hz (List.eq_nil_of_length_eq_zero e2.symm)
  obtain ⟨g, cap, e, hg, hlt, hnc, hcm, hlen, hH⟩ := Lib.holds_of_ownsRow h hn
  have hlen' : zs.length = n := by
    have h1 := h.shape
    obtain ⟨_, _, e2⟩ := h1
    injection e2 with _ e2 _; exact e2.symm
  injection e with e1 e2 e3
  subst e1; subst e3; subst hlen'
  refine (Tryz.slices_Sort_int g 0 c zs w hH hlt (by omega)).mono ?_
  rintro e w' ⟨rfl, m, os, rfl⟩
  have h1 := Lib.ownsRow_putRow (q := m) (k := zs.length) (ys := zs.mergeSort fun x y => decide (x ≤ y)) h (by simp) (Nat.le_refl _)
  have h2 := Lib.below_putRow (enc := iv) (q := m) (d := (zs.mergeSort fun x y => decide (x ≤ y)).toArray) hb hg
  have h3 : OwnG 3 iv (Sort.putRow iv (Sort.ahead w m) g 0 (zs.mergeSort fun x y => decide (x ≤ y)).toArray) w0.heap.size (.slice (some ⟨g, 0, none⟩) zs.length c) (zs.mergeSort fun x y => decide (x ≤ y)) := by
    unfold OwnG
    rw [List.take_of_length_le (by simp)] at h1
    rw [List.length_mergeSort]
    exact h1
  have hbg := Lib.below_grow (Sort.putRow iv (Sort.ahead w m) g 0 (zs.mergeSort fun x y => decide (x ≤ y)).toArray).heap.size _ (Nat.le_refl _) 0 os
  exact ⟨rfl, h3.below hbg, h2.trans (hbg.mono h2.size)⟩
theorem compact_own {w0 w : World} {a : Option Addr} {n c : Nat} {zs : List Int} (h : OwnG 3 iv w w0.heap.size (.slice a n c) zs) (hb : Below w0.heap.size w0 w) (hz : zs ≠ []) (hl : zs.length ≤ 1048576) :
    Calls Tryz.prog 66 #[.slice a n c] w fun e w' => ∃ v, e = .returned v ∧ OwnG 3 iv w' w0.heap.size v (Lib.compact zs) ∧ Below w0.heap.size w0 w' := by
  have hn : (Value.slice a n c) ≠ .slice none 0 0 := fun e => by
    have h1 := h.shape
    obtain ⟨_, _, e2⟩ := h1
    rw [e] at e2
    injection e2 with _ e2 _
    exact hz (List.eq_nil_of_length_eq_zero e2.symm)
  obtain ⟨g, cap, e, hg, hlt, hnc, hcm, hlen, hH⟩ := Lib.holds_of_ownsRow h hn
  have hlen' : zs.length = n := by
    have h1 := h.shape
    obtain ⟨_, _, e2⟩ := h1
    injection e2 with _ e2 _; exact e2.symm
  injection e with e1 e2 e3
  subst e1; subst e3; subst hlen'
  refine (Tryz.slices_Compact_int g 0 c zs w hH (by omega) hnc).mono ?_
  rintro e w' ⟨rfl, m, rfl⟩
  have hcl := compact_len zs
  have hyl : (Lib.compact zs ++ List.replicate (zs.length - (Lib.compact zs).length) 0).length = zs.length := by simp; omega
  have h1 := Lib.ownsRow_putRow (q := m) (k := (Lib.compact zs).length) h hyl hcl
  have h2 := Lib.below_putRow (enc := iv) (q := m) (d := (Lib.compact zs ++ List.replicate (zs.length - (Lib.compact zs).length) 0).toArray) hb hg
  refine ⟨_, rfl, ?_, h2⟩
  unfold OwnG
  rw [List.take_append_of_le_length (Nat.le_refl _), List.take_length] at h1
  exact h1
theorem OwnG.len {W : World} {base : Nat} {a : Option Addr} {n c : Nat} {zs : List Int} (h : OwnG 3 iv W base (.slice a n c) zs) : n = zs.length := by
  obtain ⟨_, _, e⟩ := h.shape
  injection e
theorem sort_any {w0 w : World} {a : Option Addr} {n c : Nat} {zs : List Int} (h : OwnG 3 iv w w0.heap.size (.slice a n c) zs) (hb : Below w0.heap.size w0 w) (hl : zs.length ≤ 1048576) :
    Calls Tryz.prog 65 #[.slice a n c] w fun e w' => e = .returned (.tuple #[]) ∧ OwnG 3 iv w' w0.heap.size (.slice a n c) (zs.mergeSort fun x y => decide (x ≤ y)) ∧ Below w0.heap.size w0 w' := by
  by_cases hz : zs = []
  · subst hz
    obtain rfl : n = 0 := h.len
    refine (Any.slices_Sort_int_none Tryz.lays189 a c w).mono ?_
    rintro e w' ⟨rfl, rfl⟩
    refine ⟨rfl, ?_, hb⟩
    rw [show ([] : List Int).mergeSort (fun x y => decide (x ≤ y)) = [] by simp]
    exact h
  · exact sort_own h hb hz hl
theorem compact_any {w0 w : World} {a : Option Addr} {n c : Nat} {zs : List Int} (h : OwnG 3 iv w w0.heap.size (.slice a n c) zs) (hb : Below w0.heap.size w0 w) (hl : zs.length ≤ 1048576) :
    Calls Tryz.prog 66 #[.slice a n c] w fun e w' => ∃ v, e = .returned v ∧ OwnG 3 iv w' w0.heap.size v (Lib.compact zs) ∧ Below w0.heap.size w0 w' := by
  by_cases hz : zs = []
  · subst hz
    obtain rfl : n = 0 := h.len
    refine (Tryz.slices_Compact_int_empty a c w).mono ?_
    rintro e w' ⟨rfl, rfl⟩
    exact ⟨_, rfl, h, hb⟩
  · exact compact_own h hb hz hl
set_option maxRecDepth 100000 in
set_option maxHeartbeats 16000000 in
theorem rset_Types (v1 : Option Addr) (n c : Nat) (vo : Value) (o : Nm) (css : List (List Value)) (rs : List Rc) (w : World) (hA : SlK w (.slice v1 n c) css) (hR : Rcs w css rs) (hOK : ∀ r ∈ rs, RcOK r) (hO : NmAt w vo o) (hko : NmOK o) (hl : n ≤ 1048576) :
    Calls Tryz.prog 23 #[.slice v1 n c, vo] w (TyPost w (typesM o rs)) := by
  obtain ⟨hln, hx⟩ : css.length = n ∧ n ≤ c := by
    obtain ⟨a', c', e, h1, _⟩ := id hA
    cases e; exact ⟨rfl, h1⟩
  have HN := Lib.hid (fun (k : Nat) (u : Value) (W : World) (h1 : k < rs.length) (hu : NmAt W u rs[k].owner) (hb : Below w.heap.size w W) => kn_NSame u vo rs[k].owner o _ rfl W hu (hO.below hb) (hOK _ (List.getElem_mem h1)).1 hko)
  obtain ⟨ao, co, rfl, -⟩ := nmAt_sl.1 hO
  have HA := Lib.hid hA; have HR := Lib.hid hR; have HLN := Lib.hid hln
  have HDL := Lib.hid (show rs.length = n by rw [← hR.1]; exact hln)
  obtain ⟨qo, hqo⟩ : ∃ q, (List.map strV o).length = q := ⟨_, rfl⟩
  rw [hqo] at HN ⊢
  clear hA hR hOK hln hO hko hqo
  go_enter Tryz.func23, Tryz.ntmps23
  go_wp2
  go_loopw [5, 10] (fun v3 vi wr => ∃ (k : Nat) (ga : Option Addr) (gn gc : Nat), v3 = .slice ga gn gc ∧ vi = .int .i64 k ∧ k ≤ n ∧ Hid (OwnG 3 iv wr w.heap.size (.slice ga gn gc) (tysM o (rs.take k))) ∧ Hid (Below w.heap.size w wr)) (fun _ vi _ => n - (intOf vi).toNat)
  case atStart => exact ⟨0, none, 0, 0, rfl, rfl, Nat.zero_le _, Lib.hid (OwnG.nil _ _), Lib.hid (Below.refl _ w)⟩
  case round =>
    obtain ⟨k, ga, gn, gc, rfl, rfl, hk, HO, HB⟩ := hrel
    by_cases hlt : k < n
    · have hltz : (k : Int) < (n : Int) := by omega
      have hk1 : k < css.length := by have := HLN.out; omega
      have hk2 : k < rs.length := by have := HDL.out; omega
      obtain ⟨b, off, rfl, hb, hel⟩ := HA.out.elem HR.out.ck (by omega)
      have h0 := HR.out.2 k hk1 hk2
      have htk := tysM_take (o := o) hk2
      have hnk := fun u W => HN.out k u W hk2
      obtain ⟨d, hd⟩ : ∃ d, rs[k]'hk2 = d := ⟨_, rfl⟩
      rw [hd] at h0 htk
      simp only [hd] at hnk
      have hsh := h0.shape
      obtain ⟨⟨p0, q0, k0⟩, ⟨p3, q3, k3⟩, ⟨p4, q4, k4⟩, ⟨p5, q5, k5⟩, ⟨p6, q6, k6⟩, e0⟩ := hsh
      simp only at e0
      obtain ⟨c0', c1, c2, c3, c4, c5, c6⟩ := hel k hk1 _ _ _ _ _ _ _ e0 wr HB.out
      have hown0 : NmAt w (.slice p0 q0 k0) d.owner := by
        obtain ⟨_, _, _, _, _, e5, g1, _⟩ := h0
        rw [e0] at e5
        simp only [List.cons.injEq, and_true] at e5
        rw [e5.1]; exact g1
      have HBB := Lib.hid (HB.out.alloc HB.out.size (.cells #[.slice p0 q0 k0, .int .u32 (d.ttl : Int), .int .i64 d.data.ty, .slice p3 q3 k3, .slice p4 q4 k4, .slice p5 q5 k5, .slice p6 q6 k6] 103))
      have hn := hnk _ _ (hown0.below HBB.out) HBB.out
      have HO1 := Lib.hid (HO.out.below ((Below.refl _ wr).alloc (Nat.le_refl _) (.cells #[.slice p0 q0 k0, .int .u32 (d.ttl : Int), .int .i64 d.data.ty, .slice p3 q3 k3, .slice p4 q4 k4, .slice p5 q5 k5, .slice p6 q6 k6] 103)))
      have X1 := Lib.hid (block_new wr (.cells #[.slice p0 q0 k0, .int .u32 (d.ttl : Int), .int .i64 d.data.ty, .slice p3 q3 k3, .slice p4 q4 k4, .slice p5 q5 k5, .slice p6 q6 k6] 103))
      have HTK := Lib.hid htk
      clear h0 htk hd e0 hown0 hk1 hk2 hel hnk HO HB
      generalize (d.ttl : Int) = tr at *
      generalize d.data.ty = ty at *
      go_wp2_with fail
      refine hn.mono ?_
      rintro e w2 ⟨rfl, hbb2⟩
      have HB2 := Lib.hid (HBB.out.trans (hbb2.mono HBB.out.size))
      have hblk := (hbb2.block wr.heap.size (by simp)).trans X1.out
      have hc2 := cell_of_block hblk 2 _ rfl
      have hfz := frozen_block hblk 2
      have HO2 := Lib.hid (HO1.out.below hbb2)
      have hz2 := HB2.out.size
      have HTL := Lib.hid (show (tysM o (rs.take k)).length ≤ 1048576 by have := tysM_len o (rs.take k); rw [List.length_take] at this; omega)
      clear hbb2 hblk hn HBB HO1 X1 c0' c1 c2 c3 c4 c5 c6
      by_cases hs : sameN d.owner o = true
      · rw [hs]
        rw [if_pos hs] at HTK
        have HT := Lib.hid HTK.out
        clear HTK hs
        go_wp2_with (at_builtin; (refine wpl_append_g w2 rfl (.tmp 18) (.tmp 22) elemInt rfl (fun _ => rfl) w.heap.size (.slice ga gn gc) (tysM o (rs.take k)) rfl HO2.out [.int .i64 ty] [ty] rfl 1 1 rfl rfl hz2 (by have := HTL.out; unfold maxLen; simp; omega) (by have := HTL.out; simp; omega) ?_); intro v3 w3 hown3 hg3)
        have HO3 : Hid (OwnG 3 iv w3 w.heap.size v3 (tysM o (rs.take (k + 1)))) := Lib.hid (by rw [HT.out]; exact hown3)
        have HB3 := Lib.hid (HB2.out.grown hg3 hz2 HO2.out.base_le)
        obtain ⟨a3, c3', rfl⟩ := hown3.shape
        clear hown3 hg3
        go_roundw
        case measure => simp [intOf]; omega
        case rel => exact ⟨k + 1, a3, _, c3', rfl, by go_num, by omega, HO3, HB3⟩
      · rw [if_neg hs, List.append_nil] at HTK
        simp only [Bool.not_eq_true] at hs
        rw [hs]
        have HO3 : Hid (OwnG 3 iv w2 w.heap.size (.slice ga gn gc) (tysM o (rs.take (k + 1)))) := Lib.hid (by rw [HTK.out]; exact HO2.out)
        clear HTK hs
        go_wp2
        go_roundw
        case measure => simp [intOf]; omega
        case rel => exact ⟨k + 1, ga, gn, gc, rfl, by go_num, by omega, HO3, HB2⟩
    · obtain rfl : k = n := by omega
      have h := HO.out
      rw [List.take_of_length_le (by have := HDL.out; omega)] at h
      have HH := Lib.hid h
      have HTL := Lib.hid (show (tysM o rs).length ≤ 1048576 by have := tysM_len o rs; have := HDL.out; omega)
      clear h HO
      go_wp2_with fail
      refine (sort_any HH.out HB.out HTL.out).mono ?_
      rintro e w2 ⟨rfl, ho2, hb2⟩
      have HS2 := Lib.hid (compact_any ho2 hb2 (by rw [List.length_mergeSort]; exact HTL.out))
      clear ho2 hb2
      go_wp2_with fail
      refine HS2.out.mono ?_
      rintro e w3 ⟨v3, rfl, ho3, hb3⟩
      have HO3 := Lib.hid ho3; have HB3 := Lib.hid hb3
      clear ho3 hb3
      go_wp2
      go_ret
      exact ⟨_, rfl, HO3.out, HB3.out⟩
end Go.Proofs.YtckammgnmgkieaaGreat

/-
  rset.Of.
-/
namespace Go.Proofs.YtckammgnmgkieaaGreat
set_option maxRecDepth 20000
open Go.RowKit Go.Shelf
set_option maxRecDepth 20000
set_option linter.unusedVariables false
set_option linter.unusedSimpArgs false
theorem wanted_take {o : Nm} {t : Int} {l : List Rc} {k : Nat} (h : k < l.length) : (l.take (k + 1)).filter (belM o t) = (l.take k).filter (belM o t) ++ if belM o t l[k] = true then [l[k]] else [] := by
  rw [List.take_succ_eq_append_getElem h, List.filter_append]
  congr 1
  cases e : belM o t l[k] <;> simp [e]
theorem wpl_append_c' {S T : TypeId} {k bytes : Nat} {ops : Array Oper} {rest : List Oper} {o : Oper} {a : Act} {Q : Exit → Act → World → Prop} (W : World) (hgd : o.guard = none) (s x : Operand) (hE : ElemK k T S bytes) (hk0 : 0 < k)
    (ho : o.op = .call { callee := .builtin .append, args := #[s, x], argTypes := #[S, S] })
    (base : Nat) (v : Value) (xs : List (List Value)) (hs : a.eval s = v) (hown : OwnC k T W base v xs)
    (cs : List Value) (hcl : cs.length = k) (hc1 : ∀ u ∈ cs, u.oneCell' = true) (c : Nat) (hx : a.eval x = .slice (some ⟨W.heap.size, 0, none⟩) 1 c)
    (hbase : base ≤ W.heap.size) (hk : xs.length + 1 ≤ maxLen) (hk2 : (xs.length + 1) * bytes ≤ 140737488355328)
    (h : ∀ v' w', OwnC k T w' base v' (xs ++ [cs]) → W.grownBy w' v.ownBlock → wpList Tryz.prog ops Q rest (a.put o.dst v') w') :
    wpList Tryz.prog ops Q (o :: rest) a (W.alloc (.cells cs.toArray T)) := by
  obtain ⟨ht, i, z, hi, hz, hz1, hz2, hzc⟩ := hE
  refine wpList_append_own _ hgd s x S ho base T i z k bytes ht hi hz hz1 hz2 hzc hk0 v xs.length (xs.flatMap fun cs => cs) hs (hown.alloc _) ⟨W.heap.size, 0, none⟩ 1 c cs hx (by omega) (cells_new W _ _) hc1 hk hk2 (by simp; omega) ?_
  intro v' w' h1 h2 _
  refine h v' w' ?_ (grownBy_of_alloc h2)
  unfold OwnC OwnK
  rw [List.length_append, List.flatMap_append]
  have e : [cs].flatMap (fun cs => cs) = cs := by simp
  rw [e]
  exact h1
def OfPost (w : World) (s : Option St) (e : Ending) (w' : World) : Prop := ∃ cs, e = .returned (.tuple #[.agg cs.toArray, .bool s.isSome]) ∧ SetR w' cs (s.getD ⟨[], 0, 0, []⟩) ∧ Below w.heap.size w w'
def FrSet (W : World) (base : Nat) (cs : List Value) (s : St) : Prop :=
  ∃ (x0 x3 : Option Addr × Nat × Nat) (ds : List (List Value)), cs = [.slice x0.1 x0.2.1 x0.2.2, .int .i64 s.ty, .int .u32 (s.ttl : Int), .slice x3.1 x3.2.1 x3.2.2] ∧ OwnG 9 strV W base (.slice x0.1 x0.2.1 x0.2.2) s.owner ∧
    OwnC 5 101 W base (.slice x3.1 x3.2.1 x3.2.2) ds ∧ ds.length = s.data.length ∧ ∀ j (h1 : j < ds.length) (h2 : j < s.data.length), ∃ vn vu vt vr, ds[j] = [.int .i64 s.data[j].ty, vn, vu, vt, vr] ∧ DRow W base vn vu vt vr s.data[j]
theorem DRow.keptX {W W' : World} {base B : Nat} {vn vu vt vr : Value} {d : Dat} (h : DRow W base vn vu vt vr d) (hB : B < base) (hg : W.grownBy W' (some B)) : DRow W' base vn vu vt vr d := by
  obtain ⟨⟨vs, k1, k2, k3⟩, i1, i2, i3⟩ := h
  have hk : ∀ {α : Type} {T : TypeId} {enc : α → Value} {v : Value} {xs : List α}, OwnG T enc W base v xs → OwnG T enc W' base v xs := fun {α T enc v xs} o => o.kept hg (.inr fun e => by have := o.base_le B e; omega)
  exact ⟨⟨vs, hk k1, k2, fun i a b => hk (k3 i a b)⟩, hk i1, hk i2, hk i3⟩
theorem FrSet.setR {W : World} {base : Nat} {cs : List Value} {s : St} (h : FrSet W base cs s) : SetR W cs s := by
  obtain ⟨x0, x3, ds, e, h1, h2, h3, h4⟩ := h
  have h5 : ∀ c ∈ ds, c.length = 5 := fun c hc => by
    obtain ⟨i, hi, rfl⟩ := List.mem_iff_getElem.1 hc
    obtain ⟨vn, vu, vt, vr, e2, _⟩ := h4 i hi (by omega)
    rw [e2]; rfl
  refine ⟨x0, x3, ds, e, h1.nmAt, SlK.of_own h2 h5, h3, fun j a b => ⟨h5 _ (List.getElem_mem a), ?_⟩⟩
  obtain ⟨vn, vu, vt, vr, e2, h6⟩ := h4 j a b
  rw [e2]; exact h6.datAt
theorem FrSet.keptX {W W' : World} {base B : Nat} {cs : List Value} {s : St} (h : FrSet W base cs s) (hB : B < base) (hg : W.grownBy W' (some B)) : FrSet W' base cs s := by
  obtain ⟨x0, x3, ds, e, h1, h2, h3, h4⟩ := h
  refine ⟨x0, x3, ds, e, h1.kept hg (.inr fun e => by have := h1.base_le B e; omega), OwnK.kept h2 hg (.inr fun e => by have := OwnK.base_le h2 B e; omega), h3, fun j a b => ?_⟩
  obtain ⟨vn, vu, vt, vr, e2, h6⟩ := h4 j a b
  exact ⟨vn, vu, vt, vr, e2, h6.keptX hB hg⟩
theorem frSet_zero (W : World) (base : Nat) : FrSet W base [.slice none 0 0, .int .i64 0, .int .u32 0, .slice none 0 0] ((none : Option St).getD ⟨[], 0, 0, []⟩) :=
  ⟨(none, 0, 0), (none, 0, 0), [], rfl, OwnG.nil _ _, OwnK.nil _ _, rfl, fun j a => absurd a (by simp)⟩
theorem frSet_of {W : World} {N base m : Nat} {css : List (List Value)} {vo vn vu vt vr : Nat → Option Addr × Nat × Nat} {rs : List Rc} (hm : css.length = m) (hl : css.length = rs.length) (hb : base ≤ N) (hF : ∀ j (h1 : j < css.length) (h2 : j < rs.length), FrAt W base css[j] rs[j])
    (hc : ∀ k (hk : k < css.length) (hr : k < rs.length), css[k] = [.slice (vo k).1 (vo k).2.1 (vo k).2.2, .int .u32 (rs[k].ttl : Int), .int .i64 rs[k].data.ty, .slice (vn k).1 (vn k).2.1 (vn k).2.2, .slice (vu k).1 (vu k).2.1 (vu k).2.2, .slice (vt k).1 (vt k).2.1 (vt k).2.2, .slice (vr k).1 (vr k).2.1 (vr k).2.2])
    (x : SegD m) (hd : DatO N css x W) : FrSet W base (setC vo rs x) (setR rs x.1.1) := by
  have hR : Rcs W css rs := ⟨hl, fun i h1 h2 => (hF i h1 h2).rcAt⟩
  have h0 := setR_of hm hR hc x hd
  obtain ⟨⟨⟨s, e⟩, ad, cd⟩, hx1, hx2⟩ := x
  simp only at hx1 hx2
  have hs : s < rs.length := by omega
  have hsc : s < css.length := by omega
  obtain ⟨j, rfl⟩ : ∃ j, e = s + j + 1 := ⟨e - s - 1, by omega⟩
  have e1 : setR rs (s, s + j + 1) = stR rs[s] ((rs.drop (s + 1)).take j) := by
    unfold setR
    simp only [List.drop_eq_getElem_cons hs]
    rw [show s + j + 1 - s - 1 = j by omega]
  have hdl : (dcs css s (s + j + 1)).length = j + 1 := by rw [dcs_len (by omega)]; omega
  have e2 : ttlS rs s (s + j + 1) = leastM rs[s].ttl ((rs.drop (s + 1)).take j) := by
    unfold ttlS
    rw [getD_rs hs, List.drop_eq_getElem_cons hs, show s + j + 1 - s = j + 1 by omega, List.take_succ_cons, leastM_first]
  show FrSet W base (setC vo rs ⟨((s, s + j + 1), ad, cd), hx1, hx2⟩) (setR rs (s, s + j + 1))
  rw [e1]
  unfold setC
  simp only
  rw [getD_rs hs, e2]
  have hf := hF s hsc hs
  rw [hc s hsc hs] at hf
  obtain ⟨_, _, _, _, _, e5, n1, _⟩ := hf
  simp only [List.cons.injEq, and_true] at e5
  refine ⟨vo s, (ad, s + j + 1 - s, cd), dcs css s (s + j + 1), rfl, by rw [e5.1]; exact n1, OwnK.weaken hd hb, by rw [hdl]; simp [stR]; omega, fun i h1 h2 => ?_⟩
  have hi : i < j + 1 := by rw [hdl] at h1; exact h1
  have hc1 : s + i < css.length := by omega
  have hc2 : s + i < rs.length := by omega
  have ed : (dcs css s (s + j + 1))[i] = css[s + i].drop 2 := by
    simp only [dcs, List.getElem_map, List.getElem_take, List.getElem_drop]
  have er : (stR rs[s] ((rs.drop (s + 1)).take j)).data[i] = rs[s + i].data := by
    cases i with
    | zero => rfl
    | succ i =>
      simp only [stR, List.getElem_cons_succ, List.getElem_map, List.getElem_take, List.getElem_drop]
      congr 2; omega
  rw [ed, er]
  obtain ⟨wo, wn, wu, wt, wr, e6, _, d1⟩ := hF (s + i) hc1 hc2
  exact ⟨wn, wu, wt, wr, by rw [e6]; rfl, d1⟩
def OfPostF (w : World) (s : Option St) (e : Ending) (w' : World) : Prop := ∃ cs, e = .returned (.tuple #[.agg cs.toArray, .bool s.isSome]) ∧ FrSet w' w.heap.size cs (s.getD ⟨[], 0, 0, []⟩) ∧ Below w.heap.size w w'
def SetF (w W : World) (cs : List Value) (s : St) : Prop := ∀ b z0 z1 z2 z3 v0 v1 v2 v3, b < w.heap.size → W.heap[b]? = some (.cells #[z0, z1, z2, z3] 38) → SetR ((((W.setCell ⟨b, 0, none⟩ v0).setCell ⟨b, 1, none⟩ v1).setCell ⟨b, 2, none⟩ v2).setCell ⟨b, 3, none⟩ v3) cs s
def OfPostK (w : World) (s : Option St) (e : Ending) (w' : World) : Prop := ∃ cs, e = .returned (.tuple #[.agg cs.toArray, .bool s.isSome]) ∧ SetR w' cs (s.getD ⟨[], 0, 0, []⟩) ∧ Below w.heap.size w w' ∧ SetF w w' cs (s.getD ⟨[], 0, 0, []⟩)
theorem OfPostF.postK {w w' : World} {s : Option St} {e : Ending} (h : OfPostF w s e w') : OfPostK w s e w' := by
  obtain ⟨cs, h1, h2, h3⟩ := h
  refine ⟨cs, h1, h2.setR, h3, fun b z0 z1 z2 z3 v0 v1 v2 v3 hb _ => ?_⟩
  exact (((((h2.keptX hb (grownBy_set w' b 0 v0)).keptX hb (grownBy_set _ b 1 v1)).keptX hb (grownBy_set _ b 2 v2)).keptX hb (grownBy_set _ b 3 v3))).setR
theorem OfPostK.post {w w' : World} {s : Option St} {e : Ending} (h : OfPostK w s e w') : OfPost w s e w' := by
  obtain ⟨cs, h1, h2, h3, _⟩ := h
  exact ⟨cs, h1, h2, h3⟩
theorem Rcs.snoc {W : World} {css : List (List Value)} {rs : List Rc} {cs : List Value} {r : Rc} (h : Rcs W css rs) (h1 : RcAt W cs r) : Rcs W (css ++ [cs]) (rs ++ [r]) := by
  refine ⟨by simp [h.1], fun i a b => ?_⟩
  by_cases hi : i < css.length
  · have hi2 : i < rs.length := by have := h.1; omega
    rw [List.getElem_append_left hi, List.getElem_append_left hi2]
    exact h.2 i hi hi2
  · have e1 : i = css.length := by simp at a; omega
    have e2 : i = rs.length := by have := h.1; omega
    rw [List.getElem_append_right (by omega), List.getElem_append_right (by omega)]
    simpa using h1
theorem results_set {fn : Func} {t u : Tmp} (h : fn.results = #[.cell t 38, .cell u 4]) (tmps : Array Value) (W : World) {a b : Nat} {x0 x1 x2 x3 v : Value} (h0 : x0.oneCell' = true) (h1 : x1.oneCell' = true) (h2 : x2.oneCell' = true) (h3 : x3.oneCell' = true) (hv : v.oneCell' = true)
    (ht : tmps.getD t undef = .pointer (some ⟨a, 0, none⟩)) (hu : tmps.getD u undef = .pointer (some ⟨b, 0, none⟩)) (c0 : W.cell? ⟨a, 0, none⟩ = some x0) (c1 : W.cell? ⟨a, 1, none⟩ = some x1) (c2 : W.cell? ⟨a, 2, none⟩ = some x2) (c3 : W.cell? ⟨a, 3, none⟩ = some x3) (c4 : W.cell? ⟨b, 0, none⟩ = some v) :
    (results fn tmps).run Tryz.prog W = .ok (.tuple #[.agg #[x0, x1, x2, x3], v]) W := by
  have ht' : tmps[t]?.getD undef = .pointer (some ⟨a, 0, none⟩) := by rw [← ht]; simp
  have hv' : tmps[u]?.getD undef = .pointer (some ⟨b, 0, none⟩) := by rw [← hu]; simp
  have hA : ∀ w, Sem.run Tryz.prog (underlying 38) w = .ok _ w := run_underlying Tryz.underlying38
  have hB : ∀ w, Sem.run Tryz.prog (underlying 4) w = .ok _ w := run_underlying Tryz.underlying4
  simp [results, h, ht', hv', loadVar, asAddr, go_sem, hA, hB, c0, c1, c2, c3, c4, isAgg]
def OfI (N B : Nat) (W0 : World) {n : Nat} (pre : List (SegD n)) (W : World) : Prop := pre = [] ∧ KpX N B W0 W ∧ W.heap[B]? = some (.cells #[.slice none 0 0, .int .i64 0, .int .u32 0, .slice none 0 0] 38)
def OfX (N B : Nat) (w : World) (css : List (List Value)) (vo : Nat → Option Addr × Nat × Nat) (L : List Rc) {n : Nat} (c : Code) (pre : List (SegD n)) (W : World) : Prop :=
  c = .ret ∧ ∃ x, pre = [x] ∧ Below w.heap.size w W ∧ W.heap[B]? = some (.cells (setC vo L x).toArray 38) ∧ W.heap[B + 1]? = some (.cells #[.bool true] 4) ∧ DatO N css x W ∧ ∀ j (h1 : j < css.length) (h2 : j < L.length), FrAt W (B + 2) css[j] L[j]
theorem ofI_own {N B : Nat} {W0 : World} {n : Nat} (hB : B < N) (hn : N ≤ W0.heap.size) : OwnFrom N (OfI (n := n) N B W0) := by
  rintro pre W W' row ⟨h1, h2, h3⟩ hg hr
  exact ⟨h1, h2.trans (KpX.grown (Nat.le_trans hn h2.size) hg (fun r e => .inl (hr r e).1)), (hg.block B (kblock_lt h3) (fun e => by have := (hr B e.symm).1; omega)).trans h3⟩
theorem ofX_own {N B : Nat} {w : World} {css : List (List Value)} {vo : Nat → Option Addr × Nat × Nat} {L : List Rc} {n : Nat} (c : Code) (hB : B + 1 < N) (hw : w.heap.size ≤ N) : OwnFrom N (OfX (n := n) N B w css vo L c) := by
  rintro pre W W' row ⟨h1, x, h2, h3, h4, h5, h6, h7⟩ hg hr
  exact ⟨h1, x, h2, h3.grown hg h3.size (fun r e => by have := (hr r e).1; omega), (hg.block B (kblock_lt h4) (fun e => by have := (hr B e.symm).1; omega)).trans h4, (hg.block (B + 1) (kblock_lt h5) (fun e => by have := (hr (B + 1) e.symm).1; omega)).trans h5, h6.keptO hg (fun r e => (hr r e).2), fun j a b => (h7 j a b).keptO hg (fun r e => (hr r e).2)⟩
theorem of_fin {N B : Nat} {w W : World} {css : List (List Value)} {vo : Nat → Option Addr × Nat × Nat} {L : List Rc} {n : Nat} {x : SegD n} {v0 v1 v2 v3 z0 z1 z2 z3 z4 : Value} (ecs : setC vo L x = [v0, v1, v2, v3]) (hx6 : W.heap[B]? = some (.cells #[z0, z1, z2, z3] 38)) (hx7 : W.heap[B + 1]? = some (.cells #[z4] 4))
    (hD : DatO N css x W) (hF : ∀ j (h1 : j < css.length) (h2 : j < L.length), FrAt W (B + 2) css[j] L[j]) (hww : Below w.heap.size w W) (hBw : w.heap.size ≤ B) :
    OfX N B w css vo L .ret ([] ++ [x]) (((((W.setCell ⟨B, 0, none⟩ v0).setCell ⟨B, 1, none⟩ v1).setCell ⟨B, 2, none⟩ v2).setCell ⟨B, 3, none⟩ v3).setCell ⟨B + 1, 0, none⟩ (.bool true)) := by
  have q0 := kset hx6 0 v0
  have q1 := kset q0 1 v1
  have q2 := kset q1 2 v2
  have q3 := kset q2 3 v3
  have g0 := grownBy_set W B 0 v0
  have g1 := grownBy_set (W.setCell ⟨B, 0, none⟩ v0) B 1 v1
  have g2 := grownBy_set ((W.setCell ⟨B, 0, none⟩ v0).setCell ⟨B, 1, none⟩ v1) B 2 v2
  have g3 := grownBy_set (((W.setCell ⟨B, 0, none⟩ v0).setCell ⟨B, 1, none⟩ v1).setCell ⟨B, 2, none⟩ v2) B 3 v3
  have g4 := grownBy_set ((((W.setCell ⟨B, 0, none⟩ v0).setCell ⟨B, 1, none⟩ v1).setCell ⟨B, 2, none⟩ v2).setCell ⟨B, 3, none⟩ v3) (B + 1) 0 (.bool true)
  have hne : (some (B + 1) : Option Nat) ≠ some B := fun e => by injection e; omega
  have hne2 : (some B : Option Nat) ≠ some (B + 1) := fun e => by injection e; omega
  have r0 := (g0.block (B + 1) (kblock_lt hx7) hne).trans hx7
  have r1 := (g1.block (B + 1) (kblock_lt r0) hne).trans r0
  have r2 := (g2.block (B + 1) (kblock_lt r1) hne).trans r1
  have r3 := (g3.block (B + 1) (kblock_lt r2) hne).trans r2
  have r4 := kset r3 0 (.bool true)
  have q4 := (g4.block B (kblock_lt q3) hne2).trans q3
  refine ⟨rfl, x, rfl, ?_, ?_, ?_, ?_, ?_⟩
  · exact ((((hww.setCell (p := ⟨B, 0, none⟩) hBw _).setCell (p := ⟨B, 1, none⟩) hBw _).setCell (p := ⟨B, 2, none⟩) hBw _).setCell (p := ⟨B, 3, none⟩) hBw _).setCell (p := ⟨B + 1, 0, none⟩) (by show w.heap.size ≤ B + 1; omega) _
  · rw [ecs]; exact q4
  · exact r4
  · exact OwnK.keptB (OwnK.keptB (OwnK.keptB (OwnK.keptB (OwnK.keptB hD hx6 (by decide) 0 v0) q0 (by decide) 1 v1) q1 (by decide) 2 v2) q2 (by decide) 3 v3) r3 (by decide) 0 _
  · intro j h1 h2
    exact (((((hF j h1 h2).keptX (by omega) g0).keptX (by omega) g1).keptX (by omega) g2).keptX (by omega) g3).keptX (by omega) g4
theorem of_zero {B d : Nat} {w W : World} {z0 z1 z2 z3 z4 : Value} (hx6 : W.heap[B]? = some (.cells #[z0, z1, z2, z3] 38)) (hx7 : W.heap[B + 1]? = some (.cells #[z4] 4)) (hww : Below w.heap.size w W) (hBw : w.heap.size ≤ B) {ds : List Deferred} (hd : W.heap[d]? = some (.deferred (some ds))) (h1 : d ≠ B) (h2 : d ≠ B + 1) :
    ∃ W5, ((((W.setCell ⟨B, 0, none⟩ (.slice none 0 0)).setCell ⟨B, 1, none⟩ (.int .i64 0)).setCell ⟨B, 2, none⟩ (.int .u32 0)).setCell ⟨B, 3, none⟩ (.slice none 0 0)).setCell ⟨B + 1, 0, none⟩ (.bool false) = W5 ∧ W5.heap[B]? = some (.cells #[.slice none 0 0, .int .i64 0, .int .u32 0, .slice none 0 0] 38) ∧ W5.heap[B + 1]? = some (.cells #[.bool false] 4) ∧ Below w.heap.size w W5 ∧ W5.heap[d]? = some (.deferred (some ds)) := by
  have q0 := kset hx6 0 (.slice none 0 0)
  have q1 := kset q0 1 (.int .i64 0)
  have q2 := kset q1 2 (.int .u32 0)
  have q3 := kset q2 3 (.slice none 0 0)
  have g0 := grownBy_set W B 0 (.slice none 0 0)
  have g1 := grownBy_set (W.setCell ⟨B, 0, none⟩ (.slice none 0 0)) B 1 (.int .i64 0)
  have g2 := grownBy_set ((W.setCell ⟨B, 0, none⟩ (.slice none 0 0)).setCell ⟨B, 1, none⟩ (.int .i64 0)) B 2 (.int .u32 0)
  have g3 := grownBy_set (((W.setCell ⟨B, 0, none⟩ (.slice none 0 0)).setCell ⟨B, 1, none⟩ (.int .i64 0)).setCell ⟨B, 2, none⟩ (.int .u32 0)) B 3 (.slice none 0 0)
  have g4 := grownBy_set ((((W.setCell ⟨B, 0, none⟩ (.slice none 0 0)).setCell ⟨B, 1, none⟩ (.int .i64 0)).setCell ⟨B, 2, none⟩ (.int .u32 0)).setCell ⟨B, 3, none⟩ (.slice none 0 0)) (B + 1) 0 (.bool false)
  have hne : (some (B + 1) : Option Nat) ≠ some B := fun e => by injection e; omega
  have hne2 : (some B : Option Nat) ≠ some (B + 1) := fun e => by injection e; omega
  have hnd : (some d : Option Nat) ≠ some B := fun e => by injection e; omega
  have hnd2 : (some d : Option Nat) ≠ some (B + 1) := fun e => by injection e; omega
  have r0 := (g0.block (B + 1) (kblock_lt hx7) hne).trans hx7
  have r1 := (g1.block (B + 1) (kblock_lt r0) hne).trans r0
  have r2 := (g2.block (B + 1) (kblock_lt r1) hne).trans r1
  have r3 := (g3.block (B + 1) (kblock_lt r2) hne).trans r2
  have d0 := (g0.block d (kblock_lt hd) hnd).trans hd
  have d1 := (g1.block d (kblock_lt d0) hnd).trans d0
  have d2 := (g2.block d (kblock_lt d1) hnd).trans d1
  have d3 := (g3.block d (kblock_lt d2) hnd).trans d2
  refine ⟨_, rfl, (g4.block B (kblock_lt q3) hne2).trans q3, kset r3 0 (.bool false), ?_, (g4.block d (kblock_lt d3) hnd2).trans d3⟩
  exact ((((hww.setCell (p := ⟨B, 0, none⟩) hBw _).setCell (p := ⟨B, 1, none⟩) hBw _).setCell (p := ⟨B, 2, none⟩) hBw _).setCell (p := ⟨B, 3, none⟩) hBw _).setCell (p := ⟨B + 1, 0, none⟩) (by show w.heap.size ≤ B + 1; omega) _
section
attribute [local go_sem] Oper.semAt_some
set_option maxRecDepth 100000 in
set_option maxHeartbeats 16000000 in
theorem rset_OfF (v1 : Option Addr) (n c : Nat) (vo : Value) (o : Nm) (t : Int) (css : List (List Value)) (rs : List Rc) (w : World) (hA : SlK w (.slice v1 n c) css) (hR : Rcs w css rs) (hOK : ∀ r ∈ rs, RcOK r) (hO : NmAt w vo o) (hko : NmOK o) (hl : n ≤ 1048576) :
    Calls Tryz.prog 21 #[.slice v1 n c, vo, .int .i64 t] w (OfPostF w (ofM rs o t)) := by
  obtain ⟨hln, hx⟩ : css.length = n ∧ n ≤ c := by
    obtain ⟨a', c', e, h1, _⟩ := id hA
    cases e; exact ⟨rfl, h1⟩
  have HN := Lib.hid (fun (k : Nat) (u : Value) (W : World) (h1 : k < rs.length) (hu : NmAt W u rs[k].owner) (hb : Below w.heap.size w W) => kn_NSame u vo rs[k].owner o _ rfl W hu (hO.below hb) (hOK _ (List.getElem_mem h1)).1 hko)
  obtain ⟨ao, co, rfl, -⟩ := nmAt_sl.1 hO
  have HA := Lib.hid hA; have HR := Lib.hid hR; have HLN := Lib.hid hln; have HOK := Lib.hid hOK
  have HDL := Lib.hid (show rs.length = n by rw [← hR.1]; exact hln)
  obtain ⟨qo, hqo⟩ : ∃ q, (List.map strV o).length = q := ⟨_, rfl⟩
  rw [hqo] at HN ⊢
  clear hA hR hOK hln hO hko hqo
  refine (callsIn_wide (n := 8)).1 ?_
  refine callsIn_of_wp_marks Tryz.func21 rfl trivial ?_ rfl
  simp only [Tryz.ntmps21, List.size_toArray, List.length_cons, List.length_nil, Nat.reduceAdd, Nat.reduceSub, Array.replicate_succ, Array.replicate_zero, List.push_toArray, List.append_toArray, List.nil_append, List.cons_append]
  refine wpIn_wide.2 ?_
  go_wp2
  have HB0 := Lib.hid (((Below.refl w.heap.size w).alloc (Nat.le_refl _) (.cells #[.slice none 0 0, .int .i64 0, .int .u32 0, .slice none 0 0] 38)).alloc (by simp) (.cells #[.bool false] 4))
  have X6 := Lib.hid ((Below.heap_alloc (w.alloc (.cells #[.slice none 0 0, .int .i64 0, .int .u32 0, .slice none 0 0] 38)) (.cells #[.bool false] 4) w.heap.size (by simp)).trans (knew w (.cells #[.slice none 0 0, .int .i64 0, .int .u32 0, .slice none 0 0] 38)))
  have X7 := Lib.hid (knew (w.alloc (.cells #[.slice none 0 0, .int .i64 0, .int .u32 0, .slice none 0 0] 38)) (.cells #[.bool false] 4))
  rw [World.size_alloc] at X7
  have HZ0 := Lib.hid (show ((w.alloc (.cells #[.slice none 0 0, .int .i64 0, .int .u32 0, .slice none 0 0] 38)).alloc (.cells #[.bool false] 4)).heap.size = w.heap.size + 2 by simp)
  generalize (w.alloc (.cells #[.slice none 0 0, .int .i64 0, .int .u32 0, .slice none 0 0] 38)).alloc (.cells #[.bool false] 4) = W0 at *
  go_loopw [8, 14] (fun v3 vi wr => ∃ (k : Nat) (ga : Option Addr) (gn gc : Nat) (csw : List (List Value)), v3 = .slice ga gn gc ∧ vi = .int .i64 k ∧ k ≤ n ∧ Hid (OwnC 7 103 wr W0.heap.size (.slice ga gn gc) csw) ∧ Hid (Rcs w csw ((rs.take k).filter (belM o t))) ∧ Hid (Below W0.heap.size W0 wr)) (fun _ vi _ => n - (intOf vi).toNat)
  case atStart => exact ⟨0, none, 0, 0, [], rfl, rfl, Nat.zero_le _, Lib.hid (OwnK.nil _ _), Lib.hid ⟨rfl, fun i a => absurd a (by simp)⟩, Lib.hid (Below.refl _ W0)⟩
  case round =>
    obtain ⟨k, ga, gn, gc, csw, rfl, rfl, hk, HO, HRw, HB⟩ := hrel
    by_cases hlt : k < n
    · have hltz : (k : Int) < (n : Int) := by omega
      have hk1 : k < css.length := by have := HLN.out; omega
      have hk2 : k < rs.length := by have := HDL.out; omega
      have hwr : Below w.heap.size w wr := HB0.out.trans (HB.out.mono (by have := HZ0.out; omega))
      obtain ⟨b, off, rfl, hb, hel⟩ := HA.out.elem HR.out.ck (by omega)
      have h0 := HR.out.2 k hk1 hk2
      have htk := wanted_take (o := o) (t := t) hk2
      have hnk := fun u W => HN.out k u W hk2
      obtain ⟨d, hd⟩ : ∃ d, rs[k]'hk2 = d := ⟨_, rfl⟩
      rw [hd] at h0 htk
      simp only [hd] at hnk
      have hsh := h0.shape
      obtain ⟨⟨p0, q0, k0⟩, ⟨p3, q3, k3⟩, ⟨p4, q4, k4⟩, ⟨p5, q5, k5⟩, ⟨p6, q6, k6⟩, e0⟩ := hsh
      simp only at e0
      obtain ⟨c0', c1, c2, c3, c4, c5, c6⟩ := hel k hk1 _ _ _ _ _ _ _ e0 wr hwr
      have hown0 : NmAt w (.slice p0 q0 k0) d.owner := by
        obtain ⟨_, _, _, _, _, e5, g1, _⟩ := h0
        rw [e0] at e5
        simp only [List.cons.injEq, and_true] at e5
        rw [e5.1]; exact g1
      rw [e0] at h0
      have HD0 := Lib.hid h0
      have HBB := Lib.hid (HB.out.alloc HB.out.size (.cells #[.slice p0 q0 k0, .int .u32 (d.ttl : Int), .int .i64 d.data.ty, .slice p3 q3 k3, .slice p4 q4 k4, .slice p5 q5 k5, .slice p6 q6 k6] 103))
      have HBW := Lib.hid (hwr.alloc hwr.size (.cells #[.slice p0 q0 k0, .int .u32 (d.ttl : Int), .int .i64 d.data.ty, .slice p3 q3 k3, .slice p4 q4 k4, .slice p5 q5 k5, .slice p6 q6 k6] 103))
      have hn := hnk _ _ (hown0.below HBW.out) HBW.out
      have HO1 := Lib.hid (OwnK.below HO.out ((Below.refl _ wr).alloc (Nat.le_refl _) (.cells #[.slice p0 q0 k0, .int .u32 (d.ttl : Int), .int .i64 d.data.ty, .slice p3 q3 k3, .slice p4 q4 k4, .slice p5 q5 k5, .slice p6 q6 k6] 103)))
      have X1 := Lib.hid (knew wr (.cells #[.slice p0 q0 k0, .int .u32 (d.ttl : Int), .int .i64 d.data.ty, .slice p3 q3 k3, .slice p4 q4 k4, .slice p5 q5 k5, .slice p6 q6 k6] 103))
      have HTK := Lib.hid htk
      have HBE := Lib.hid (show belM o t d = (decide (d.data.ty = t) && sameN d.owner o) from rfl)
      generalize belM o t d = res at *
      clear h0 htk hd e0 hown0 hk1 hk2 hel hnk HO HB hwr
      generalize (d.ttl : Int) = tr at *
      generalize d.data.ty = ty at *
      by_cases hty : ty = t
      · subst hty
        have HR1 : Hid (res = sameN d.owner o) := Lib.hid (by rw [HBE.out]; simp)
        clear HBE
        go_wp2_with fail
        refine hn.mono ?_
        rintro e w2 ⟨rfl, hbb2⟩
        have HB2 := Lib.hid (HBB.out.trans (hbb2.mono HBB.out.size))
        have hblk := (hbb2.block wr.heap.size (by simp)).trans X1.out
        have y0 := kcell hblk 0 _ rfl; have y1 := kcell hblk 1 _ rfl; have y2 := kcell hblk 2 _ rfl; have y3 := kcell hblk 3 _ rfl; have y4 := kcell hblk 4 _ rfl; have y5 := kcell hblk 5 _ rfl; have y6 := kcell hblk 6 _ rfl
        have HO2 := Lib.hid (OwnK.below HO1.out hbb2)
        have hz2 := HB2.out.size
        have HTL := Lib.hid (show csw.length ≤ 1048576 by have := HRw.out.1; have h2 := List.length_filter_le (belM o ty) (rs.take k); rw [List.length_take] at h2; omega)
        clear hbb2 hblk hn HBB HO1 X1 c0' c1 c2 c3 c4 c5 c6
        by_cases hs : sameN d.owner o = true
        · rw [hs] at HR1 ⊢
          have HT : Hid ((rs.take (k + 1)).filter (belM o ty) = (rs.take k).filter (belM o ty) ++ [d]) := Lib.hid (by rw [HTK.out, HR1.out]; simp)
          have HRw2 : Hid (Rcs w (csw ++ [[.slice p0 q0 k0, .int .u32 tr, .int .i64 ty, .slice p3 q3 k3, .slice p4 q4 k4, .slice p5 q5 k5, .slice p6 q6 k6]]) ((rs.take (k + 1)).filter (belM o ty))) := Lib.hid (by rw [HT.out]; exact HRw.out.snoc HD0.out)
          clear HTK hs HT HRw HD0 HR1
          go_wp2_with (at_builtin; refine wpl_append_c' w2 rfl (.tmp 29) (.tmp 31) elem_rec (by decide) rfl W0.heap.size (.slice ga gn gc) csw rfl HO2.out [.slice p0 q0 k0, .int .u32 tr, .int .i64 ty, .slice p3 q3 k3, .slice p4 q4 k4, .slice p5 q5 k5, .slice p6 q6 k6] rfl (by intro u hu; simp only [List.mem_cons, List.not_mem_nil, or_false] at hu; rcases hu with rfl | rfl | rfl | rfl | rfl | rfl | rfl <;> rfl) 1 (by rfl) hz2 (by have := HTL.out; unfold maxLen; omega) (by have := HTL.out; omega) ?_; intro v3 w3 hown3 hg3)
          have HB3 := Lib.hid (HB2.out.grown hg3 hz2 (OwnK.base_le HO2.out))
          obtain ⟨a9, c9, e9⟩ := OwnK.shape hown3
          subst e9
          have HO3 := Lib.hid hown3
          generalize List.length (csw ++ _) = m9 at *
          clear hg3 hown3
          go_roundw
          case measure => simp [intOf]; omega
          case rel => exact ⟨k + 1, a9, m9, c9, _, rfl, by go_num, by omega, HO3, HRw2, HB3⟩
        · simp only [Bool.not_eq_true] at hs
          rw [hs] at HR1 ⊢
          have HTK2 : Hid ((rs.take (k + 1)).filter (belM o ty) = (rs.take k).filter (belM o ty)) := Lib.hid (by rw [HTK.out, HR1.out]; simp)
          have HRw2 : Hid (Rcs w csw ((rs.take (k + 1)).filter (belM o ty))) := Lib.hid (by rw [HTK2.out]; exact HRw.out)
          clear HTK HTK2 HR1 HRw hs
          go_wp2
          go_roundw
          case measure => simp [intOf]; omega
          case rel => exact ⟨k + 1, ga, gn, gc, csw, rfl, by go_num, by omega, HO2, HRw2, HB2⟩
      · have hxb : (ty == t) = false := by simpa using hty
        have HR1 : Hid (res = false) := Lib.hid (by rw [HBE.out]; simp [hty])
        clear HBE hn
        have HTK2 : Hid ((rs.take (k + 1)).filter (belM o t) = (rs.take k).filter (belM o t)) := Lib.hid (by rw [HTK.out, HR1.out]; simp)
        have HRw2 : Hid (Rcs w csw ((rs.take (k + 1)).filter (belM o t))) := Lib.hid (by rw [HTK2.out]; exact HRw.out)
        clear HTK HTK2 HR1 HRw
        go_wp2
        go_roundw
        case measure => simp [intOf]; omega
        case rel => exact ⟨k + 1, ga, gn, gc, csw, rfl, by go_num, by omega, HO1, HRw2, HBB⟩
    · obtain rfl : k = n := by omega
      have h := HRw.out
      rw [List.take_of_length_le (by have := HDL.out; omega)] at h
      have HH := Lib.hid h
      clear h HRw
      have hwr : Below w.heap.size w wr := HB0.out.trans (HB.out.mono (by have := HZ0.out; omega))
      have hC := rec_Canon (.slice ga gn gc) csw (rs.filter (belM o t)) wr (SlK.of_own HO.out HH.out.ck) (HH.out.below hwr) (fun r hr => HOK.out r (List.mem_filter.1 hr).1) (by have := HH.out.1; have h2 := List.length_filter_le (belM o t) rs; have := HDL.out; omega)
      have HFL := Lib.hid (show (rs.filter (belM o t)).length ≤ 1048576 by have h2 := List.length_filter_le (belM o t) rs; have := HDL.out; omega)
      have HOKL := Lib.hid (canonM_ok' (rs.filter (belM o t)) (fun r hr => HOK.out r (List.mem_filter.1 hr).1))
      have HOF := Lib.hid (show ofM rs o t = (setsM (canonM (rs.filter (belM o t)))).head? from rfl)
      obtain ⟨L, hL⟩ : ∃ L, canonM (rs.filter (belM o t)) = L := ⟨_, rfl⟩
      unfold CanonPost at hC
      have HLn := Lib.hid (show L.length ≤ 1048576 by rw [← hL]; have := canonM_length (rs.filter (belM o t)); have := HFL.out; omega)
      rw [hL] at hC HOKL HOF
      generalize ofM rs o t = res at *
      clear hwr HH HO HFL hL HN HA HR HOK
      go_wp2_with fail
      refine hC.mono ?_
      rintro e w1 ⟨v2, css2, rfl, ho1, hl1, hf1, hb1⟩
      obtain ⟨a1, c1, rfl⟩ := OwnK.shape ho1
      obtain ⟨m, hm⟩ : ∃ m, css2.length = m := ⟨_, rfl⟩
      rw [hm] at ho1 hl1 ⊢
      have HO1 := Lib.hid ho1; have HL1 := Lib.hid hl1; have HF1 := Lib.hid hf1; have HB1 := Lib.hid hb1; have HM := Lib.hid hm
      clear ho1 hl1 hf1 hb1 hC hm
      go_wp2_with fail
      refine (rset_sets _ _ _ _).mono ?_
      rintro e w2 ⟨rfl, rfl⟩
      go_wp2
      refine (wpIn_wide (n := 8)).1 ?_
      obtain ⟨B, hB⟩ : ∃ B, w.heap.size = B := ⟨_, rfl⟩
      obtain ⟨W2, hW2⟩ : ∃ W2, w1.alloc (.cells #[.slice a1 m c1] 22) = W2 := ⟨_, rfl⟩
      obtain ⟨N, hN⟩ : ∃ N, W2.heap.size = N := ⟨_, rfl⟩
      have hsz : N = w1.heap.size + 1 := by rw [← hN, ← hW2]; simp
      have hs0 : B + 2 ≤ wr.heap.size := by have h1 := HZ0.out; have h2 := HB.out.size; omega
      have hs1 : wr.heap.size ≤ w1.heap.size := HB1.out.size
      have hB12 : Below w1.heap.size w1 W2 := by rw [← hW2]; exact (Below.refl _ w1).alloc (Nat.le_refl _) _
      have hB02 : Below W0.heap.size W0 W2 := (HB.out.trans (HB1.out.mono HB.out.size)).trans (hB12.mono (by have := HB.out.size; omega))
      have hw2 : Below w.heap.size w W2 := HB0.out.trans (hB02.mono (by have := HZ0.out; omega))
      have b1 : Boxed W2 w1.heap.size 22 (.slice a1 m c1) := by rw [← hW2]; exact Boxed.new w1 _ _
      have x6 : W2.heap[B]? = some (.cells #[.slice none 0 0, .int .i64 0, .int .u32 0, .slice none 0 0] 38) := by
        rw [← hB]; exact (hB02.block _ (by have := HZ0.out; omega)).trans X6.out
      have x7 : W2.heap[B + 1]? = some (.cells #[.bool false] 4) := by
        rw [← hB]; exact (hB02.block _ (by have := HZ0.out; omega)).trans X7.out
      have hml : m = L.length := HL1.out
      have hmb : m ≤ 1048576 := by have := HLn.out; omega
      have hm := HM.out
      have hfr : ∀ j (h1 : j < css2.length) (h2 : j < L.length), FrAt W2 (B + 2) css2[j] L[j] := fun j h1 h2 => ((HF1.out j h1 h2).below hB12).weaken hs0
      have hfrK : ∀ W, KpX N B W2 W → ∀ j (h1 : j < css2.length) (h2 : j < L.length), FrAt W (B + 2) css2[j] L[j] := fun W hK j h1 h2 => (hfr j h1 h2).keptX (by omega) (hK.grownX hN.symm)
      have hst : ∀ W, KpX N B W2 W → Rcs W css2 L := fun W hK => ⟨by rw [hm]; exact hml, fun i h1 h2 => (hfrK W hK i h1 h2).rcAt⟩
      have hsl : SlK W2 (.slice a1 m c1) css2 := (SlK.of_own HO1.out (fun cs hc => by
        obtain ⟨i, hi, rfl⟩ := List.mem_iff_getElem.1 hc
        exact (HF1.out i hi (by omega)).rcAt.len)).below hB12
      have hown : ∀ b, (Value.slice a1 m c1).ownBlock = some b → b ≠ B := fun b e => by
        have := OwnK.base_le HO1.out b e
        omega
      obtain ⟨vo, vn, vu, vt, vr, hc⟩ := rcs_shapes (hst W2 (KpX.refl _ _ _))
      have HSEQ := Lib.hid (sets_stops N B W2 a1 m c1 w1.heap.size css2 L vo vn vu vt vr hsl hm hmb hst HOKL.out hN.symm (by omega) (by omega) hown b1 hc)
      rw [hB, hW2]
      have HSZ := Lib.hid hsz; have HS0 := Lib.hid hs0; have HS1 := Lib.hid hs1; have HW2 := Lib.hid hw2; have HBb := Lib.hid hB; have HN := Lib.hid hN; have HFK := Lib.hid hfrK; have HCC := Lib.hid hc; have Y6 := Lib.hid x6; have Y7 := Lib.hid x7; have HML := Lib.hid hml
      clear hsz hs0 hs1 hw2 hB hN hst hmb hc hfr hsl hown hml HF1 HO1 HB1 hm hfrK x6 x7 hB12 hB02 b1 hW2 HB HB0 X6 X7
      refine wpIn_rangeFunc_D rfl (by omega) (gf := 110) (lb := #[.pointer (some ⟨w1.heap.size, 0, none⟩)]) rfl trivial (enters_of Tryz.func110 (by kernel_rfl) rfl)
        HSEQ.out (fun h k => h.trans k)
        (fun W l o o' hl h h1 h2 => ⟨rfl, rfl, rfl, by simp, fun k a b => World.putObj_heap_other (by have := HN.out; omega)⟩) (Below.refl _ _) (fun _ => rfl)
        (OfI N B W2) (OfX N B w css2 vo L) (by rw [HN.out]; exact ofI_own (by have := HSZ.out; have := HS0.out; have := HS1.out; omega) (by rw [HN.out]; omega)) (fun c => by rw [HN.out]; exact ofX_own c (by have := HSZ.out; have := HS0.out; have := HS1.out; omega) (by have := HSZ.out; have := HS0.out; have := HS1.out; have := HBb.out; omega))
        ⟨rfl, KpX.refl _ _ _, Y6.out⟩
        (fun x a' W => ∃ b, a' = { tmps := #[.slice v1 k c, .slice ao qo co, .int .i64 t, undef, undef, undef, .pointer (some ⟨B, 0, none⟩), .pointer (some ⟨B + 1, 0, none⟩), .slice ga gn gc, undef, u10, .pointer (some ⟨b, 0, none⟩), .slice v1 k c, .int .i64 k, .int .i64 k, .bool false, u16, u17, u18, u19, u20, u21, u22, u23, u24, u25, u26, u27, u28, u29, u30, u31, u32, u33, .slice ga gn gc, .slice a1 m c1, .func (.func 110) #[] #[.pointer (some ⟨w1.heap.size, 0, none⟩)], .agg (setC vo L x).toArray, undef, undef], defers := [] } ∧ W2.heap.size ≤ b ∧ W.heap[b]? = some (.cells (setC vo L x).toArray 38) ∧ DatO N css2 x W)
        (fun a' x W W' row ⟨b, ha, hb, hx, hd⟩ hg hr => ⟨b, ha, hb, (hg.block b (kblock_lt hx) (fun e => by obtain ⟨_, o, ho, hcell⟩ := hr b e.symm; rw [hx] at ho; cases ho; cases hcell)).trans hx, hd.keptO hg (fun r e => (hr r e).2)⟩) ?assign ?body ?done ?stop
      case assign =>
        intro l pre x W K hi hd hK
        have hNW : N ≤ W.heap.size := by rw [← HN.out]; exact hi.2.1.size
        have hbA : ∀ o, Below W.heap.size W (W.alloc o) := fun o => (Below.refl _ W).alloc (Nat.le_refl _) o
        unfold setV
        gi_wp2
        exact hK _ _ ((KeepsOthers.of_below (hbA _)).from _) (KpX.of_below hNW (hbA _)) ⟨hi.1, hi.2.1.trans (KpX.of_below hNW (hbA _)), ((hbA _).block B (kblock_lt hi.2.2)).trans hi.2.2⟩ ⟨W.heap.size, rfl, by rw [HN.out]; exact hNW, knew W _, OwnK.below hd (hbA _)⟩
      case body =>
        rintro l pre x a' W ⟨rfl, hK, hx6⟩ ⟨b, rfl, hb, hbx, hdx⟩ hlt
        have hNW : N ≤ W.heap.size := by rw [← HN.out]; exact hK.size
        have hBN : B + 2 ≤ N := by have := HSZ.out; have := HS0.out; have := HS1.out; omega
        have hx7 : W.heap[B + 1]? = some (.cells #[.bool false] 4) := (hK.block (B + 1) (by omega) (by omega)).trans Y7.out
        have hfr := HFK.out W hK
        have hww : Below w.heap.size w W := HW2.out.trans (hK.below (by have := HBb.out; omega) (by have := HBb.out; omega))
        have hcs : ∃ p0 q0 k0 t1 t2 p3 q3 k3, setC vo L x = [.slice p0 q0 k0, .int .i64 t1, .int .u32 t2, .slice p3 q3 k3] := ⟨_, _, _, _, _, _, _, _, rfl⟩
        obtain ⟨p0, q0, k0, t1, t2, p3, q3, k3, ecs⟩ := hcs
        have HEC := Lib.hid ecs
        rw [ecs] at hbx
        have y0 := kcell hbx 0 _ rfl; have y1 := kcell hbx 1 _ rfl; have y2 := kcell hbx 2 _ rfl; have y3 := kcell hbx 3 _ rfl
        have z0 := kcell hx6 0 _ rfl; have z1 := kcell hx6 1 _ rfl; have z2 := kcell hx6 2 _ rfl; have z3 := kcell hx6 3 _ rfl; have z4 := kcell hx7 0 _ rfl
        have f0 := kfrozen hx6 0; have f1 := kfrozen hx6 1; have f2 := kfrozen hx6 2; have f3 := kfrozen hx6 3; have f4 := kfrozen hx7 0
        have HD := Lib.hid hdx; have HF := Lib.hid hfr; have HWW := Lib.hid hww; have HX6 := Lib.hid hx6; have HX7 := Lib.hid hx7; have HNW := Lib.hid hNW
        rw [ecs]
        clear hbx hdx hfr hww hx6 hx7 ecs hNW HSEQ hK
        gi_wp2
        exact ⟨(((((KeepsOthers.setCell _ _ _).trans (KeepsOthers.setCell _ _ _)).trans (KeepsOthers.setCell _ _ _)).trans (KeepsOthers.setCell _ _ _)).trans (KeepsOthers.setCell _ _ _)).from _, of_fin HEC.out HX6.out HX7.out HD.out HF.out HWW.out (by rw [HBb.out]; exact Nat.le_refl _)⟩
      case done =>
        rintro d xs W hd hxs ⟨rfl, hK, hx6⟩ hD0
        have hDN : N ≤ d := by rw [HN.out] at hd; exact hd
        have hBN : B + 2 ≤ N := by have := HSZ.out; have := HS0.out; have := HS1.out; omega
        have hx7 : W.heap[B + 1]? = some (.cells #[.bool false] 4) := (hK.block (B + 1) (by omega) (by omega)).trans Y7.out
        have hww : Below w.heap.size w W := HW2.out.trans (hK.below (by have := HBb.out; omega) (by have := HBb.out; omega))
        have HRES : Hid (res = none) := Lib.hid (by
          rw [HOF.out, ← segs_sets, ← hxs]; rfl)
        have hBw : w.heap.size ≤ B := by rw [HBb.out]; exact Nat.le_refl _
        have z0 := kcell hx6 0 _ rfl; have z1 := kcell hx6 1 _ rfl; have z2 := kcell hx6 2 _ rfl; have z3 := kcell hx6 3 _ rfl; have z4 := kcell hx7 0 _ rfl
        have f0 := kfrozen hx6 0; have f1 := kfrozen hx6 1; have f2 := kfrozen hx6 2; have f3 := kfrozen hx6 3; have f4 := kfrozen hx7 0
        obtain ⟨W5, hW5, k6, k7, k8, k9⟩ := of_zero hx6 hx7 hww hBw hD0 (by omega) (by omega)
        have e6 : (W5.putObj d (.deferred none)).heap[B]? = _ := (World.putObj_heap_other (by omega)).trans k6
        have e7 : (W5.putObj d (.deferred none)).heap[B + 1]? = _ := (World.putObj_heap_other (by omega)).trans k7
        have HWW : Hid (Below w.heap.size w (W5.putObj d (.deferred none))) := Lib.hid (below_putO k8 (show w.heap.size ≤ d by omega) (Nat.le_refl _))
        have c0 := kcell e6 0 _ rfl; have c1' := kcell e6 1 _ rfl; have c2 := kcell e6 2 _ rfl; have c3 := kcell e6 3 _ rfl; have c4 := kcell e7 0 _ rfl
        have HC0 := Lib.hid c0; have HC1 := Lib.hid c1'; have HC2 := Lib.hid c2; have HC3 := Lib.hid c3; have HC4 := Lib.hid c4
        have HW5 := Lib.hid hW5; have HK9 := Lib.hid k9
        clear hx6 hx7 hK e6 e7 c0 c1' c2 c3 c4 hww hxs hW5 k6 k7 k8 k9 hD0
        go_wp2
        rw [HW5.out]
        refine ⟨by simp, .inl ⟨_, _, rfl, run_takeDeferred HK9.out, ?_⟩⟩
        refine ⟨_, results_set rfl _ _ rfl rfl rfl rfl rfl rfl rfl HC0.out HC1.out HC2.out HC3.out HC4.out, ?_⟩
        rw [HRES.out]
        exact ⟨_, rfl, frSet_zero _ _, HWW.out⟩
      case stop =>
        rintro d c3 pre W hd hp hX hK
        obtain ⟨rfl, x, rfl, hww, hx6, hx7, hdx, hfr⟩ := hX
        have hcs : ∃ p0 q0 k0 t1 t2 p3 q3 k3, setC vo L x = [.slice p0 q0 k0, .int .i64 t1, .int .u32 t2, .slice p3 q3 k3] := ⟨_, _, _, _, _, _, _, _, rfl⟩
        obtain ⟨p0, q0, k0, t1, t2, p3, q3, k3, ecs⟩ := hcs
        have HEC := Lib.hid ecs
        rw [ecs] at hx6
        have hr : ∀ r, some d = some r → ∃ o : Obj, W.heap[r]? = some o ∧ o.isCells = false := fun r e => by cases e; exact ⟨_, hK, rfl⟩
        have hg := grownBy_putObj' W d (.deferred none)
        have hDN : N ≤ d := by rw [HN.out] at hd; exact hd
        have hBN : B + 2 ≤ N := by have := HSZ.out; have := HS0.out; have := HS1.out; omega
        have e6 : (W.putObj d (.deferred none)).heap[B]? = _ := (World.putObj_heap_other (by omega)).trans hx6
        have e7 : (W.putObj d (.deferred none)).heap[B + 1]? = _ := (World.putObj_heap_other (by omega)).trans hx7
        have HS : Hid (FrSet (W.putObj d (.deferred none)) w.heap.size (setC vo L x) (setR L x.1.1)) := Lib.hid (frSet_of HM.out (by rw [HM.out]; exact HML.out) (by have := HBb.out; omega) (fun j h1 h2 => ((hfr j h1 h2).keptO hg hr).weaken (by have := HBb.out; omega)) HCC.out x (OwnC.keptO hdx hg hr))
        have HRES : Hid (res = some (setR L x.1.1)) := Lib.hid (by
          obtain ⟨t', ht'⟩ := hp
          rw [HOF.out, ← segs_sets, ← ht']; rfl)
        have HWW : Hid (Below w.heap.size w (W.putObj d (.deferred none))) := Lib.hid (below_putO hww (show w.heap.size ≤ d by have := HBb.out; omega) (Nat.le_refl _))
        rw [HEC.out] at HS
        have c0 := kcell e6 0 _ rfl; have c1' := kcell e6 1 _ rfl; have c2 := kcell e6 2 _ rfl; have c3 := kcell e6 3 _ rfl; have c4 := kcell e7 0 _ rfl
        have HC0 := Lib.hid c0; have HC1 := Lib.hid c1'; have HC2 := Lib.hid c2; have HC3 := Lib.hid c3; have HC4 := Lib.hid c4
        clear hx6 hx7 hdx hfr ecs hr hg e6 e7 c0 c1' c2 c3 c4 hww
        gi_wp2
        refine ⟨by simp, .inl ⟨_, _, rfl, run_takeDeferred hK, ?_⟩⟩
        refine ⟨_, results_set rfl _ _ rfl rfl rfl rfl rfl rfl rfl HC0.out HC1.out HC2.out HC3.out HC4.out, ?_⟩
        rw [HRES.out]
        exact ⟨_, rfl, HS.out, HWW.out⟩
end
theorem rset_OfK (v1 : Option Addr) (n c : Nat) (vo : Value) (o : Nm) (t : Int) (css : List (List Value)) (rs : List Rc) (w : World) (hA : SlK w (.slice v1 n c) css) (hR : Rcs w css rs) (hOK : ∀ r ∈ rs, RcOK r) (hO : NmAt w vo o) (hko : NmOK o) (hl : n ≤ 1048576) :
    Calls Tryz.prog 21 #[.slice v1 n c, vo, .int .i64 t] w (OfPostK w (ofM rs o t)) :=
  (rset_OfF v1 n c vo o t css rs w hA hR hOK hO hko hl).mono fun _ _ h => h.postK
theorem rset_Of (v1 : Option Addr) (n c : Nat) (vo : Value) (o : Nm) (t : Int) (css : List (List Value)) (rs : List Rc) (w : World) (hA : SlK w (.slice v1 n c) css) (hR : Rcs w css rs) (hOK : ∀ r ∈ rs, RcOK r) (hO : NmAt w vo o) (hko : NmOK o) (hl : n ≤ 1048576) :
    Calls Tryz.prog 21 #[.slice v1 n c, vo, .int .i64 t] w (OfPost w (ofM rs o t)) :=
  (rset_OfK v1 n c vo o t css rs w hA hR hOK hO hko hl).mono fun _ _ h => h.post
end Go.Proofs.YtckammgnmgkieaaGreat

