/-
  rdata.Text (but of AAAA). (Written by wip/tools/gen9.py.)
-/
import Derived.Test.YtkjmghnbcnbdbaaGreatDoorMQ19
namespace Go.Proofs.YtkjmghnbcnbdbaaGreatDoor
open Go.RowKit Go.Shelf
set_option maxRecDepth 20000

/-- append of a whole slice of strings, inside a drawn region. -/
theorem step_append_s {S : TypeId} {ops : Array Oper} {o : Oper} {a : Act} {K : Act → World → Prop} {Q : Exit → Act → World → Prop} {E : Prop} (W : World) (hgd : o.guard = none) (s x : Operand) (hE : ElemT 9 S 16)
    (ho : o.op = .call { callee := .builtin .append, args := #[s, x], argTypes := #[S, S] })
    (base : Nat) (v : Value) (xs : Nm) (hs : a.eval s = v) (hown : OwnG 9 strV W base v xs)
    (src : Value) (ys : Nm) (hx : a.eval x = src) (hsrc : StrsAt W src ys) (hok : SlOK src)
    (hbase : base ≤ W.heap.size) (hk : xs.length + ys.length ≤ maxLen) (hk2 : (xs.length + ys.length) * 16 ≤ 140737488355328)
    (h : ∀ v' w', OwnG 9 strV w' base v' (xs ++ ys) → W.grownBy w' v.ownBlock → K (a.put o.dst v') w') :
    if Region.wanted o (yielded ops a.tmps) = true then Oper.wp Tryz.prog o a W K Q else E := by
  have hw : Region.wanted o (yielded ops a.tmps) = true := by simp [Region.wanted, hgd]
  rw [if_pos hw]
  obtain ⟨ht, i, z, hi, hz, hz1, hz2, hzc⟩ := hE
  obtain ⟨a0, c0, rfl, _⟩ := id hsrc
  obtain ⟨av, cv, rfl⟩ := hown.shape
  cases a0 with
  | none =>
    obtain ⟨a1, n1, c1, e1, _, e2⟩ := hok
    cases e1
    have e3 := e2 rfl
    subst e3
    obtain ⟨a2, c2, e4, h4⟩ := hsrc
    cases e4
    rcases h4 with e5 | ⟨_, _, e5, _⟩
    · subst e5
      have hrun := run_append_owned_none (P := Tryz.prog) (w := W) base S o.type _ i 1 ht hi (.slice av xs.length cv) _ _ hown
      rw [List.length_nil] at hx
      unfold Oper.wp
      simp [execOp, ho, resolve, invoke, builtin, hs, hx, hrun, Result.andThen]
      exact h _ W (by rw [List.append_nil]; exact hown) ⟨rfl, rfl, rfl, Nat.le_refl _, fun _ _ _ => rfl⟩
    · cases e5
  | some ad =>
    obtain ⟨v', w', hr, h1, h2, _⟩ := run_append_own (P := Tryz.prog) W base S o.type _ i z 1 16 ht hi hz hz1 hz2 hzc (by decide) (.slice av xs.length cv) xs.length (xs.map strV) hown ad ys.length c0 (ys.map strV) (by simp) (strsAt_cells hsrc rfl) (by intro u hu; obtain ⟨y, _, rfl⟩ := List.mem_map.1 hu; rfl) hk hk2 hbase
    unfold Oper.wp
    simp only [execOp, ho, resolve, invoke, builtin, Sem.run_bind, Sem.run_pure, Result.andThen_ok, List.map_toArray, List.map_cons, List.map_nil, hs, hx, hr]
    refine h v' w' ?_ h2
    unfold OwnG
    rw [List.length_append, List.map_append]
    exact h1

/-- Bounds that let data be told. -/
def DatFew (d : Dat) : Prop := DatOK d ∧ d.names.length ≤ 1024 ∧ (∀ n ∈ d.names, n.length ≤ 1024 ∧ ∀ x ∈ n, x.length ≤ 1024) ∧ d.nums.length ≤ 1024 ∧ d.texts.length ≤ 1024
theorem textN_few {n : Nm} (h : n.length ≤ 1024 ∧ ∀ x ∈ n, x.length ≤ 1024) : (textN n).length ≤ 4195328 := by
  by_cases h0 : n = []
  · subst h0; simp [textN]
  · rw [textN_eq h0]
    obtain ⟨h1, h2⟩ := h
    have key : ∀ n : Nm, (∀ x ∈ n, x.length ≤ 1024) → (textF n).length ≤ n.length * 4097 := by
      intro n
      induction n with
      | nil => intro _; simp [textF]
      | cons x r ih =>
        intro h
        have e1 := h x (by simp)
        have e2 := ih (fun y hy => h y (by simp [hy]))
        have e3 := textL_le x
        simp only [textF, List.flatMap_cons, List.length_append, List.length_cons, List.length_nil] at e2 ⊢
        omega
    have := key n h2
    omega
theorem quotedM_few {l : List UInt8} (h : l.length ≤ 1048576) : (quotedM l).length ≤ 4195328 := by
  have := quoteF_le l
  unfold quotedM quoteF at *
  simp only [List.length_cons, List.length_append, List.length_nil]
  omega
theorem parts_few {d : Dat} (h : DatFew d) : ∀ x ∈ d.names.map textN ++ d.nums.map Lib.decDigits, x.length ≤ 4195328 := by
  intro x hx
  rcases List.mem_append.1 hx with hx | hx
  · obtain ⟨n, hn, rfl⟩ := List.mem_map.1 hx
    exact textN_few (h.2.2.1 n hn)
  · obtain ⟨n, hn, rfl⟩ := List.mem_map.1 hx
    have := h.1.2.2.2.2.1 n hn
    have := dec_len n (by omega)
    omega

set_option maxRecDepth 100000 in
set_option maxHeartbeats 8000000 in
theorem text_mx (v : Value) (d : Dat) (w : World) (hA : DatAt w v d) (hk : DatFew d) (hT : Tab w) (ht : d.ty = 15) :
    Calls Tryz.prog 12 #[v] w fun e w' => e = .returned (.string ⟨(textD d).toArray⟩) ∧ Below w.heap.size w w' := by
  have hM : textD d = sepBy [32] ((d.nums.map Lib.decDigits) ++ (d.names.map textN)) := by unfold textD; rw [ht]; rfl
  have hlen := sepBy_len [32] 4195328 ((d.nums.map Lib.decDigits) ++ (d.names.map textN)) (fun x hx => parts_few hk x (by simp only [List.mem_append] at hx ⊢; exact hx.symm))
  have hNum : ∀ W, Below w.heap.size w W → Calls Tryz.prog 31 #[v] W fun e w' => ∃ v', e = .returned v' ∧ OwnG 9 strV w' W.heap.size v' (d.nums.map Lib.decDigits) ∧ Below W.heap.size W w' := fun W hb =>
    rdata_numWords v d W (hA.below hb) hk.1 (hT.below hb)
  have hName : ∀ W, Below w.heap.size w W → Calls Tryz.prog 30 #[v] W fun e w' => ∃ v', e = .returned v' ∧ OwnG 9 strV w' W.heap.size v' (d.names.map textN) ∧ Below W.heap.size W w' := fun W hb =>
    rdata_nameWords v d W (hA.below hb) hk.1
  obtain ⟨vn, vu, vt, vr, rfl, _⟩ := hA
  rw [ht] at hNum hName ⊢
  have hl1 : (d.nums.map Lib.decDigits).length ≤ 1024 := by rw [List.length_map]; exact hk.2.2.2.1
  have hl2 : (d.names.map textN).length ≤ 1024 := by rw [List.length_map]; exact hk.2.1
  obtain ⟨xs, hnu⟩ : ∃ xs, (d.nums.map Lib.decDigits) = xs := ⟨_, rfl⟩
  obtain ⟨ys, hna⟩ : ∃ ys, (d.names.map textN) = ys := ⟨_, rfl⟩
  rw [hnu] at hM hlen hNum hl1
  rw [hna] at hM hlen hName hl2
  have hJ : ∀ W b va, OwnG 9 strV W b va (xs ++ ys) → _ := fun W b va hv => join_nm va (xs ++ ys) ⟨#[32]⟩ W (OwnG.nmAt hv) (by rw [List.length_append]; omega) (by
    have e : (⟨#[32]⟩ : ByteArray).data.toList = [32] := rfl
    rw [e]; refine Nat.le_trans hlen ?_
    rw [List.length_append]
    have : xs.length + ys.length ≤ 2048 := by omega
    exact Nat.le_trans (Nat.mul_le_mul_right _ this) (by decide))
  have HM := Lib.hid hM
  have HJ := Lib.hid hJ
  clear hnu hna hM hlen hJ hk hT
  have hb0 : Below w.heap.size w (w.alloc (.cells #[.int .i64 15, vn, vu, vt, vr] 27)) := (Below.refl _ w).alloc (Nat.le_refl _) _
  have hbx := block_new w (.cells #[.int .i64 15, vn, vu, vt, vr] 27)
  obtain ⟨c0, c1, c2, c3, c4⟩ := cells5 hbx
  have hS0 : ((w.alloc (.cells #[.int .i64 15, vn, vu, vt, vr] 27)).cell? ⟨w.heap.size, 0, none⟩ = some (.int .i64 15) ∧ (w.alloc (.cells #[.int .i64 15, vn, vu, vt, vr] 27)).cell? ⟨w.heap.size, 1, none⟩ = some vn ∧ (w.alloc (.cells #[.int .i64 15, vn, vu, vt, vr] 27)).cell? ⟨w.heap.size, 2, none⟩ = some vu ∧ (w.alloc (.cells #[.int .i64 15, vn, vu, vt, vr] 27)).cell? ⟨w.heap.size, 3, none⟩ = some vt ∧ (w.alloc (.cells #[.int .i64 15, vn, vu, vt, vr] 27)).cell? ⟨w.heap.size, 4, none⟩ = some vr ∧ Below w.heap.size w (w.alloc (.cells #[.int .i64 15, vn, vu, vt, vr] 27)) ∧ w.heap.size + 1 ≤ (w.alloc (.cells #[.int .i64 15, vn, vu, vt, vr] 27)).heap.size) := ⟨c0, c1, c2, c3, c4, hb0, by simp⟩
  have KD : ∀ W W' : World, (W.cell? ⟨w.heap.size, 0, none⟩ = some (.int .i64 15) ∧ W.cell? ⟨w.heap.size, 1, none⟩ = some vn ∧ W.cell? ⟨w.heap.size, 2, none⟩ = some vu ∧ W.cell? ⟨w.heap.size, 3, none⟩ = some vt ∧ W.cell? ⟨w.heap.size, 4, none⟩ = some vr ∧ Below w.heap.size w W ∧ w.heap.size + 1 ≤ W.heap.size) → Below (w.heap.size + 1) W W' → (W'.cell? ⟨w.heap.size, 0, none⟩ = some (.int .i64 15) ∧ W'.cell? ⟨w.heap.size, 1, none⟩ = some vn ∧ W'.cell? ⟨w.heap.size, 2, none⟩ = some vu ∧ W'.cell? ⟨w.heap.size, 3, none⟩ = some vt ∧ W'.cell? ⟨w.heap.size, 4, none⟩ = some vr ∧ Below w.heap.size w W' ∧ w.heap.size + 1 ≤ W'.heap.size) := by
    rintro W W' ⟨a0, a1, a2, a3, a4, hw, hsz⟩ hb
    have hA : w.heap.size < w.heap.size + 1 := by omega
    exact ⟨(hb.cell hA).trans a0, (hb.cell hA).trans a1, (hb.cell hA).trans a2, (hb.cell hA).trans a3, (hb.cell hA).trans a4, hw.trans (hb.mono (by omega)), Nat.le_trans hsz hb.size⟩
  have KS := Lib.hid (fun (W W' : World) (h : (W.cell? ⟨w.heap.size, 0, none⟩ = some (.int .i64 15) ∧ W.cell? ⟨w.heap.size, 1, none⟩ = some vn ∧ W.cell? ⟨w.heap.size, 2, none⟩ = some vu ∧ W.cell? ⟨w.heap.size, 3, none⟩ = some vt ∧ W.cell? ⟨w.heap.size, 4, none⟩ = some vr ∧ Below w.heap.size w W ∧ w.heap.size + 1 ≤ W.heap.size)) (hb : Below W.heap.size W W') => KD W W' h (hb.mono h.2.2.2.2.2.2))
  have KR := Lib.hid (fun (W : World) (h : (W.cell? ⟨w.heap.size, 0, none⟩ = some (.int .i64 15) ∧ W.cell? ⟨w.heap.size, 1, none⟩ = some vn ∧ W.cell? ⟨w.heap.size, 2, none⟩ = some vu ∧ W.cell? ⟨w.heap.size, 3, none⟩ = some vt ∧ W.cell? ⟨w.heap.size, 4, none⟩ = some vr ∧ Below w.heap.size w W ∧ w.heap.size + 1 ≤ W.heap.size)) => KD W W.drew h (below_drew1 (Below.refl _ W)))
  have KG := Lib.hid (fun (W W' : World) (v0 : Value) (zs : Nm) (h : (W.cell? ⟨w.heap.size, 0, none⟩ = some (.int .i64 15) ∧ W.cell? ⟨w.heap.size, 1, none⟩ = some vn ∧ W.cell? ⟨w.heap.size, 2, none⟩ = some vu ∧ W.cell? ⟨w.heap.size, 3, none⟩ = some vt ∧ W.cell? ⟨w.heap.size, 4, none⟩ = some vr ∧ Below w.heap.size w W ∧ w.heap.size + 1 ≤ W.heap.size)) (ho : OwnG 9 strV W (w.heap.size + 1) v0 zs) (hg : W.grownBy W' v0.ownBlock) => KD W W' h ((Below.refl _ W).grown hg h.2.2.2.2.2.2 ho.base_le))
  have KO := Lib.hid (fun (W : World) (v0 : Value) (zs : Nm) (ho : OwnG 9 strV W (w.heap.size + 1) v0 zs) => (ho.drew : OwnG 9 strV W.drew (w.heap.size + 1) v0 zs))
  have HNum := Lib.hid (fun (W : World) (h : (W.cell? ⟨w.heap.size, 0, none⟩ = some (.int .i64 15) ∧ W.cell? ⟨w.heap.size, 1, none⟩ = some vn ∧ W.cell? ⟨w.heap.size, 2, none⟩ = some vu ∧ W.cell? ⟨w.heap.size, 3, none⟩ = some vt ∧ W.cell? ⟨w.heap.size, 4, none⟩ = some vr ∧ Below w.heap.size w W ∧ w.heap.size + 1 ≤ W.heap.size)) => ((hNum W h.2.2.2.2.2.1).mono (by rintro e w' ⟨v', rfl, ho, hb2⟩; obtain ⟨a1, c1, rfl⟩ := ho.shape; exact ⟨a1, c1, rfl, ho.weaken h.2.2.2.2.2.2, hb2⟩) : Calls Tryz.prog 31 #[.agg #[.int .i64 15, vn, vu, vt, vr]] W fun e w' => ∃ a1 c1, e = .returned (.slice a1 xs.length c1) ∧ OwnG 9 strV w' (w.heap.size + 1) (.slice a1 xs.length c1) xs ∧ Below W.heap.size W w'))
  have HName := Lib.hid (fun (W : World) (h : (W.cell? ⟨w.heap.size, 0, none⟩ = some (.int .i64 15) ∧ W.cell? ⟨w.heap.size, 1, none⟩ = some vn ∧ W.cell? ⟨w.heap.size, 2, none⟩ = some vu ∧ W.cell? ⟨w.heap.size, 3, none⟩ = some vt ∧ W.cell? ⟨w.heap.size, 4, none⟩ = some vr ∧ Below w.heap.size w W ∧ w.heap.size + 1 ≤ W.heap.size)) => ((hName W h.2.2.2.2.2.1).mono (by rintro e w' ⟨v', rfl, ho, hb2⟩; obtain ⟨a1, c1, rfl⟩ := ho.shape; exact ⟨a1, c1, rfl, ho.weaken h.2.2.2.2.2.2, hb2⟩) : Calls Tryz.prog 30 #[.agg #[.int .i64 15, vn, vu, vt, vr]] W fun e w' => ∃ a1 c1, e = .returned (.slice a1 ys.length c1) ∧ OwnG 9 strV w' (w.heap.size + 1) (.slice a1 ys.length c1) ys ∧ Below W.heap.size W w'))
  have HS0 := Lib.hid hS0
  clear hNum hName hS0 KD hb0 hbx
  go_enter Tryz.func12, Tryz.ntmps12
  go_wp2_with fail
  generalize (w.alloc (.cells #[.int .i64 15, vn, vu, vt, vr] 27)) = W0 at *
  have hS := HS0.out
  clear HS0
  go_region_held3 (fun W => (W.cell? ⟨w.heap.size, 0, none⟩ = some (.int .i64 15) ∧ W.cell? ⟨w.heap.size, 1, none⟩ = some vn ∧ W.cell? ⟨w.heap.size, 2, none⟩ = some vu ∧ W.cell? ⟨w.heap.size, 3, none⟩ = some vt ∧ W.cell? ⟨w.heap.size, 4, none⟩ = some vr ∧ Below w.heap.size w W ∧ w.heap.size + 1 ≤ W.heap.size)) (first | assumption | exact KR.out _ (by assumption) | exact KG.out _ _ _ _ (by assumption) (by assumption) (by assumption)) (first | ((with_reducible refine (HNum.out _ (by assumption)).mono ?_); rintro e w2 ⟨a1, cc1, rfl, ho1, hb2⟩; have hS2 := KS.out _ _ (by assumption) hb2) | ((with_reducible refine (HName.out _ (by assumption)).mono ?_); rintro e w2 ⟨a2, cc2, rfl, ho2, hb2⟩; have hS2 := KS.out _ _ (by assumption) hb2; have ho1b := OwnG.below (by assumption : OwnG 9 strV _ _ (.slice a1 _ _) xs) hb2) | ((refine step_append_s _ (by rfl) _ _ elemStr (by rfl) (w.heap.size + 1) _ xs (by rfl) (by first | assumption | exact KO.out _ _ _ (by assumption)) _ ys (by rfl) (by first | exact StrsAt.of_own ho2 | exact StrsAt.of_own (KO.out _ _ _ ho2)) ho2.slOK (by go_split_ands; first | assumption | (simp; omega)) (by unfold maxLen; omega) (by omega) ?_; intro v3 w3 ho3 hgrow)) | ((with_reducible refine (HJ.out _ _ _ (by assumption)).mono ?_); rintro e w2 ⟨rfl, hb2⟩; have hS2 := KS.out _ _ (by assumption) hb2))
  all_goals
    rename_i hSe
    go_wp2_with fail
    go_ret
    exact ⟨by rw [HM.out]; rfl, hSe.2.2.2.2.2.1⟩

set_option maxRecDepth 100000 in
set_option maxHeartbeats 8000000 in
theorem text_n2 (v : Value) (d : Dat) (w : World) (hA : DatAt w v d) (hk : DatFew d) (hT : Tab w) (ht : d.ty = 2) :
    Calls Tryz.prog 12 #[v] w fun e w' => e = .returned (.string ⟨(textD d).toArray⟩) ∧ Below w.heap.size w w' := by
  have hM : textD d = sepBy [32] ((d.names.map textN) ++ (d.nums.map Lib.decDigits)) := by unfold textD; rw [ht]; rfl
  have hlen := sepBy_len [32] 4195328 ((d.names.map textN) ++ (d.nums.map Lib.decDigits)) (fun x hx => parts_few hk x (hx))
  have hNum : ∀ W, Below w.heap.size w W → Calls Tryz.prog 31 #[v] W fun e w' => ∃ v', e = .returned v' ∧ OwnG 9 strV w' W.heap.size v' (d.nums.map Lib.decDigits) ∧ Below W.heap.size W w' := fun W hb =>
    rdata_numWords v d W (hA.below hb) hk.1 (hT.below hb)
  have hName : ∀ W, Below w.heap.size w W → Calls Tryz.prog 30 #[v] W fun e w' => ∃ v', e = .returned v' ∧ OwnG 9 strV w' W.heap.size v' (d.names.map textN) ∧ Below W.heap.size W w' := fun W hb =>
    rdata_nameWords v d W (hA.below hb) hk.1
  obtain ⟨vn, vu, vt, vr, rfl, _⟩ := hA
  rw [ht] at hNum hName ⊢
  have hl1 : (d.names.map textN).length ≤ 1024 := by rw [List.length_map]; exact hk.2.1
  have hl2 : (d.nums.map Lib.decDigits).length ≤ 1024 := by rw [List.length_map]; exact hk.2.2.2.1
  obtain ⟨ys, hnu⟩ : ∃ xs, (d.nums.map Lib.decDigits) = xs := ⟨_, rfl⟩
  obtain ⟨xs, hna⟩ : ∃ ys, (d.names.map textN) = ys := ⟨_, rfl⟩
  rw [hnu] at hM hlen hNum hl2
  rw [hna] at hM hlen hName hl1
  have hJ : ∀ W b va, OwnG 9 strV W b va (xs ++ ys) → _ := fun W b va hv => join_nm va (xs ++ ys) ⟨#[32]⟩ W (OwnG.nmAt hv) (by rw [List.length_append]; omega) (by
    have e : (⟨#[32]⟩ : ByteArray).data.toList = [32] := rfl
    rw [e]; refine Nat.le_trans hlen ?_
    rw [List.length_append]
    have : xs.length + ys.length ≤ 2048 := by omega
    exact Nat.le_trans (Nat.mul_le_mul_right _ this) (by decide))
  have HM := Lib.hid hM
  have HJ := Lib.hid hJ
  clear hnu hna hM hlen hJ hk hT
  have hb0 : Below w.heap.size w (w.alloc (.cells #[.int .i64 2, vn, vu, vt, vr] 27)) := (Below.refl _ w).alloc (Nat.le_refl _) _
  have hbx := block_new w (.cells #[.int .i64 2, vn, vu, vt, vr] 27)
  obtain ⟨c0, c1, c2, c3, c4⟩ := cells5 hbx
  have hS0 : ((w.alloc (.cells #[.int .i64 2, vn, vu, vt, vr] 27)).cell? ⟨w.heap.size, 0, none⟩ = some (.int .i64 2) ∧ (w.alloc (.cells #[.int .i64 2, vn, vu, vt, vr] 27)).cell? ⟨w.heap.size, 1, none⟩ = some vn ∧ (w.alloc (.cells #[.int .i64 2, vn, vu, vt, vr] 27)).cell? ⟨w.heap.size, 2, none⟩ = some vu ∧ (w.alloc (.cells #[.int .i64 2, vn, vu, vt, vr] 27)).cell? ⟨w.heap.size, 3, none⟩ = some vt ∧ (w.alloc (.cells #[.int .i64 2, vn, vu, vt, vr] 27)).cell? ⟨w.heap.size, 4, none⟩ = some vr ∧ Below w.heap.size w (w.alloc (.cells #[.int .i64 2, vn, vu, vt, vr] 27)) ∧ w.heap.size + 1 ≤ (w.alloc (.cells #[.int .i64 2, vn, vu, vt, vr] 27)).heap.size) := ⟨c0, c1, c2, c3, c4, hb0, by simp⟩
  have KD : ∀ W W' : World, (W.cell? ⟨w.heap.size, 0, none⟩ = some (.int .i64 2) ∧ W.cell? ⟨w.heap.size, 1, none⟩ = some vn ∧ W.cell? ⟨w.heap.size, 2, none⟩ = some vu ∧ W.cell? ⟨w.heap.size, 3, none⟩ = some vt ∧ W.cell? ⟨w.heap.size, 4, none⟩ = some vr ∧ Below w.heap.size w W ∧ w.heap.size + 1 ≤ W.heap.size) → Below (w.heap.size + 1) W W' → (W'.cell? ⟨w.heap.size, 0, none⟩ = some (.int .i64 2) ∧ W'.cell? ⟨w.heap.size, 1, none⟩ = some vn ∧ W'.cell? ⟨w.heap.size, 2, none⟩ = some vu ∧ W'.cell? ⟨w.heap.size, 3, none⟩ = some vt ∧ W'.cell? ⟨w.heap.size, 4, none⟩ = some vr ∧ Below w.heap.size w W' ∧ w.heap.size + 1 ≤ W'.heap.size) := by
    rintro W W' ⟨a0, a1, a2, a3, a4, hw, hsz⟩ hb
    have hA : w.heap.size < w.heap.size + 1 := by omega
    exact ⟨(hb.cell hA).trans a0, (hb.cell hA).trans a1, (hb.cell hA).trans a2, (hb.cell hA).trans a3, (hb.cell hA).trans a4, hw.trans (hb.mono (by omega)), Nat.le_trans hsz hb.size⟩
  have KS := Lib.hid (fun (W W' : World) (h : (W.cell? ⟨w.heap.size, 0, none⟩ = some (.int .i64 2) ∧ W.cell? ⟨w.heap.size, 1, none⟩ = some vn ∧ W.cell? ⟨w.heap.size, 2, none⟩ = some vu ∧ W.cell? ⟨w.heap.size, 3, none⟩ = some vt ∧ W.cell? ⟨w.heap.size, 4, none⟩ = some vr ∧ Below w.heap.size w W ∧ w.heap.size + 1 ≤ W.heap.size)) (hb : Below W.heap.size W W') => KD W W' h (hb.mono h.2.2.2.2.2.2))
  have KR := Lib.hid (fun (W : World) (h : (W.cell? ⟨w.heap.size, 0, none⟩ = some (.int .i64 2) ∧ W.cell? ⟨w.heap.size, 1, none⟩ = some vn ∧ W.cell? ⟨w.heap.size, 2, none⟩ = some vu ∧ W.cell? ⟨w.heap.size, 3, none⟩ = some vt ∧ W.cell? ⟨w.heap.size, 4, none⟩ = some vr ∧ Below w.heap.size w W ∧ w.heap.size + 1 ≤ W.heap.size)) => KD W W.drew h (below_drew1 (Below.refl _ W)))
  have KG := Lib.hid (fun (W W' : World) (v0 : Value) (zs : Nm) (h : (W.cell? ⟨w.heap.size, 0, none⟩ = some (.int .i64 2) ∧ W.cell? ⟨w.heap.size, 1, none⟩ = some vn ∧ W.cell? ⟨w.heap.size, 2, none⟩ = some vu ∧ W.cell? ⟨w.heap.size, 3, none⟩ = some vt ∧ W.cell? ⟨w.heap.size, 4, none⟩ = some vr ∧ Below w.heap.size w W ∧ w.heap.size + 1 ≤ W.heap.size)) (ho : OwnG 9 strV W (w.heap.size + 1) v0 zs) (hg : W.grownBy W' v0.ownBlock) => KD W W' h ((Below.refl _ W).grown hg h.2.2.2.2.2.2 ho.base_le))
  have KO := Lib.hid (fun (W : World) (v0 : Value) (zs : Nm) (ho : OwnG 9 strV W (w.heap.size + 1) v0 zs) => (ho.drew : OwnG 9 strV W.drew (w.heap.size + 1) v0 zs))
  have HNum := Lib.hid (fun (W : World) (h : (W.cell? ⟨w.heap.size, 0, none⟩ = some (.int .i64 2) ∧ W.cell? ⟨w.heap.size, 1, none⟩ = some vn ∧ W.cell? ⟨w.heap.size, 2, none⟩ = some vu ∧ W.cell? ⟨w.heap.size, 3, none⟩ = some vt ∧ W.cell? ⟨w.heap.size, 4, none⟩ = some vr ∧ Below w.heap.size w W ∧ w.heap.size + 1 ≤ W.heap.size)) => ((hNum W h.2.2.2.2.2.1).mono (by rintro e w' ⟨v', rfl, ho, hb2⟩; obtain ⟨a1, c1, rfl⟩ := ho.shape; exact ⟨a1, c1, rfl, ho.weaken h.2.2.2.2.2.2, hb2⟩) : Calls Tryz.prog 31 #[.agg #[.int .i64 2, vn, vu, vt, vr]] W fun e w' => ∃ a1 c1, e = .returned (.slice a1 ys.length c1) ∧ OwnG 9 strV w' (w.heap.size + 1) (.slice a1 ys.length c1) ys ∧ Below W.heap.size W w'))
  have HName := Lib.hid (fun (W : World) (h : (W.cell? ⟨w.heap.size, 0, none⟩ = some (.int .i64 2) ∧ W.cell? ⟨w.heap.size, 1, none⟩ = some vn ∧ W.cell? ⟨w.heap.size, 2, none⟩ = some vu ∧ W.cell? ⟨w.heap.size, 3, none⟩ = some vt ∧ W.cell? ⟨w.heap.size, 4, none⟩ = some vr ∧ Below w.heap.size w W ∧ w.heap.size + 1 ≤ W.heap.size)) => ((hName W h.2.2.2.2.2.1).mono (by rintro e w' ⟨v', rfl, ho, hb2⟩; obtain ⟨a1, c1, rfl⟩ := ho.shape; exact ⟨a1, c1, rfl, ho.weaken h.2.2.2.2.2.2, hb2⟩) : Calls Tryz.prog 30 #[.agg #[.int .i64 2, vn, vu, vt, vr]] W fun e w' => ∃ a1 c1, e = .returned (.slice a1 xs.length c1) ∧ OwnG 9 strV w' (w.heap.size + 1) (.slice a1 xs.length c1) xs ∧ Below W.heap.size W w'))
  have HS0 := Lib.hid hS0
  clear hNum hName hS0 KD hb0 hbx
  go_enter Tryz.func12, Tryz.ntmps12
  go_wp2_with fail
  generalize (w.alloc (.cells #[.int .i64 2, vn, vu, vt, vr] 27)) = W0 at *
  have hS := HS0.out
  clear HS0
  go_region_held3 (fun W => (W.cell? ⟨w.heap.size, 0, none⟩ = some (.int .i64 2) ∧ W.cell? ⟨w.heap.size, 1, none⟩ = some vn ∧ W.cell? ⟨w.heap.size, 2, none⟩ = some vu ∧ W.cell? ⟨w.heap.size, 3, none⟩ = some vt ∧ W.cell? ⟨w.heap.size, 4, none⟩ = some vr ∧ Below w.heap.size w W ∧ w.heap.size + 1 ≤ W.heap.size)) (first | assumption | exact KR.out _ (by assumption) | exact KG.out _ _ _ _ (by assumption) (by assumption) (by assumption)) (first | ((with_reducible refine (HName.out _ (by assumption)).mono ?_); rintro e w2 ⟨a1, cc1, rfl, ho1, hb2⟩; have hS2 := KS.out _ _ (by assumption) hb2) | ((with_reducible refine (HNum.out _ (by assumption)).mono ?_); rintro e w2 ⟨a2, cc2, rfl, ho2, hb2⟩; have hS2 := KS.out _ _ (by assumption) hb2; have ho1b := OwnG.below (by assumption : OwnG 9 strV _ _ (.slice a1 _ _) xs) hb2) | ((refine step_append_s _ (by rfl) _ _ elemStr (by rfl) (w.heap.size + 1) _ xs (by rfl) (by first | assumption | exact KO.out _ _ _ (by assumption)) _ ys (by rfl) (by first | exact StrsAt.of_own ho2 | exact StrsAt.of_own (KO.out _ _ _ ho2)) ho2.slOK (by go_split_ands; first | assumption | (simp; omega)) (by unfold maxLen; omega) (by omega) ?_; intro v3 w3 ho3 hgrow)) | ((with_reducible refine (HJ.out _ _ _ (by assumption)).mono ?_); rintro e w2 ⟨rfl, hb2⟩; have hS2 := KS.out _ _ (by assumption) hb2))
  all_goals
    rename_i hSe
    go_wp2_with fail
    go_ret
    exact ⟨by rw [HM.out]; rfl, hSe.2.2.2.2.2.1⟩

set_option maxRecDepth 100000 in
set_option maxHeartbeats 8000000 in
theorem text_n5 (v : Value) (d : Dat) (w : World) (hA : DatAt w v d) (hk : DatFew d) (hT : Tab w) (ht : d.ty = 5) :
    Calls Tryz.prog 12 #[v] w fun e w' => e = .returned (.string ⟨(textD d).toArray⟩) ∧ Below w.heap.size w w' := by
  have hM : textD d = sepBy [32] ((d.names.map textN) ++ (d.nums.map Lib.decDigits)) := by unfold textD; rw [ht]; rfl
  have hlen := sepBy_len [32] 4195328 ((d.names.map textN) ++ (d.nums.map Lib.decDigits)) (fun x hx => parts_few hk x (hx))
  have hNum : ∀ W, Below w.heap.size w W → Calls Tryz.prog 31 #[v] W fun e w' => ∃ v', e = .returned v' ∧ OwnG 9 strV w' W.heap.size v' (d.nums.map Lib.decDigits) ∧ Below W.heap.size W w' := fun W hb =>
    rdata_numWords v d W (hA.below hb) hk.1 (hT.below hb)
  have hName : ∀ W, Below w.heap.size w W → Calls Tryz.prog 30 #[v] W fun e w' => ∃ v', e = .returned v' ∧ OwnG 9 strV w' W.heap.size v' (d.names.map textN) ∧ Below W.heap.size W w' := fun W hb =>
    rdata_nameWords v d W (hA.below hb) hk.1
  obtain ⟨vn, vu, vt, vr, rfl, _⟩ := hA
  rw [ht] at hNum hName ⊢
  have hl1 : (d.names.map textN).length ≤ 1024 := by rw [List.length_map]; exact hk.2.1
  have hl2 : (d.nums.map Lib.decDigits).length ≤ 1024 := by rw [List.length_map]; exact hk.2.2.2.1
  obtain ⟨ys, hnu⟩ : ∃ xs, (d.nums.map Lib.decDigits) = xs := ⟨_, rfl⟩
  obtain ⟨xs, hna⟩ : ∃ ys, (d.names.map textN) = ys := ⟨_, rfl⟩
  rw [hnu] at hM hlen hNum hl2
  rw [hna] at hM hlen hName hl1
  have hJ : ∀ W b va, OwnG 9 strV W b va (xs ++ ys) → _ := fun W b va hv => join_nm va (xs ++ ys) ⟨#[32]⟩ W (OwnG.nmAt hv) (by rw [List.length_append]; omega) (by
    have e : (⟨#[32]⟩ : ByteArray).data.toList = [32] := rfl
    rw [e]; refine Nat.le_trans hlen ?_
    rw [List.length_append]
    have : xs.length + ys.length ≤ 2048 := by omega
    exact Nat.le_trans (Nat.mul_le_mul_right _ this) (by decide))
  have HM := Lib.hid hM
  have HJ := Lib.hid hJ
  clear hnu hna hM hlen hJ hk hT
  have hb0 : Below w.heap.size w (w.alloc (.cells #[.int .i64 5, vn, vu, vt, vr] 27)) := (Below.refl _ w).alloc (Nat.le_refl _) _
  have hbx := block_new w (.cells #[.int .i64 5, vn, vu, vt, vr] 27)
  obtain ⟨c0, c1, c2, c3, c4⟩ := cells5 hbx
  have hS0 : ((w.alloc (.cells #[.int .i64 5, vn, vu, vt, vr] 27)).cell? ⟨w.heap.size, 0, none⟩ = some (.int .i64 5) ∧ (w.alloc (.cells #[.int .i64 5, vn, vu, vt, vr] 27)).cell? ⟨w.heap.size, 1, none⟩ = some vn ∧ (w.alloc (.cells #[.int .i64 5, vn, vu, vt, vr] 27)).cell? ⟨w.heap.size, 2, none⟩ = some vu ∧ (w.alloc (.cells #[.int .i64 5, vn, vu, vt, vr] 27)).cell? ⟨w.heap.size, 3, none⟩ = some vt ∧ (w.alloc (.cells #[.int .i64 5, vn, vu, vt, vr] 27)).cell? ⟨w.heap.size, 4, none⟩ = some vr ∧ Below w.heap.size w (w.alloc (.cells #[.int .i64 5, vn, vu, vt, vr] 27)) ∧ w.heap.size + 1 ≤ (w.alloc (.cells #[.int .i64 5, vn, vu, vt, vr] 27)).heap.size) := ⟨c0, c1, c2, c3, c4, hb0, by simp⟩
  have KD : ∀ W W' : World, (W.cell? ⟨w.heap.size, 0, none⟩ = some (.int .i64 5) ∧ W.cell? ⟨w.heap.size, 1, none⟩ = some vn ∧ W.cell? ⟨w.heap.size, 2, none⟩ = some vu ∧ W.cell? ⟨w.heap.size, 3, none⟩ = some vt ∧ W.cell? ⟨w.heap.size, 4, none⟩ = some vr ∧ Below w.heap.size w W ∧ w.heap.size + 1 ≤ W.heap.size) → Below (w.heap.size + 1) W W' → (W'.cell? ⟨w.heap.size, 0, none⟩ = some (.int .i64 5) ∧ W'.cell? ⟨w.heap.size, 1, none⟩ = some vn ∧ W'.cell? ⟨w.heap.size, 2, none⟩ = some vu ∧ W'.cell? ⟨w.heap.size, 3, none⟩ = some vt ∧ W'.cell? ⟨w.heap.size, 4, none⟩ = some vr ∧ Below w.heap.size w W' ∧ w.heap.size + 1 ≤ W'.heap.size) := by
    rintro W W' ⟨a0, a1, a2, a3, a4, hw, hsz⟩ hb
    have hA : w.heap.size < w.heap.size + 1 := by omega
    exact ⟨(hb.cell hA).trans a0, (hb.cell hA).trans a1, (hb.cell hA).trans a2, (hb.cell hA).trans a3, (hb.cell hA).trans a4, hw.trans (hb.mono (by omega)), Nat.le_trans hsz hb.size⟩
  have KS := Lib.hid (fun (W W' : World) (h : (W.cell? ⟨w.heap.size, 0, none⟩ = some (.int .i64 5) ∧ W.cell? ⟨w.heap.size, 1, none⟩ = some vn ∧ W.cell? ⟨w.heap.size, 2, none⟩ = some vu ∧ W.cell? ⟨w.heap.size, 3, none⟩ = some vt ∧ W.cell? ⟨w.heap.size, 4, none⟩ = some vr ∧ Below w.heap.size w W ∧ w.heap.size + 1 ≤ W.heap.size)) (hb : Below W.heap.size W W') => KD W W' h (hb.mono h.2.2.2.2.2.2))
  have KR := Lib.hid (fun (W : World) (h : (W.cell? ⟨w.heap.size, 0, none⟩ = some (.int .i64 5) ∧ W.cell? ⟨w.heap.size, 1, none⟩ = some vn ∧ W.cell? ⟨w.heap.size, 2, none⟩ = some vu ∧ W.cell? ⟨w.heap.size, 3, none⟩ = some vt ∧ W.cell? ⟨w.heap.size, 4, none⟩ = some vr ∧ Below w.heap.size w W ∧ w.heap.size + 1 ≤ W.heap.size)) => KD W W.drew h (below_drew1 (Below.refl _ W)))
  have KG := Lib.hid (fun (W W' : World) (v0 : Value) (zs : Nm) (h : (W.cell? ⟨w.heap.size, 0, none⟩ = some (.int .i64 5) ∧ W.cell? ⟨w.heap.size, 1, none⟩ = some vn ∧ W.cell? ⟨w.heap.size, 2, none⟩ = some vu ∧ W.cell? ⟨w.heap.size, 3, none⟩ = some vt ∧ W.cell? ⟨w.heap.size, 4, none⟩ = some vr ∧ Below w.heap.size w W ∧ w.heap.size + 1 ≤ W.heap.size)) (ho : OwnG 9 strV W (w.heap.size + 1) v0 zs) (hg : W.grownBy W' v0.ownBlock) => KD W W' h ((Below.refl _ W).grown hg h.2.2.2.2.2.2 ho.base_le))
  have KO := Lib.hid (fun (W : World) (v0 : Value) (zs : Nm) (ho : OwnG 9 strV W (w.heap.size + 1) v0 zs) => (ho.drew : OwnG 9 strV W.drew (w.heap.size + 1) v0 zs))
  have HNum := Lib.hid (fun (W : World) (h : (W.cell? ⟨w.heap.size, 0, none⟩ = some (.int .i64 5) ∧ W.cell? ⟨w.heap.size, 1, none⟩ = some vn ∧ W.cell? ⟨w.heap.size, 2, none⟩ = some vu ∧ W.cell? ⟨w.heap.size, 3, none⟩ = some vt ∧ W.cell? ⟨w.heap.size, 4, none⟩ = some vr ∧ Below w.heap.size w W ∧ w.heap.size + 1 ≤ W.heap.size)) => ((hNum W h.2.2.2.2.2.1).mono (by rintro e w' ⟨v', rfl, ho, hb2⟩; obtain ⟨a1, c1, rfl⟩ := ho.shape; exact ⟨a1, c1, rfl, ho.weaken h.2.2.2.2.2.2, hb2⟩) : Calls Tryz.prog 31 #[.agg #[.int .i64 5, vn, vu, vt, vr]] W fun e w' => ∃ a1 c1, e = .returned (.slice a1 ys.length c1) ∧ OwnG 9 strV w' (w.heap.size + 1) (.slice a1 ys.length c1) ys ∧ Below W.heap.size W w'))
  have HName := Lib.hid (fun (W : World) (h : (W.cell? ⟨w.heap.size, 0, none⟩ = some (.int .i64 5) ∧ W.cell? ⟨w.heap.size, 1, none⟩ = some vn ∧ W.cell? ⟨w.heap.size, 2, none⟩ = some vu ∧ W.cell? ⟨w.heap.size, 3, none⟩ = some vt ∧ W.cell? ⟨w.heap.size, 4, none⟩ = some vr ∧ Below w.heap.size w W ∧ w.heap.size + 1 ≤ W.heap.size)) => ((hName W h.2.2.2.2.2.1).mono (by rintro e w' ⟨v', rfl, ho, hb2⟩; obtain ⟨a1, c1, rfl⟩ := ho.shape; exact ⟨a1, c1, rfl, ho.weaken h.2.2.2.2.2.2, hb2⟩) : Calls Tryz.prog 30 #[.agg #[.int .i64 5, vn, vu, vt, vr]] W fun e w' => ∃ a1 c1, e = .returned (.slice a1 xs.length c1) ∧ OwnG 9 strV w' (w.heap.size + 1) (.slice a1 xs.length c1) xs ∧ Below W.heap.size W w'))
  have HS0 := Lib.hid hS0
  clear hNum hName hS0 KD hb0 hbx
  go_enter Tryz.func12, Tryz.ntmps12
  go_wp2_with fail
  generalize (w.alloc (.cells #[.int .i64 5, vn, vu, vt, vr] 27)) = W0 at *
  have hS := HS0.out
  clear HS0
  go_region_held3 (fun W => (W.cell? ⟨w.heap.size, 0, none⟩ = some (.int .i64 5) ∧ W.cell? ⟨w.heap.size, 1, none⟩ = some vn ∧ W.cell? ⟨w.heap.size, 2, none⟩ = some vu ∧ W.cell? ⟨w.heap.size, 3, none⟩ = some vt ∧ W.cell? ⟨w.heap.size, 4, none⟩ = some vr ∧ Below w.heap.size w W ∧ w.heap.size + 1 ≤ W.heap.size)) (first | assumption | exact KR.out _ (by assumption) | exact KG.out _ _ _ _ (by assumption) (by assumption) (by assumption)) (first | ((with_reducible refine (HName.out _ (by assumption)).mono ?_); rintro e w2 ⟨a1, cc1, rfl, ho1, hb2⟩; have hS2 := KS.out _ _ (by assumption) hb2) | ((with_reducible refine (HNum.out _ (by assumption)).mono ?_); rintro e w2 ⟨a2, cc2, rfl, ho2, hb2⟩; have hS2 := KS.out _ _ (by assumption) hb2; have ho1b := OwnG.below (by assumption : OwnG 9 strV _ _ (.slice a1 _ _) xs) hb2) | ((refine step_append_s _ (by rfl) _ _ elemStr (by rfl) (w.heap.size + 1) _ xs (by rfl) (by first | assumption | exact KO.out _ _ _ (by assumption)) _ ys (by rfl) (by first | exact StrsAt.of_own ho2 | exact StrsAt.of_own (KO.out _ _ _ ho2)) ho2.slOK (by go_split_ands; first | assumption | (simp; omega)) (by unfold maxLen; omega) (by omega) ?_; intro v3 w3 ho3 hgrow)) | ((with_reducible refine (HJ.out _ _ _ (by assumption)).mono ?_); rintro e w2 ⟨rfl, hb2⟩; have hS2 := KS.out _ _ (by assumption) hb2))
  all_goals
    rename_i hSe
    go_wp2_with fail
    go_ret
    exact ⟨by rw [HM.out]; rfl, hSe.2.2.2.2.2.1⟩

set_option maxRecDepth 100000 in
set_option maxHeartbeats 8000000 in
theorem text_n12 (v : Value) (d : Dat) (w : World) (hA : DatAt w v d) (hk : DatFew d) (hT : Tab w) (ht : d.ty = 12) :
    Calls Tryz.prog 12 #[v] w fun e w' => e = .returned (.string ⟨(textD d).toArray⟩) ∧ Below w.heap.size w w' := by
  have hM : textD d = sepBy [32] ((d.names.map textN) ++ (d.nums.map Lib.decDigits)) := by unfold textD; rw [ht]; rfl
  have hlen := sepBy_len [32] 4195328 ((d.names.map textN) ++ (d.nums.map Lib.decDigits)) (fun x hx => parts_few hk x (hx))
  have hNum : ∀ W, Below w.heap.size w W → Calls Tryz.prog 31 #[v] W fun e w' => ∃ v', e = .returned v' ∧ OwnG 9 strV w' W.heap.size v' (d.nums.map Lib.decDigits) ∧ Below W.heap.size W w' := fun W hb =>
    rdata_numWords v d W (hA.below hb) hk.1 (hT.below hb)
  have hName : ∀ W, Below w.heap.size w W → Calls Tryz.prog 30 #[v] W fun e w' => ∃ v', e = .returned v' ∧ OwnG 9 strV w' W.heap.size v' (d.names.map textN) ∧ Below W.heap.size W w' := fun W hb =>
    rdata_nameWords v d W (hA.below hb) hk.1
  obtain ⟨vn, vu, vt, vr, rfl, _⟩ := hA
  rw [ht] at hNum hName ⊢
  have hl1 : (d.names.map textN).length ≤ 1024 := by rw [List.length_map]; exact hk.2.1
  have hl2 : (d.nums.map Lib.decDigits).length ≤ 1024 := by rw [List.length_map]; exact hk.2.2.2.1
  obtain ⟨ys, hnu⟩ : ∃ xs, (d.nums.map Lib.decDigits) = xs := ⟨_, rfl⟩
  obtain ⟨xs, hna⟩ : ∃ ys, (d.names.map textN) = ys := ⟨_, rfl⟩
  rw [hnu] at hM hlen hNum hl2
  rw [hna] at hM hlen hName hl1
  have hJ : ∀ W b va, OwnG 9 strV W b va (xs ++ ys) → _ := fun W b va hv => join_nm va (xs ++ ys) ⟨#[32]⟩ W (OwnG.nmAt hv) (by rw [List.length_append]; omega) (by
    have e : (⟨#[32]⟩ : ByteArray).data.toList = [32] := rfl
    rw [e]; refine Nat.le_trans hlen ?_
    rw [List.length_append]
    have : xs.length + ys.length ≤ 2048 := by omega
    exact Nat.le_trans (Nat.mul_le_mul_right _ this) (by decide))
  have HM := Lib.hid hM
  have HJ := Lib.hid hJ
  clear hnu hna hM hlen hJ hk hT
  have hb0 : Below w.heap.size w (w.alloc (.cells #[.int .i64 12, vn, vu, vt, vr] 27)) := (Below.refl _ w).alloc (Nat.le_refl _) _
  have hbx := block_new w (.cells #[.int .i64 12, vn, vu, vt, vr] 27)
  obtain ⟨c0, c1, c2, c3, c4⟩ := cells5 hbx
  have hS0 : ((w.alloc (.cells #[.int .i64 12, vn, vu, vt, vr] 27)).cell? ⟨w.heap.size, 0, none⟩ = some (.int .i64 12) ∧ (w.alloc (.cells #[.int .i64 12, vn, vu, vt, vr] 27)).cell? ⟨w.heap.size, 1, none⟩ = some vn ∧ (w.alloc (.cells #[.int .i64 12, vn, vu, vt, vr] 27)).cell? ⟨w.heap.size, 2, none⟩ = some vu ∧ (w.alloc (.cells #[.int .i64 12, vn, vu, vt, vr] 27)).cell? ⟨w.heap.size, 3, none⟩ = some vt ∧ (w.alloc (.cells #[.int .i64 12, vn, vu, vt, vr] 27)).cell? ⟨w.heap.size, 4, none⟩ = some vr ∧ Below w.heap.size w (w.alloc (.cells #[.int .i64 12, vn, vu, vt, vr] 27)) ∧ w.heap.size + 1 ≤ (w.alloc (.cells #[.int .i64 12, vn, vu, vt, vr] 27)).heap.size) := ⟨c0, c1, c2, c3, c4, hb0, by simp⟩
  have KD : ∀ W W' : World, (W.cell? ⟨w.heap.size, 0, none⟩ = some (.int .i64 12) ∧ W.cell? ⟨w.heap.size, 1, none⟩ = some vn ∧ W.cell? ⟨w.heap.size, 2, none⟩ = some vu ∧ W.cell? ⟨w.heap.size, 3, none⟩ = some vt ∧ W.cell? ⟨w.heap.size, 4, none⟩ = some vr ∧ Below w.heap.size w W ∧ w.heap.size + 1 ≤ W.heap.size) → Below (w.heap.size + 1) W W' → (W'.cell? ⟨w.heap.size, 0, none⟩ = some (.int .i64 12) ∧ W'.cell? ⟨w.heap.size, 1, none⟩ = some vn ∧ W'.cell? ⟨w.heap.size, 2, none⟩ = some vu ∧ W'.cell? ⟨w.heap.size, 3, none⟩ = some vt ∧ W'.cell? ⟨w.heap.size, 4, none⟩ = some vr ∧ Below w.heap.size w W' ∧ w.heap.size + 1 ≤ W'.heap.size) := by
    rintro W W' ⟨a0, a1, a2, a3, a4, hw, hsz⟩ hb
    have hA : w.heap.size < w.heap.size + 1 := by omega
    exact ⟨(hb.cell hA).trans a0, (hb.cell hA).trans a1, (hb.cell hA).trans a2, (hb.cell hA).trans a3, (hb.cell hA).trans a4, hw.trans (hb.mono (by omega)), Nat.le_trans hsz hb.size⟩
  have KS := Lib.hid (fun (W W' : World) (h : (W.cell? ⟨w.heap.size, 0, none⟩ = some (.int .i64 12) ∧ W.cell? ⟨w.heap.size, 1, none⟩ = some vn ∧ W.cell? ⟨w.heap.size, 2, none⟩ = some vu ∧ W.cell? ⟨w.heap.size, 3, none⟩ = some vt ∧ W.cell? ⟨w.heap.size, 4, none⟩ = some vr ∧ Below w.heap.size w W ∧ w.heap.size + 1 ≤ W.heap.size)) (hb : Below W.heap.size W W') => KD W W' h (hb.mono h.2.2.2.2.2.2))
  have KR := Lib.hid (fun (W : World) (h : (W.cell? ⟨w.heap.size, 0, none⟩ = some (.int .i64 12) ∧ W.cell? ⟨w.heap.size, 1, none⟩ = some vn ∧ W.cell? ⟨w.heap.size, 2, none⟩ = some vu ∧ W.cell? ⟨w.heap.size, 3, none⟩ = some vt ∧ W.cell? ⟨w.heap.size, 4, none⟩ = some vr ∧ Below w.heap.size w W ∧ w.heap.size + 1 ≤ W.heap.size)) => KD W W.drew h (below_drew1 (Below.refl _ W)))
  have KG := Lib.hid (fun (W W' : World) (v0 : Value) (zs : Nm) (h : (W.cell? ⟨w.heap.size, 0, none⟩ = some (.int .i64 12) ∧ W.cell? ⟨w.heap.size, 1, none⟩ = some vn ∧ W.cell? ⟨w.heap.size, 2, none⟩ = some vu ∧ W.cell? ⟨w.heap.size, 3, none⟩ = some vt ∧ W.cell? ⟨w.heap.size, 4, none⟩ = some vr ∧ Below w.heap.size w W ∧ w.heap.size + 1 ≤ W.heap.size)) (ho : OwnG 9 strV W (w.heap.size + 1) v0 zs) (hg : W.grownBy W' v0.ownBlock) => KD W W' h ((Below.refl _ W).grown hg h.2.2.2.2.2.2 ho.base_le))
  have KO := Lib.hid (fun (W : World) (v0 : Value) (zs : Nm) (ho : OwnG 9 strV W (w.heap.size + 1) v0 zs) => (ho.drew : OwnG 9 strV W.drew (w.heap.size + 1) v0 zs))
  have HNum := Lib.hid (fun (W : World) (h : (W.cell? ⟨w.heap.size, 0, none⟩ = some (.int .i64 12) ∧ W.cell? ⟨w.heap.size, 1, none⟩ = some vn ∧ W.cell? ⟨w.heap.size, 2, none⟩ = some vu ∧ W.cell? ⟨w.heap.size, 3, none⟩ = some vt ∧ W.cell? ⟨w.heap.size, 4, none⟩ = some vr ∧ Below w.heap.size w W ∧ w.heap.size + 1 ≤ W.heap.size)) => ((hNum W h.2.2.2.2.2.1).mono (by rintro e w' ⟨v', rfl, ho, hb2⟩; obtain ⟨a1, c1, rfl⟩ := ho.shape; exact ⟨a1, c1, rfl, ho.weaken h.2.2.2.2.2.2, hb2⟩) : Calls Tryz.prog 31 #[.agg #[.int .i64 12, vn, vu, vt, vr]] W fun e w' => ∃ a1 c1, e = .returned (.slice a1 ys.length c1) ∧ OwnG 9 strV w' (w.heap.size + 1) (.slice a1 ys.length c1) ys ∧ Below W.heap.size W w'))
  have HName := Lib.hid (fun (W : World) (h : (W.cell? ⟨w.heap.size, 0, none⟩ = some (.int .i64 12) ∧ W.cell? ⟨w.heap.size, 1, none⟩ = some vn ∧ W.cell? ⟨w.heap.size, 2, none⟩ = some vu ∧ W.cell? ⟨w.heap.size, 3, none⟩ = some vt ∧ W.cell? ⟨w.heap.size, 4, none⟩ = some vr ∧ Below w.heap.size w W ∧ w.heap.size + 1 ≤ W.heap.size)) => ((hName W h.2.2.2.2.2.1).mono (by rintro e w' ⟨v', rfl, ho, hb2⟩; obtain ⟨a1, c1, rfl⟩ := ho.shape; exact ⟨a1, c1, rfl, ho.weaken h.2.2.2.2.2.2, hb2⟩) : Calls Tryz.prog 30 #[.agg #[.int .i64 12, vn, vu, vt, vr]] W fun e w' => ∃ a1 c1, e = .returned (.slice a1 xs.length c1) ∧ OwnG 9 strV w' (w.heap.size + 1) (.slice a1 xs.length c1) xs ∧ Below W.heap.size W w'))
  have HS0 := Lib.hid hS0
  clear hNum hName hS0 KD hb0 hbx
  go_enter Tryz.func12, Tryz.ntmps12
  go_wp2_with fail
  generalize (w.alloc (.cells #[.int .i64 12, vn, vu, vt, vr] 27)) = W0 at *
  have hS := HS0.out
  clear HS0
  go_region_held3 (fun W => (W.cell? ⟨w.heap.size, 0, none⟩ = some (.int .i64 12) ∧ W.cell? ⟨w.heap.size, 1, none⟩ = some vn ∧ W.cell? ⟨w.heap.size, 2, none⟩ = some vu ∧ W.cell? ⟨w.heap.size, 3, none⟩ = some vt ∧ W.cell? ⟨w.heap.size, 4, none⟩ = some vr ∧ Below w.heap.size w W ∧ w.heap.size + 1 ≤ W.heap.size)) (first | assumption | exact KR.out _ (by assumption) | exact KG.out _ _ _ _ (by assumption) (by assumption) (by assumption)) (first | ((with_reducible refine (HName.out _ (by assumption)).mono ?_); rintro e w2 ⟨a1, cc1, rfl, ho1, hb2⟩; have hS2 := KS.out _ _ (by assumption) hb2) | ((with_reducible refine (HNum.out _ (by assumption)).mono ?_); rintro e w2 ⟨a2, cc2, rfl, ho2, hb2⟩; have hS2 := KS.out _ _ (by assumption) hb2; have ho1b := OwnG.below (by assumption : OwnG 9 strV _ _ (.slice a1 _ _) xs) hb2) | ((refine step_append_s _ (by rfl) _ _ elemStr (by rfl) (w.heap.size + 1) _ xs (by rfl) (by first | assumption | exact KO.out _ _ _ (by assumption)) _ ys (by rfl) (by first | exact StrsAt.of_own ho2 | exact StrsAt.of_own (KO.out _ _ _ ho2)) ho2.slOK (by go_split_ands; first | assumption | (simp; omega)) (by unfold maxLen; omega) (by omega) ?_; intro v3 w3 ho3 hgrow)) | ((with_reducible refine (HJ.out _ _ _ (by assumption)).mono ?_); rintro e w2 ⟨rfl, hb2⟩; have hS2 := KS.out _ _ (by assumption) hb2))
  all_goals
    rename_i hSe
    go_wp2_with fail
    go_ret
    exact ⟨by rw [HM.out]; rfl, hSe.2.2.2.2.2.1⟩

set_option maxRecDepth 100000 in
set_option maxHeartbeats 8000000 in
theorem text_n39 (v : Value) (d : Dat) (w : World) (hA : DatAt w v d) (hk : DatFew d) (hT : Tab w) (ht : d.ty = 39) :
    Calls Tryz.prog 12 #[v] w fun e w' => e = .returned (.string ⟨(textD d).toArray⟩) ∧ Below w.heap.size w w' := by
  have hM : textD d = sepBy [32] ((d.names.map textN) ++ (d.nums.map Lib.decDigits)) := by unfold textD; rw [ht]; rfl
  have hlen := sepBy_len [32] 4195328 ((d.names.map textN) ++ (d.nums.map Lib.decDigits)) (fun x hx => parts_few hk x (hx))
  have hNum : ∀ W, Below w.heap.size w W → Calls Tryz.prog 31 #[v] W fun e w' => ∃ v', e = .returned v' ∧ OwnG 9 strV w' W.heap.size v' (d.nums.map Lib.decDigits) ∧ Below W.heap.size W w' := fun W hb =>
    rdata_numWords v d W (hA.below hb) hk.1 (hT.below hb)
  have hName : ∀ W, Below w.heap.size w W → Calls Tryz.prog 30 #[v] W fun e w' => ∃ v', e = .returned v' ∧ OwnG 9 strV w' W.heap.size v' (d.names.map textN) ∧ Below W.heap.size W w' := fun W hb =>
    rdata_nameWords v d W (hA.below hb) hk.1
  obtain ⟨vn, vu, vt, vr, rfl, _⟩ := hA
  rw [ht] at hNum hName ⊢
  have hl1 : (d.names.map textN).length ≤ 1024 := by rw [List.length_map]; exact hk.2.1
  have hl2 : (d.nums.map Lib.decDigits).length ≤ 1024 := by rw [List.length_map]; exact hk.2.2.2.1
  obtain ⟨ys, hnu⟩ : ∃ xs, (d.nums.map Lib.decDigits) = xs := ⟨_, rfl⟩
  obtain ⟨xs, hna⟩ : ∃ ys, (d.names.map textN) = ys := ⟨_, rfl⟩
  rw [hnu] at hM hlen hNum hl2
  rw [hna] at hM hlen hName hl1
  have hJ : ∀ W b va, OwnG 9 strV W b va (xs ++ ys) → _ := fun W b va hv => join_nm va (xs ++ ys) ⟨#[32]⟩ W (OwnG.nmAt hv) (by rw [List.length_append]; omega) (by
    have e : (⟨#[32]⟩ : ByteArray).data.toList = [32] := rfl
    rw [e]; refine Nat.le_trans hlen ?_
    rw [List.length_append]
    have : xs.length + ys.length ≤ 2048 := by omega
    exact Nat.le_trans (Nat.mul_le_mul_right _ this) (by decide))
  have HM := Lib.hid hM
  have HJ := Lib.hid hJ
  clear hnu hna hM hlen hJ hk hT
  have hb0 : Below w.heap.size w (w.alloc (.cells #[.int .i64 39, vn, vu, vt, vr] 27)) := (Below.refl _ w).alloc (Nat.le_refl _) _
  have hbx := block_new w (.cells #[.int .i64 39, vn, vu, vt, vr] 27)
  obtain ⟨c0, c1, c2, c3, c4⟩ := cells5 hbx
  have hS0 : ((w.alloc (.cells #[.int .i64 39, vn, vu, vt, vr] 27)).cell? ⟨w.heap.size, 0, none⟩ = some (.int .i64 39) ∧ (w.alloc (.cells #[.int .i64 39, vn, vu, vt, vr] 27)).cell? ⟨w.heap.size, 1, none⟩ = some vn ∧ (w.alloc (.cells #[.int .i64 39, vn, vu, vt, vr] 27)).cell? ⟨w.heap.size, 2, none⟩ = some vu ∧ (w.alloc (.cells #[.int .i64 39, vn, vu, vt, vr] 27)).cell? ⟨w.heap.size, 3, none⟩ = some vt ∧ (w.alloc (.cells #[.int .i64 39, vn, vu, vt, vr] 27)).cell? ⟨w.heap.size, 4, none⟩ = some vr ∧ Below w.heap.size w (w.alloc (.cells #[.int .i64 39, vn, vu, vt, vr] 27)) ∧ w.heap.size + 1 ≤ (w.alloc (.cells #[.int .i64 39, vn, vu, vt, vr] 27)).heap.size) := ⟨c0, c1, c2, c3, c4, hb0, by simp⟩
  have KD : ∀ W W' : World, (W.cell? ⟨w.heap.size, 0, none⟩ = some (.int .i64 39) ∧ W.cell? ⟨w.heap.size, 1, none⟩ = some vn ∧ W.cell? ⟨w.heap.size, 2, none⟩ = some vu ∧ W.cell? ⟨w.heap.size, 3, none⟩ = some vt ∧ W.cell? ⟨w.heap.size, 4, none⟩ = some vr ∧ Below w.heap.size w W ∧ w.heap.size + 1 ≤ W.heap.size) → Below (w.heap.size + 1) W W' → (W'.cell? ⟨w.heap.size, 0, none⟩ = some (.int .i64 39) ∧ W'.cell? ⟨w.heap.size, 1, none⟩ = some vn ∧ W'.cell? ⟨w.heap.size, 2, none⟩ = some vu ∧ W'.cell? ⟨w.heap.size, 3, none⟩ = some vt ∧ W'.cell? ⟨w.heap.size, 4, none⟩ = some vr ∧ Below w.heap.size w W' ∧ w.heap.size + 1 ≤ W'.heap.size) := by
    rintro W W' ⟨a0, a1, a2, a3, a4, hw, hsz⟩ hb
    have hA : w.heap.size < w.heap.size + 1 := by omega
    exact ⟨(hb.cell hA).trans a0, (hb.cell hA).trans a1, (hb.cell hA).trans a2, (hb.cell hA).trans a3, (hb.cell hA).trans a4, hw.trans (hb.mono (by omega)), Nat.le_trans hsz hb.size⟩
  have KS := Lib.hid (fun (W W' : World) (h : (W.cell? ⟨w.heap.size, 0, none⟩ = some (.int .i64 39) ∧ W.cell? ⟨w.heap.size, 1, none⟩ = some vn ∧ W.cell? ⟨w.heap.size, 2, none⟩ = some vu ∧ W.cell? ⟨w.heap.size, 3, none⟩ = some vt ∧ W.cell? ⟨w.heap.size, 4, none⟩ = some vr ∧ Below w.heap.size w W ∧ w.heap.size + 1 ≤ W.heap.size)) (hb : Below W.heap.size W W') => KD W W' h (hb.mono h.2.2.2.2.2.2))
  have KR := Lib.hid (fun (W : World) (h : (W.cell? ⟨w.heap.size, 0, none⟩ = some (.int .i64 39) ∧ W.cell? ⟨w.heap.size, 1, none⟩ = some vn ∧ W.cell? ⟨w.heap.size, 2, none⟩ = some vu ∧ W.cell? ⟨w.heap.size, 3, none⟩ = some vt ∧ W.cell? ⟨w.heap.size, 4, none⟩ = some vr ∧ Below w.heap.size w W ∧ w.heap.size + 1 ≤ W.heap.size)) => KD W W.drew h (below_drew1 (Below.refl _ W)))
  have KG := Lib.hid (fun (W W' : World) (v0 : Value) (zs : Nm) (h : (W.cell? ⟨w.heap.size, 0, none⟩ = some (.int .i64 39) ∧ W.cell? ⟨w.heap.size, 1, none⟩ = some vn ∧ W.cell? ⟨w.heap.size, 2, none⟩ = some vu ∧ W.cell? ⟨w.heap.size, 3, none⟩ = some vt ∧ W.cell? ⟨w.heap.size, 4, none⟩ = some vr ∧ Below w.heap.size w W ∧ w.heap.size + 1 ≤ W.heap.size)) (ho : OwnG 9 strV W (w.heap.size + 1) v0 zs) (hg : W.grownBy W' v0.ownBlock) => KD W W' h ((Below.refl _ W).grown hg h.2.2.2.2.2.2 ho.base_le))
  have KO := Lib.hid (fun (W : World) (v0 : Value) (zs : Nm) (ho : OwnG 9 strV W (w.heap.size + 1) v0 zs) => (ho.drew : OwnG 9 strV W.drew (w.heap.size + 1) v0 zs))
  have HNum := Lib.hid (fun (W : World) (h : (W.cell? ⟨w.heap.size, 0, none⟩ = some (.int .i64 39) ∧ W.cell? ⟨w.heap.size, 1, none⟩ = some vn ∧ W.cell? ⟨w.heap.size, 2, none⟩ = some vu ∧ W.cell? ⟨w.heap.size, 3, none⟩ = some vt ∧ W.cell? ⟨w.heap.size, 4, none⟩ = some vr ∧ Below w.heap.size w W ∧ w.heap.size + 1 ≤ W.heap.size)) => ((hNum W h.2.2.2.2.2.1).mono (by rintro e w' ⟨v', rfl, ho, hb2⟩; obtain ⟨a1, c1, rfl⟩ := ho.shape; exact ⟨a1, c1, rfl, ho.weaken h.2.2.2.2.2.2, hb2⟩) : Calls Tryz.prog 31 #[.agg #[.int .i64 39, vn, vu, vt, vr]] W fun e w' => ∃ a1 c1, e = .returned (.slice a1 ys.length c1) ∧ OwnG 9 strV w' (w.heap.size + 1) (.slice a1 ys.length c1) ys ∧ Below W.heap.size W w'))
  have HName := Lib.hid (fun (W : World) (h : (W.cell? ⟨w.heap.size, 0, none⟩ = some (.int .i64 39) ∧ W.cell? ⟨w.heap.size, 1, none⟩ = some vn ∧ W.cell? ⟨w.heap.size, 2, none⟩ = some vu ∧ W.cell? ⟨w.heap.size, 3, none⟩ = some vt ∧ W.cell? ⟨w.heap.size, 4, none⟩ = some vr ∧ Below w.heap.size w W ∧ w.heap.size + 1 ≤ W.heap.size)) => ((hName W h.2.2.2.2.2.1).mono (by rintro e w' ⟨v', rfl, ho, hb2⟩; obtain ⟨a1, c1, rfl⟩ := ho.shape; exact ⟨a1, c1, rfl, ho.weaken h.2.2.2.2.2.2, hb2⟩) : Calls Tryz.prog 30 #[.agg #[.int .i64 39, vn, vu, vt, vr]] W fun e w' => ∃ a1 c1, e = .returned (.slice a1 xs.length c1) ∧ OwnG 9 strV w' (w.heap.size + 1) (.slice a1 xs.length c1) xs ∧ Below W.heap.size W w'))
  have HS0 := Lib.hid hS0
  clear hNum hName hS0 KD hb0 hbx
  go_enter Tryz.func12, Tryz.ntmps12
  go_wp2_with fail
  generalize (w.alloc (.cells #[.int .i64 39, vn, vu, vt, vr] 27)) = W0 at *
  have hS := HS0.out
  clear HS0
  go_region_held3 (fun W => (W.cell? ⟨w.heap.size, 0, none⟩ = some (.int .i64 39) ∧ W.cell? ⟨w.heap.size, 1, none⟩ = some vn ∧ W.cell? ⟨w.heap.size, 2, none⟩ = some vu ∧ W.cell? ⟨w.heap.size, 3, none⟩ = some vt ∧ W.cell? ⟨w.heap.size, 4, none⟩ = some vr ∧ Below w.heap.size w W ∧ w.heap.size + 1 ≤ W.heap.size)) (first | assumption | exact KR.out _ (by assumption) | exact KG.out _ _ _ _ (by assumption) (by assumption) (by assumption)) (first | ((with_reducible refine (HName.out _ (by assumption)).mono ?_); rintro e w2 ⟨a1, cc1, rfl, ho1, hb2⟩; have hS2 := KS.out _ _ (by assumption) hb2) | ((with_reducible refine (HNum.out _ (by assumption)).mono ?_); rintro e w2 ⟨a2, cc2, rfl, ho2, hb2⟩; have hS2 := KS.out _ _ (by assumption) hb2; have ho1b := OwnG.below (by assumption : OwnG 9 strV _ _ (.slice a1 _ _) xs) hb2) | ((refine step_append_s _ (by rfl) _ _ elemStr (by rfl) (w.heap.size + 1) _ xs (by rfl) (by first | assumption | exact KO.out _ _ _ (by assumption)) _ ys (by rfl) (by first | exact StrsAt.of_own ho2 | exact StrsAt.of_own (KO.out _ _ _ ho2)) ho2.slOK (by go_split_ands; first | assumption | (simp; omega)) (by unfold maxLen; omega) (by omega) ?_; intro v3 w3 ho3 hgrow)) | ((with_reducible refine (HJ.out _ _ _ (by assumption)).mono ?_); rintro e w2 ⟨rfl, hb2⟩; have hS2 := KS.out _ _ (by assumption) hb2))
  all_goals
    rename_i hSe
    go_wp2_with fail
    go_ret
    exact ⟨by rw [HM.out]; rfl, hSe.2.2.2.2.2.1⟩

set_option maxRecDepth 100000 in
set_option maxHeartbeats 8000000 in
theorem text_n6 (v : Value) (d : Dat) (w : World) (hA : DatAt w v d) (hk : DatFew d) (hT : Tab w) (ht : d.ty = 6) :
    Calls Tryz.prog 12 #[v] w fun e w' => e = .returned (.string ⟨(textD d).toArray⟩) ∧ Below w.heap.size w w' := by
  have hM : textD d = sepBy [32] ((d.names.map textN) ++ (d.nums.map Lib.decDigits)) := by unfold textD; rw [ht]; rfl
  have hlen := sepBy_len [32] 4195328 ((d.names.map textN) ++ (d.nums.map Lib.decDigits)) (fun x hx => parts_few hk x (hx))
  have hNum : ∀ W, Below w.heap.size w W → Calls Tryz.prog 31 #[v] W fun e w' => ∃ v', e = .returned v' ∧ OwnG 9 strV w' W.heap.size v' (d.nums.map Lib.decDigits) ∧ Below W.heap.size W w' := fun W hb =>
    rdata_numWords v d W (hA.below hb) hk.1 (hT.below hb)
  have hName : ∀ W, Below w.heap.size w W → Calls Tryz.prog 30 #[v] W fun e w' => ∃ v', e = .returned v' ∧ OwnG 9 strV w' W.heap.size v' (d.names.map textN) ∧ Below W.heap.size W w' := fun W hb =>
    rdata_nameWords v d W (hA.below hb) hk.1
  obtain ⟨vn, vu, vt, vr, rfl, _⟩ := hA
  rw [ht] at hNum hName ⊢
  have hl1 : (d.names.map textN).length ≤ 1024 := by rw [List.length_map]; exact hk.2.1
  have hl2 : (d.nums.map Lib.decDigits).length ≤ 1024 := by rw [List.length_map]; exact hk.2.2.2.1
  obtain ⟨ys, hnu⟩ : ∃ xs, (d.nums.map Lib.decDigits) = xs := ⟨_, rfl⟩
  obtain ⟨xs, hna⟩ : ∃ ys, (d.names.map textN) = ys := ⟨_, rfl⟩
  rw [hnu] at hM hlen hNum hl2
  rw [hna] at hM hlen hName hl1
  have hJ : ∀ W b va, OwnG 9 strV W b va (xs ++ ys) → _ := fun W b va hv => join_nm va (xs ++ ys) ⟨#[32]⟩ W (OwnG.nmAt hv) (by rw [List.length_append]; omega) (by
    have e : (⟨#[32]⟩ : ByteArray).data.toList = [32] := rfl
    rw [e]; refine Nat.le_trans hlen ?_
    rw [List.length_append]
    have : xs.length + ys.length ≤ 2048 := by omega
    exact Nat.le_trans (Nat.mul_le_mul_right _ this) (by decide))
  have HM := Lib.hid hM
  have HJ := Lib.hid hJ
  clear hnu hna hM hlen hJ hk hT
  have hb0 : Below w.heap.size w (w.alloc (.cells #[.int .i64 6, vn, vu, vt, vr] 27)) := (Below.refl _ w).alloc (Nat.le_refl _) _
  have hbx := block_new w (.cells #[.int .i64 6, vn, vu, vt, vr] 27)
  obtain ⟨c0, c1, c2, c3, c4⟩ := cells5 hbx
  have hS0 : ((w.alloc (.cells #[.int .i64 6, vn, vu, vt, vr] 27)).cell? ⟨w.heap.size, 0, none⟩ = some (.int .i64 6) ∧ (w.alloc (.cells #[.int .i64 6, vn, vu, vt, vr] 27)).cell? ⟨w.heap.size, 1, none⟩ = some vn ∧ (w.alloc (.cells #[.int .i64 6, vn, vu, vt, vr] 27)).cell? ⟨w.heap.size, 2, none⟩ = some vu ∧ (w.alloc (.cells #[.int .i64 6, vn, vu, vt, vr] 27)).cell? ⟨w.heap.size, 3, none⟩ = some vt ∧ (w.alloc (.cells #[.int .i64 6, vn, vu, vt, vr] 27)).cell? ⟨w.heap.size, 4, none⟩ = some vr ∧ Below w.heap.size w (w.alloc (.cells #[.int .i64 6, vn, vu, vt, vr] 27)) ∧ w.heap.size + 1 ≤ (w.alloc (.cells #[.int .i64 6, vn, vu, vt, vr] 27)).heap.size) := ⟨c0, c1, c2, c3, c4, hb0, by simp⟩
  have KD : ∀ W W' : World, (W.cell? ⟨w.heap.size, 0, none⟩ = some (.int .i64 6) ∧ W.cell? ⟨w.heap.size, 1, none⟩ = some vn ∧ W.cell? ⟨w.heap.size, 2, none⟩ = some vu ∧ W.cell? ⟨w.heap.size, 3, none⟩ = some vt ∧ W.cell? ⟨w.heap.size, 4, none⟩ = some vr ∧ Below w.heap.size w W ∧ w.heap.size + 1 ≤ W.heap.size) → Below (w.heap.size + 1) W W' → (W'.cell? ⟨w.heap.size, 0, none⟩ = some (.int .i64 6) ∧ W'.cell? ⟨w.heap.size, 1, none⟩ = some vn ∧ W'.cell? ⟨w.heap.size, 2, none⟩ = some vu ∧ W'.cell? ⟨w.heap.size, 3, none⟩ = some vt ∧ W'.cell? ⟨w.heap.size, 4, none⟩ = some vr ∧ Below w.heap.size w W' ∧ w.heap.size + 1 ≤ W'.heap.size) := by
    rintro W W' ⟨a0, a1, a2, a3, a4, hw, hsz⟩ hb
    have hA : w.heap.size < w.heap.size + 1 := by omega
    exact ⟨(hb.cell hA).trans a0, (hb.cell hA).trans a1, (hb.cell hA).trans a2, (hb.cell hA).trans a3, (hb.cell hA).trans a4, hw.trans (hb.mono (by omega)), Nat.le_trans hsz hb.size⟩
  have KS := Lib.hid (fun (W W' : World) (h : (W.cell? ⟨w.heap.size, 0, none⟩ = some (.int .i64 6) ∧ W.cell? ⟨w.heap.size, 1, none⟩ = some vn ∧ W.cell? ⟨w.heap.size, 2, none⟩ = some vu ∧ W.cell? ⟨w.heap.size, 3, none⟩ = some vt ∧ W.cell? ⟨w.heap.size, 4, none⟩ = some vr ∧ Below w.heap.size w W ∧ w.heap.size + 1 ≤ W.heap.size)) (hb : Below W.heap.size W W') => KD W W' h (hb.mono h.2.2.2.2.2.2))
  have KR := Lib.hid (fun (W : World) (h : (W.cell? ⟨w.heap.size, 0, none⟩ = some (.int .i64 6) ∧ W.cell? ⟨w.heap.size, 1, none⟩ = some vn ∧ W.cell? ⟨w.heap.size, 2, none⟩ = some vu ∧ W.cell? ⟨w.heap.size, 3, none⟩ = some vt ∧ W.cell? ⟨w.heap.size, 4, none⟩ = some vr ∧ Below w.heap.size w W ∧ w.heap.size + 1 ≤ W.heap.size)) => KD W W.drew h (below_drew1 (Below.refl _ W)))
  have KG := Lib.hid (fun (W W' : World) (v0 : Value) (zs : Nm) (h : (W.cell? ⟨w.heap.size, 0, none⟩ = some (.int .i64 6) ∧ W.cell? ⟨w.heap.size, 1, none⟩ = some vn ∧ W.cell? ⟨w.heap.size, 2, none⟩ = some vu ∧ W.cell? ⟨w.heap.size, 3, none⟩ = some vt ∧ W.cell? ⟨w.heap.size, 4, none⟩ = some vr ∧ Below w.heap.size w W ∧ w.heap.size + 1 ≤ W.heap.size)) (ho : OwnG 9 strV W (w.heap.size + 1) v0 zs) (hg : W.grownBy W' v0.ownBlock) => KD W W' h ((Below.refl _ W).grown hg h.2.2.2.2.2.2 ho.base_le))
  have KO := Lib.hid (fun (W : World) (v0 : Value) (zs : Nm) (ho : OwnG 9 strV W (w.heap.size + 1) v0 zs) => (ho.drew : OwnG 9 strV W.drew (w.heap.size + 1) v0 zs))
  have HNum := Lib.hid (fun (W : World) (h : (W.cell? ⟨w.heap.size, 0, none⟩ = some (.int .i64 6) ∧ W.cell? ⟨w.heap.size, 1, none⟩ = some vn ∧ W.cell? ⟨w.heap.size, 2, none⟩ = some vu ∧ W.cell? ⟨w.heap.size, 3, none⟩ = some vt ∧ W.cell? ⟨w.heap.size, 4, none⟩ = some vr ∧ Below w.heap.size w W ∧ w.heap.size + 1 ≤ W.heap.size)) => ((hNum W h.2.2.2.2.2.1).mono (by rintro e w' ⟨v', rfl, ho, hb2⟩; obtain ⟨a1, c1, rfl⟩ := ho.shape; exact ⟨a1, c1, rfl, ho.weaken h.2.2.2.2.2.2, hb2⟩) : Calls Tryz.prog 31 #[.agg #[.int .i64 6, vn, vu, vt, vr]] W fun e w' => ∃ a1 c1, e = .returned (.slice a1 ys.length c1) ∧ OwnG 9 strV w' (w.heap.size + 1) (.slice a1 ys.length c1) ys ∧ Below W.heap.size W w'))
  have HName := Lib.hid (fun (W : World) (h : (W.cell? ⟨w.heap.size, 0, none⟩ = some (.int .i64 6) ∧ W.cell? ⟨w.heap.size, 1, none⟩ = some vn ∧ W.cell? ⟨w.heap.size, 2, none⟩ = some vu ∧ W.cell? ⟨w.heap.size, 3, none⟩ = some vt ∧ W.cell? ⟨w.heap.size, 4, none⟩ = some vr ∧ Below w.heap.size w W ∧ w.heap.size + 1 ≤ W.heap.size)) => ((hName W h.2.2.2.2.2.1).mono (by rintro e w' ⟨v', rfl, ho, hb2⟩; obtain ⟨a1, c1, rfl⟩ := ho.shape; exact ⟨a1, c1, rfl, ho.weaken h.2.2.2.2.2.2, hb2⟩) : Calls Tryz.prog 30 #[.agg #[.int .i64 6, vn, vu, vt, vr]] W fun e w' => ∃ a1 c1, e = .returned (.slice a1 xs.length c1) ∧ OwnG 9 strV w' (w.heap.size + 1) (.slice a1 xs.length c1) xs ∧ Below W.heap.size W w'))
  have HS0 := Lib.hid hS0
  clear hNum hName hS0 KD hb0 hbx
  go_enter Tryz.func12, Tryz.ntmps12
  go_wp2_with fail
  generalize (w.alloc (.cells #[.int .i64 6, vn, vu, vt, vr] 27)) = W0 at *
  have hS := HS0.out
  clear HS0
  go_region_held3 (fun W => (W.cell? ⟨w.heap.size, 0, none⟩ = some (.int .i64 6) ∧ W.cell? ⟨w.heap.size, 1, none⟩ = some vn ∧ W.cell? ⟨w.heap.size, 2, none⟩ = some vu ∧ W.cell? ⟨w.heap.size, 3, none⟩ = some vt ∧ W.cell? ⟨w.heap.size, 4, none⟩ = some vr ∧ Below w.heap.size w W ∧ w.heap.size + 1 ≤ W.heap.size)) (first | assumption | exact KR.out _ (by assumption) | exact KG.out _ _ _ _ (by assumption) (by assumption) (by assumption)) (first | ((with_reducible refine (HName.out _ (by assumption)).mono ?_); rintro e w2 ⟨a1, cc1, rfl, ho1, hb2⟩; have hS2 := KS.out _ _ (by assumption) hb2) | ((with_reducible refine (HNum.out _ (by assumption)).mono ?_); rintro e w2 ⟨a2, cc2, rfl, ho2, hb2⟩; have hS2 := KS.out _ _ (by assumption) hb2; have ho1b := OwnG.below (by assumption : OwnG 9 strV _ _ (.slice a1 _ _) xs) hb2) | ((refine step_append_s _ (by rfl) _ _ elemStr (by rfl) (w.heap.size + 1) _ xs (by rfl) (by first | assumption | exact KO.out _ _ _ (by assumption)) _ ys (by rfl) (by first | exact StrsAt.of_own ho2 | exact StrsAt.of_own (KO.out _ _ _ ho2)) ho2.slOK (by go_split_ands; first | assumption | (simp; omega)) (by unfold maxLen; omega) (by omega) ?_; intro v3 w3 ho3 hgrow)) | ((with_reducible refine (HJ.out _ _ _ (by assumption)).mono ?_); rintro e w2 ⟨rfl, hb2⟩; have hS2 := KS.out _ _ (by assumption) hb2))
  all_goals
    rename_i hSe
    go_wp2_with fail
    go_ret
    exact ⟨by rw [HM.out]; rfl, hSe.2.2.2.2.2.1⟩

set_option maxRecDepth 100000 in
set_option maxHeartbeats 8000000 in
theorem text_a (v : Value) (d : Dat) (w : World) (hA : DatAt w v d) (hk : DatFew d) (hT : Tab w) (ht : d.ty = 1) :
    Calls Tryz.prog 12 #[v] w fun e w' => e = .returned (.string ⟨(textD d).toArray⟩) ∧ Below w.heap.size w w' := by
  have hM : textD d = sepBy [46] (d.raw.map fun c => Lib.decDigits c.toNat) := by unfold textD; rw [ht]; rfl
  obtain ⟨vn, vu, vt, vr, rfl, a1, a2, a3, a4⟩ := hA
  have hCall := fun W (hb : Below w.heap.size w W) => rdata_dotted vr d.raw W (a4.below hb) hk.1.2.2.2.2.2.2 (hT.below hb)
  rw [ht]
  have HM := Lib.hid hM
  clear hM
  have hb0 : Below w.heap.size w (w.alloc (.cells #[.int .i64 1, vn, vu, vt, vr] 27)) := (Below.refl _ w).alloc (Nat.le_refl _) _
  have hbx := block_new w (.cells #[.int .i64 1, vn, vu, vt, vr] 27)
  obtain ⟨c0, c1, c2, c3, c4⟩ := cells5 hbx
  have HC := Lib.hid (hCall _ hb0); have HB0 := Lib.hid hb0
  clear hCall hbx hk hT hb0 a1 a2 a3 a4 ht
  go_enter Tryz.func12, Tryz.ntmps12
  go_wp2_with (go_at_call 27; refine (HC.out).mono ?_; rintro e w2 ⟨rfl, hb2⟩)
  go_ret
  exact ⟨by rw [HM.out]; rfl, HB0.out.trans (hb2.mono (by simp))⟩

set_option maxRecDepth 100000 in
set_option maxHeartbeats 8000000 in
theorem text_other (v : Value) (d : Dat) (w : World) (hA : DatAt w v d) (hk : DatFew d) (hT : Tab w) (ht : d.ty ≠ 1 ∧ d.ty ≠ 28 ∧ d.ty ≠ 2 ∧ d.ty ≠ 5 ∧ d.ty ≠ 12 ∧ d.ty ≠ 39 ∧ d.ty ≠ 6 ∧ d.ty ≠ 15 ∧ d.ty ≠ 16) :
    Calls Tryz.prog 12 #[v] w fun e w' => e = .returned (.string ⟨(textD d).toArray⟩) ∧ Below w.heap.size w w' := by
  have hM : textD d = octetWordsM d.raw := by
    obtain ⟨h1, h2, h3, h4, h5, h6, h7, h8, h9⟩ := ht
    unfold textD
    rw [if_neg h1, if_neg h2, if_neg (by simp [*]), if_neg h8, if_neg h9]
  obtain ⟨vn, vu, vt, vr, rfl, a1, a2, a3, a4⟩ := hA
  have hCall := fun W (hb : Below w.heap.size w W) => rdata_octetWords vr d.raw W (a4.below hb) hk.1.2.2.2.2.2.2 (hT.below hb)
  have n1 : (d.ty == 1) = false := by simp; omega
  have n28 : (d.ty == 28) = false := by simp; omega
  have n2 : (d.ty == 2) = false := by simp; omega
  have n5 : (d.ty == 5) = false := by simp; omega
  have n12 : (d.ty == 12) = false := by simp; omega
  have n39 : (d.ty == 39) = false := by simp; omega
  have n6 : (d.ty == 6) = false := by simp; omega
  have n15 : (d.ty == 15) = false := by simp; omega
  have n16 : (d.ty == 16) = false := by simp; omega
  have HM := Lib.hid hM
  clear hM
  generalize d.ty = x at *
  have hb0 : Below w.heap.size w (w.alloc (.cells #[.int .i64 x, vn, vu, vt, vr] 27)) := (Below.refl _ w).alloc (Nat.le_refl _) _
  have hbx := block_new w (.cells #[.int .i64 x, vn, vu, vt, vr] 27)
  obtain ⟨c0, c1, c2, c3, c4⟩ := cells5 hbx
  have HC := Lib.hid (hCall _ hb0); have HB0 := Lib.hid hb0
  clear hCall hbx hk hT hb0 a1 a2 a3 a4 ht
  go_enter Tryz.func12, Tryz.ntmps12
  go_wp2_with (go_at_call 33; refine (HC.out).mono ?_; rintro e w2 ⟨rfl, hb2⟩)
  go_ret
  exact ⟨by rw [HM.out]; rfl, HB0.out.trans (hb2.mono (by simp))⟩

set_option maxRecDepth 100000 in
set_option maxHeartbeats 8000000 in
theorem text_txt (v : Value) (d : Dat) (w : World) (hA : DatAt w v d) (hk : DatFew d) (ht : d.ty = 16) :
    Calls Tryz.prog 12 #[v] w fun e w' => e = .returned (.string ⟨(textD d).toArray⟩) ∧ Below w.heap.size w w' := by
  have hM : textD d = sepBy [32] (d.texts.map quotedM) := by unfold textD; rw [ht]; rfl
  have hlen := sepBy_len [32] 4195328 (d.texts.map quotedM) (fun x hx => by
    obtain ⟨n, hn, rfl⟩ := List.mem_map.1 hx
    exact quotedM_few (hk.1.2.2.2.2.2.1.2 n hn))
  have hCall := fun W (hb : Below w.heap.size w W) => rdata_textWords v d W (hA.below hb) hk.1
  obtain ⟨vn, vu, vt, vr, rfl, a1, a2, a3, a4⟩ := hA
  rw [ht] at hCall ⊢
  have hl1 : (d.texts.map quotedM).length ≤ 1024 := by rw [List.length_map]; exact hk.2.2.2.2
  generalize d.texts.map quotedM = xs at *
  have hJ : ∀ W b va, OwnG 9 strV W b va xs → _ := fun W b va hv => join_nm va xs ⟨#[32]⟩ W (OwnG.nmAt hv) (by omega) (by
    have e : (⟨#[32]⟩ : ByteArray).data.toList = [32] := rfl
    rw [e]; refine Nat.le_trans hlen ?_
    exact Nat.le_trans (Nat.mul_le_mul_right _ hl1) (by decide))
  have HM := Lib.hid hM
  have HJ := Lib.hid hJ
  have hb0 : Below w.heap.size w (w.alloc (.cells #[.int .i64 16, vn, vu, vt, vr] 27)) := (Below.refl _ w).alloc (Nat.le_refl _) _
  have hbx := block_new w (.cells #[.int .i64 16, vn, vu, vt, vr] 27)
  obtain ⟨c0, c1, c2, c3, c4⟩ := cells5 hbx
  have HC := Lib.hid (hCall _ hb0); have HB0 := Lib.hid hb0
  clear hCall hbx hk hb0 a1 a2 a3 a4 ht hJ hM hlen
  go_enter Tryz.func12, Tryz.ntmps12
  go_wp2_with (first | (go_at_call 32; refine (HC.out).mono ?_; rintro e w2 ⟨v2, rfl, ho2, hb2⟩) | (go_at_call 29; refine (HJ.out _ _ _ ho2).mono ?_; rintro e w3 ⟨rfl, hb3⟩))
  go_ret
  exact ⟨by rw [HM.out]; rfl, (HB0.out.trans (hb2.mono (by simp))).trans (hb3.mono (by have := hb2.size; simp at this; omega))⟩

theorem rdata_Text (v : Value) (d : Dat) (w : World) (hA : DatAt w v d) (hk : DatFew d) (hT : Tab w) (h28 : d.ty ≠ 28) :
    Calls Tryz.prog 12 #[v] w fun e w' => e = .returned (.string ⟨(textD d).toArray⟩) ∧ Below w.heap.size w w' := by
  by_cases h1 : d.ty = 1
  · exact text_a v d w hA hk hT h1
  by_cases h2 : d.ty = 2
  · exact text_n2 v d w hA hk hT h2
  by_cases h5 : d.ty = 5
  · exact text_n5 v d w hA hk hT h5
  by_cases h12 : d.ty = 12
  · exact text_n12 v d w hA hk hT h12
  by_cases h39 : d.ty = 39
  · exact text_n39 v d w hA hk hT h39
  by_cases h6 : d.ty = 6
  · exact text_n6 v d w hA hk hT h6
  by_cases h15 : d.ty = 15
  · exact text_mx v d w hA hk hT h15
  by_cases h16 : d.ty = 16
  · exact text_txt v d w hA hk h16
  exact text_other v d w hA hk hT ⟨h1, h28, h2, h5, h12, h39, h6, h15, h16⟩
end Go.Proofs.YtkjmghnbcnbdbaaGreatDoor

