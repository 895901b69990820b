import Derived.Test.YtnpnfajgphpabaaGreatMQ23
namespace Go.Proofs.YtnpnfajgphpabaaGreat
set_option linter.unusedVariables false
set_option linter.unusedSimpArgs false
set_option linter.unusedVariables false
set_option linter.unusedSimpArgs false
set_option maxRecDepth 100000
set_option maxHeartbeats 8000000
open Go.RowKit Go.Shelf
theorem qhz {rs : List Rc} {n : Nm} {k : Nat} (h : k < rs.length) : pointM (rs.take (k + 1)) n = pointM (rs.take k) n ++ if (decide (rs[k].data.ty = 2) && underN n rs[k].owner) = true then [rs[k].owner.length] else [] := by
 unfold pointM
 rw [List.take_succ_eq_append_getElem h, List.filter_append, List.map_append]
 congr 1
 by_cases e : (decide (rs[k].data.ty = 2) && underN n rs[k].owner) = true
 ·rw [if_pos e]; simp only [List.filter_cons, e, if_true, List.filter_nil, List.map_cons, List.map_nil]
 ·rw [if_neg e]; simp only [List.filter_cons, e, List.filter_nil, List.map_nil]; rfl
theorem qeP (rs : List Rc) (n : Nm) : (pointM rs n).length ≤ rs.length := by
 unfold pointM; rw [List.length_map]; exact List.length_filter_le _ _
def PtPost (w : World) (l : List Nat) (e : Ending) (w' : World) : Prop := ∃ v, e = .returned v ∧ OwnG 3 natV w' w.heap.size v l ∧ Below w.heap.size w w'
theorem qgb (za : Option Addr) (zn zc : Nat) (v1 : Option Addr) (m c : Nat) (vn : Value) (n : Nm) (css : List (List Value)) (rs : List Rc) (w : World) (hA : SlK w (.slice v1 m c) css) (hR : Rcs w css rs) (hOK : ∀ r ∈ rs, RcOK r) (hO : NmAt w vn n) (hko : NmOK n) (hl : m ≤ 1048576) :
 Calls Tryz.prog 98 #[.agg #[.slice za zn zc, .slice v1 m c], vn] w (PtPost w (pointM rs n)) := by
 obtain ⟨hln, hx⟩ : css.length = m ∧ m ≤ c := by
  obtain ⟨a', c', e, h1, _⟩ := id hA
  cases e; exact ⟨rfl, h1⟩
 have HN := qH0 (fun (k : Nat) (u : Value) (W : World) (h1 : k < rs.length) (hu : NmAt W u rs[k].owner) (hb : Below w.heap.size w W) => qcu vn u n rs[k].owner _ rfl W (hO.below hb) hu hko (hOK _ (List.getElem_mem h1)).1)
 obtain ⟨ao, co, rfl, -⟩ := nmAt_sl.1 hO
 have HA := qH0 hA; have HR := qH0 hR; have HLN := qH0 hln
 have HDL := qH0 (show rs.length = m by rw [← hR.1]; exact hln)
 obtain ⟨qo, hqo⟩ : ∃ q, (List.map strV n).length = q := ⟨_, rfl⟩
 rw [hqo] at HN ⊢
 have HB0 := qH0 ((Below.refl w.heap.size w).alloc (qN0) (.cells #[.slice za zn zc, .slice v1 m c] 31))
 clear hA hR hOK hln hO hko hqo
 go_enter Tryz.func98, Tryz.ntmps98
 go_wp2
 generalize w.alloc (.cells #[.slice za zn zc, .slice v1 m c] 31) = W0 at *
 go_loopw [5, 11] (fun v3 vi wr => ∃ (k : Nat) (ga : Option Addr) (gn gc : Nat), v3 = .slice ga gn gc ∧ vi = .int .i64 k ∧ k ≤ m ∧ Hid (OwnG 3 natV wr w.heap.size (.slice ga gn gc) (pointM (rs.take k) n)) ∧ Hid (Below w.heap.size w wr)) (fun _ vi _ => m - (intOf vi).toNat)
 case atStart => exact ⟨0, none, 0, 0, rfl, rfl, Nat.zero_le _, qH0 (OwnG.nil _ _), HB0⟩
 case round =>
  obtain ⟨k, ga, gn, gc, rfl, rfl, hk, HO, HB⟩ := hrel
  by_cases hlt : k < m
  ·have hltz : (k : Int) < (m : Int) := by omega
   have hk1 : k < css.length := by have := HLN.out; omega
   have hk2 : k < rs.length := by have := HDL.out; omega
   obtain ⟨b, off, rfl, hb, hel⟩ := HA.out.elem HR.out.ck (by omega)
   have h0 := HR.out.2 k hk1 hk2
   have htk := qhz (n := n) hk2
   have hnk := fun u W => HN.out k u W hk2
   obtain ⟨d, hd⟩ : ∃ d, rs[k]'hk2 = d := ⟨_, rfl⟩
   rw [hd] at h0 htk
   simp only [hd] at hnk
   have hsh := h0.shape
   obtain ⟨⟨p0, q0, k0⟩, ⟨p3, q3, k3⟩, ⟨p4, q4, k4⟩, ⟨p5, q5, k5⟩, ⟨p6, q6, k6⟩, e0⟩ := hsh
   simp only at e0
   obtain ⟨c0', c1, c2, c3, c4, c5, c6⟩ := hel k hk1 _ _ _ _ _ _ _ e0 wr HB.out
   have hown0 : NmAt w (.slice p0 q0 k0) d.owner := by
    obtain ⟨_, _, _, _, _, e5, g1, _⟩ := h0
    rw [e0] at e5
    simp only [List.cons.injEq, and_true] at e5
    rw [e5.1]; exact g1
   have hq0 := nm_len hown0
   have HBB := qH0 (HB.out.alloc HB.out.size (.cells #[.slice p0 q0 k0, .int .u32 (d.ttl : Int), .int .i64 d.data.ty, .slice p3 q3 k3, .slice p4 q4 k4, .slice p5 q5 k5, .slice p6 q6 k6] 47))
   have hn := hnk _ _ (hown0.below HBB.out) HBB.out
   have HO1 := qH0 (HO.out.below ((Below.refl _ wr).alloc (qN0) (.cells #[.slice p0 q0 k0, .int .u32 (d.ttl : Int), .int .i64 d.data.ty, .slice p3 q3 k3, .slice p4 q4 k4, .slice p5 q5 k5, .slice p6 q6 k6] 47)))
   have X1 := qH0 (knew wr (.cells #[.slice p0 q0 k0, .int .u32 (d.ttl : Int), .int .i64 d.data.ty, .slice p3 q3 k3, .slice p4 q4 k4, .slice p5 q5 k5, .slice p6 q6 k6] 47))
   rw [← hq0] at htk
   have HTK := qH0 htk
   clear h0 htk hd e0 hown0 hk1 hk2 hel hnk HO HB hq0
   generalize (d.ttl : Int) = tr at *
   generalize d.data.ty = ty at *
   by_cases hty : ty = 2
   ·subst hty
    go_wp2_with fail
    refine hn.mono ?_
    rintro e w2 ⟨rfl, hbb2⟩
    have HB2 := qH0 (qB0 HBB.out hbb2)
    have hblk := (hbb2.block wr.heap.size (by simp)).trans X1.out
    have hc0 := kcell hblk 0 _ rfl
    have hf0 := qag hblk 0
    have HO2 := qH0 (HO1.out.below hbb2)
    have hz2 := HB2.out.size
    have HTL := qH0 (show (pointM (rs.take k) n).length ≤ 1048576 by have := qeP (rs.take k) n; rw [List.length_take] at this; omega)
    clear hbb2 hblk hn HBB HO1 X1 c0' c1 c2 c3 c4 c5 c6
    by_cases hs : underN n d.owner = true
    ·rw [hs]
     have HT : Hid (pointM (rs.take (k + 1)) n = pointM (rs.take k) n ++ [q0]) := qH0 (by rw [HTK.out, hs]; rfl)
     clear HTK hs
     go_wp2_with (at_builtin; (refine qaN w2 rfl (.tmp 25) (.tmp 29) qbD rfl (fun _ => rfl) w.heap.size (.slice ga gn gc) (pointM (rs.take k) n) rfl HO2.out [.int .i64 (q0 : Int)] [q0] rfl 1 1 rfl rfl hz2 (by have := HTL.out; unfold maxLen; simp; omega) (by have := HTL.out; simp; omega) ?_); intro v3 w3 hown3 hg3)
     have HO3 : Hid (OwnG 3 natV w3 w.heap.size v3 (pointM (rs.take (k + 1)) n)) := qH0 (by rw [HT.out]; exact hown3)
     have HB3 := qH0 (HB2.out.grown hg3 hz2 HO2.out.base_le)
     obtain ⟨a3, c3', rfl⟩ := hown3.shape
     clear hown3 hg3
     go_roundw
     case measure => simp [intOf]; omega
     case rel => exact ⟨k + 1, a3, _, c3', rfl, by go_num, by omega, HO3, HB3⟩
    ·simp only [Bool.not_eq_true] at hs
     rw [hs]
     have HO3 : Hid (OwnG 3 natV w2 w.heap.size (.slice ga gn gc) (pointM (rs.take (k + 1)) n)) := qH0 (by rw [HTK.out, hs]; simpa using HO2.out)
     clear HTK hs
     go_wp2
     go_roundw
     case measure => simp [intOf]; omega
     case rel => exact ⟨k + 1, ga, gn, gc, rfl, by go_num, by omega, HO3, HB2⟩
   ·have hxb : (ty == 2) = false := by simpa using hty
    have HO3 : Hid (OwnG 3 natV (wr.alloc (.cells #[.slice p0 q0 k0, .int .u32 tr, .int .i64 ty, .slice p3 q3 k3, .slice p4 q4 k4, .slice p5 q5 k5, .slice p6 q6 k6] 47)) w.heap.size (.slice ga gn gc) (pointM (rs.take (k + 1)) n)) := qH0 (by rw [HTK.out]; simpa [hty] using HO1.out)
    clear HTK hn hty
    go_wp2
    go_roundw
    case measure => simp [intOf]; omega
    case rel => exact ⟨k + 1, ga, gn, gc, rfl, by go_num, by omega, HO3, HBB⟩
  ·obtain rfl : k = m := by omega
   have h := HO.out
   rw [List.take_of_length_le (by have := HDL.out; omega)] at h
   have HF := qH0 h
   clear h HO
   go_wp2
   go_ret
   exact ⟨_, rfl, HF.out, HB.out⟩
end Go.Proofs.YtnpnfajgphpabaaGreat
namespace Go.Proofs.YtnpnfajgphpabaaGreat
set_option linter.unusedVariables false
set_option linter.unusedSimpArgs false
set_option maxRecDepth 100000
set_option maxHeartbeats 16000000
open Go.RowKit Go.Shelf
theorem qcX {fn : Func} {t u : Tmp} (h : fn.results = #[.cell t 23, .cell u 4]) (tmps : Array Value) (W : World) {a b : Nat} {v z : Value} (hv : v.oneCell' = true) (hz : z.oneCell' = true)
 (ht : tmps.getD t undef = .pointer (some ⟨a, 0, none⟩)) (hu : tmps.getD u undef = .pointer (some ⟨b, 0, none⟩)) (c0 : W.cell? ⟨a, 0, none⟩ = some v) (c1 : W.cell? ⟨b, 0, none⟩ = some z) :
 (results fn tmps).run Tryz.prog W = .ok (.tuple #[v, z]) W := by
 have ht' : tmps[t]?.getD undef = .pointer (some ⟨a, 0, none⟩) := by rw [← ht]; simp
 have hu' : tmps[u]?.getD undef = .pointer (some ⟨b, 0, none⟩) := by rw [← hu]; simp
 have hA : ∀ w, Sem.run Tryz.prog (underlying 23) w = .ok _ w := run_underlying Tryz.underlying23
 have hB : ∀ w, Sem.run Tryz.prog (underlying 4) w = .ok _ w := run_underlying Tryz.underlying4
 simp [results, h, ht', hu', loadVar, asAddr, go_sem, hA, hB, c0, c1, isAgg]
theorem qke {o n : Nm} {rs : List Rc} (hu : underN n o = true) {N : Nat} (hN : N = n.length - o.length) (h : ∀ x : Fin N, (pointM rs n).contains (o.length + 1 + x.val) = false) : cutM o rs n = none := by
 unfold cutM
 rw [if_pos hu, List.find?_eq_none]
 intro s hs
 rw [List.mem_range'_1] at hs
 have := h ⟨s - (o.length + 1), by omega⟩
 simp only at this
 rw [show o.length + 1 + (s - (o.length + 1)) = s by omega] at this
 rw [this]; simp
theorem qkF {o n : Nm} {rs : List Rc} (hu : underN n o = true) {N : Nat} (hN : N = n.length - o.length) {p : List (Fin N)} {x : Fin N} (hp : p ++ [x] <+: List.finRange N) (h : ∀ y ∈ p, (pointM rs n).contains (o.length + 1 + y.val) = false) (hx : (pointM rs n).contains (o.length + 1 + x.val) = true) : cutM o rs n = some (o.length + 1 + x.val) := by
 obtain ⟨h1, h2⟩ := qeO hp
 have hxN := x.isLt
 unfold cutM
 rw [if_pos hu, qd5 (o.length + 1) x.val (n.length - o.length) (by omega), qd0]
 have e1 : (List.range' (o.length + 1) x.val).find? (fun s => (pointM rs n).contains s) = none := by
  rw [List.find?_eq_none]
  intro s hs
  rw [List.mem_range'_1] at hs
  have := h ⟨s - (o.length + 1), by omega⟩ (h2 _ (by simp; omega))
  simp only at this
  rw [show o.length + 1 + (s - (o.length + 1)) = s by omega] at this
  rw [this]; simp
 have e2 : (List.range' (o.length + 1 + x.val) (n.length - o.length - x.val)).find? (fun s => (pointM rs n).contains s) = some (o.length + 1 + x.val) := by
  rw [show n.length - o.length - x.val = (n.length - o.length - x.val - 1) + 1 by omega, List.range'_succ, List.find?_cons_of_pos hx]
 rw [e1, e2]; rfl
def cutN (n : Nm) (r : Option Nat) : Nm := match r with | some s => ancN n s | none => []
def qfi (w : World) (n : Nm) (r : Option Nat) (e : Ending) (w' : World) : Prop := ∃ a k c, e = .returned (.tuple #[.slice a k c, .bool r.isSome]) ∧ NmAt w' (.slice a k c) (cutN n r) ∧ Below w.heap.size w w'
def CutX (w W2 : World) (b1 b2 zn : Nat) (n : Nm) (rs : List Rc) {N : Nat} (c : Code) (pre : List (Fin N)) (W : World) : Prop :=
 c = .ret ∧ ∃ p x, pre = p ++ [x] ∧ (∀ y ∈ p, (pointM rs n).contains (zn + 1 + y.val) = false) ∧ (pointM rs n).contains (zn + 1 + x.val) = true ∧ Boxed W b2 4 (.bool true) ∧ ∃ v, Boxed W b1 23 v ∧ OwnG 9 strV W W2.heap.size v (ancN n (zn + 1 + x.val)) ∧ Below w.heap.size w W
theorem qjT {w W2 : World} {b1 b2 zn : Nat} {n : Nm} {rs : List Rc} {N : Nat} (c : Code) (h1 : b1 < W2.heap.size) (h2 : b2 < W2.heap.size) (hw : w.heap.size ≤ W2.heap.size) : OwnFrom W2.heap.size (CutX (N := N) w W2 b1 b2 zn n rs c) := by
 rintro pre W W' row ⟨k1, p, x, k2, k3, k4, k5, v, k6, k7, k8⟩ hg hr
 exact ⟨k1, p, x, k2, k3, k4, k5.kept hg (fun e => by have := (hr b2 e.symm).1; omega), v, k6.kept hg (fun e => by have := (hr b1 e.symm).1; omega), k7.keptO hg (fun r e => (hr r e).2), k8.grown hg k8.size (fun r e => by have := (hr r e).1; omega)⟩
section
attribute [local go_sem] Oper.semAt_some
theorem qiJ (za : Option Addr) (zn zc : Nat) (v1 : Option Addr) (m c : Nat) (vn : Value) (o n : Nm) (css : List (List Value)) (rs : List Rc) (w : World) (hZ : NmAt w (.slice za zn zc) o) (hkz : NmOK o) (hA : SlK w (.slice v1 m c) css) (hR : Rcs w css rs) (hOK : ∀ r ∈ rs, RcOK r) (hO : NmAt w vn n) (hko : NmOK n) (hl : m ≤ 1048576) :
 Calls Tryz.prog 78 #[.agg #[.slice za zn zc, .slice v1 m c], vn] w (qfi w n (cutM o rs n)) := by
 have hzn := nm_len hZ
 have HUN := qH0 (fun (W : World) (hb : Below w.heap.size w W) => qcu vn (.slice za zn zc) n o _ rfl W (hO.below hb) (hZ.below hb) hko hkz)
 have HPT := qH0 (fun (W : World) (hb : Below w.heap.size w W) => qgb za zn zc v1 m c vn n css rs W (hA.below hb) (hR.below hb) hOK (hO.below hb) hko hl)
 obtain ⟨ao, co, rfl, -⟩ := nmAt_sl.1 hO
 obtain ⟨qo, hqo⟩ : ∃ q, (List.map strV n).length = q := ⟨_, rfl⟩
 have hqn : n.length = qo := by rw [← hqo, List.length_map]
 rw [hqo] at HUN HPT hO ⊢
 have hqc := nm_cap hO
 have hq1 : qo ≤ 1048576 := by have := hko.1; omega
 have hz1 : zn ≤ 1048576 := by have := hkz.1; omega
 have HO := qH0 hO; have HZL := qH0 hzn; have HQN := qH0 hqn
 have HPL := qH0 (show (pointM rs n).length ≤ 1048576 by
  have h1 := qeP rs n
  obtain ⟨a', c', e, h2, _⟩ := id hA
  cases e
  have := hR.1; omega)
 clear hZ hkz hA hR hOK hO hko hqo hzn hqn
 refine (callsIn_wide (n := 8)).1 ?_
 refine callsIn_of_wp_marks Tryz.func78 rfl trivial ?_ rfl
 simp only [Tryz.ntmps78, List.size_toArray, List.length_cons, List.length_nil, Nat.reduceAdd, Nat.reduceSub, Array.replicate_succ, Array.replicate_zero, List.push_toArray, List.append_toArray, List.nil_append, List.cons_append]
 refine wpIn_wide.2 ?_
 obtain ⟨W0, hW0⟩ : ∃ W0, ((w.alloc (.cells #[.slice za zn zc, .slice v1 m c] 31)).alloc (.cells #[.slice none 0 0] 23)).alloc (.cells #[.bool false] 4) = W0 := ⟨_, rfl⟩
 have HB0 : Hid (Below w.heap.size w W0) := qH0 (by rw [← hW0]; exact (((Below.refl w.heap.size w).alloc (qN0) _).alloc (by simp) _).alloc (by simp; omega) _)
 have HZ0 : Hid (W0.heap.size = w.heap.size + 3) := qH0 (by rw [← hW0]; simp)
 have x0 : W0.heap[w.heap.size]? = some (.cells #[.slice za zn zc, .slice v1 m c] 31) := by
  rw [← hW0]; exact (Below.heap_alloc _ _ _ (by simp; omega)).trans ((Below.heap_alloc _ _ _ (by simp)).trans (knew w _))
 have x1 : W0.heap[w.heap.size + 1]? = some (.cells #[.slice none 0 0] 23) := by
  have h := knew (w.alloc (.cells #[.slice za zn zc, .slice v1 m c] 31)) (.cells #[.slice none 0 0] 23)
  rw [World.size_alloc] at h
  rw [← hW0]; exact (Below.heap_alloc _ _ _ (by simp)).trans h
 have x2 : W0.heap[w.heap.size + 1 + 1]? = some (.cells #[.bool false] 4) := by
  have h := knew ((w.alloc (.cells #[.slice za zn zc, .slice v1 m c] 31)).alloc (.cells #[.slice none 0 0] 23)) (.cells #[.bool false] 4)
  rw [World.size_alloc, World.size_alloc] at h
  rw [← hW0]; exact h
 have hU := HUN.out W0 HB0.out
 have X0 := qH0 x0; have X1 := qH0 x1; have X2 := qH0 x2
 have y0 := kcell x0 0 _ rfl
 clear x0 x1 x2
 go_wp2_with fail
 clear hW0
 refine hU.mono ?_
 rintro e w1 ⟨rfl, hb1⟩
 have HB1 := qH0 (qB0 HB0.out hb1)
 have h0 := (hb1.block w.heap.size (qaa X0.out)).trans X0.out
 have h1 : Boxed w1 (w.heap.size + 1) 23 (.slice none 0 0) := (hb1.block (w.heap.size + 1) (qaa X1.out)).trans X1.out
 have h2 : Boxed w1 (w.heap.size + 1 + 1) 4 (.bool false) := (hb1.block (w.heap.size + 1 + 1) (qaa X2.out)).trans X2.out
 have HZ1 := qH0 (show w.heap.size + 3 ≤ w1.heap.size by have := HZ0.out; have := hb1.size; omega)
 have Y0 := qH0 h0; have Y1 := qH0 h1; have Y2 := qH0 h2
 clear hb1 HB0 HZ0 X0 X1 X2 hU y0 HUN
 by_cases hu : underN n o = true
 ·rw [hu]
  have HU := qH0 hu
  clear hu
  have hp := HPT.out w1 HB1.out
  unfold PtPost at hp
  have y0 := kcell h0 0 _ rfl
  have y1 := kcell h0 1 _ rfl
  clear h0 h1 h2 HPT
  go_wp2_with fail
  refine hp.mono ?_
  rintro e w2 ⟨v2, rfl, ho2, hb2⟩
  obtain ⟨da, dc, rfl⟩ := ho2.shape
  obtain ⟨dl, hdl⟩ : ∃ dl, (pointM rs n).length = dl := ⟨_, rfl⟩
  have hsl := SlAt.of_own ho2
  rw [hdl] at hsl ⊢
  obtain ⟨W2, hW2⟩ : ∃ W2, ((w2.alloc (.cells #[.slice da dl dc] 68)).alloc (.cells #[.int .i64 ((zn : Int) + 1)] 3)).alloc (.cells #[.slice ao qo co] 23) = W2 := ⟨_, rfl⟩
  have hB2 : Below w2.heap.size w2 W2 := by rw [← hW2]; exact (((Below.refl w2.heap.size w2).alloc (qN0) _).alloc (by simp) _).alloc (by simp; omega) _
  have hz2 : W2.heap.size = w2.heap.size + 3 := by rw [← hW2]; simp
  have x6 : Boxed W2 w2.heap.size 68 (.slice da dl dc) := by
   rw [← hW2]; exact ((Boxed.new w2 _ _).alloc _).alloc _
  have x7 : Boxed W2 (w2.heap.size + 1) 3 (.int .i64 ((zn + 1 : Nat) : Int)) := by
   have h := Boxed.new (w2.alloc (.cells #[.slice da dl dc] 68)) 3 (.int .i64 ((zn : Int) + 1))
   rw [World.size_alloc] at h
   rw [← hW2]; exact h.alloc _
  have x8 : Boxed W2 (w2.heap.size + 1 + 1) 23 (.slice ao qo co) := by
   have h := Boxed.new ((w2.alloc (.cells #[.slice da dl dc] 68)).alloc (.cells #[.int .i64 ((zn : Int) + 1)] 3)) 23 (.slice ao qo co)
   rw [World.size_alloc, World.size_alloc] at h
   rw [← hW2]; exact h
  have hb12 : Below w1.heap.size w1 W2 := qB0 hb2 hB2
  have k0 := (hb2.block w.heap.size (qaa Y0.out)).trans Y0.out
  have hB12 := qH0 hb12
  have X1 : Hid (Boxed W2 (w.heap.size + 1) 23 (.slice none 0 0)) := qH0 ((hb12.block _ (qaa Y1.out)).trans Y1.out)
  have X2 : Hid (Boxed W2 (w.heap.size + 1 + 1) 4 (.bool false)) := qH0 ((hb12.block _ (qaa Y2.out)).trans Y2.out)
  have X6 := qH0 x6; have X7 := qH0 x7; have X8 := qH0 x8
  have HWW := qH0 (qB0 HB1.out hb12)
  have HSL := qH0 (hsl.below hB2)
  have HZ2 := qH0 (show w.heap.size + 3 ≤ w2.heap.size by have := HZ1.out; have := hb2.size; omega)
  have HZ3 := qH0 hz2
  have HDL := qH0 hdl
  have k1 : (w2.alloc (.cells #[.slice da dl dc] 68)).heap[w.heap.size]? = some (.cells #[.slice za zn zc, .slice v1 m c] 31) := (Below.heap_alloc _ _ _ (qaa k0)).trans k0
  have z0 := kcell k1 0 _ rfl
  have hD := fun W => qf8 (zn + 1) ao qo co W
  simp only [Int.natCast_add, Int.cast_ofNat_Int] at hD
  clear x6 x7 x8 hb12 k0 k1 hB2 hz2 hb2 ho2 hsl y0 y1 hp hdl Y0 Y1 Y2 HZ1
  go_wp2_with fail
  refine (hD _).mono ?_
  rintro e w' ⟨rfl, rfl⟩
  go_wp2
  refine (wpIn_wide (n := 8)).1 ?_
  clear hW2 hD z0
  obtain ⟨N, hN⟩ : ∃ N, N = qo + 1 - (zn + 1) := ⟨_, rfl⟩
  obtain ⟨g, off, hgo⟩ : ∃ g off, N = 0 ∨ ao = some ⟨g, off, none⟩ := by
   obtain ⟨a', c', e, h⟩ := HO.out.1
   injection e with e1 e2 _
   rcases h with h | ⟨b, off, h, _⟩
   ·exact ⟨0, 0, .inl (by rw [h] at e2; simp at e2; omega)⟩
   ·exact ⟨b, off, .inr (by rw [e1, h])⟩
  have HN := qH0 hN; have HGO := qH0 hgo
  clear hN hgo
  refine wpIn_rangeFunc_ownG rfl (by omega) (gf := 114) (lb := #[.pointer (some ⟨w2.heap.size + 1, 0, none⟩), .pointer (some ⟨w2.heap.size + 1 + 1, 0, none⟩)]) rfl trivial (enters_of Tryz.func114 (by kernel_rfl) rfl)
   (qfj _ (by omega) (w2.heap.size + 1) (w2.heap.size + 1 + 1) ao g off qo co (zn + 1) N HN.out (by omega) HGO.out hqc hq1 (by omega) W2 (by rw [HZ3.out]; omega) (by rw [HZ3.out]; omega) X7.out.cell X8.out.cell) qdP (qci (by rw [HZ3.out]; omega)) (qL0) (fun _ => rfl)
   (fun pre W => Below W2.heap.size W2 W ∧ ∀ x ∈ pre, (pointM rs n).contains (zn + 1 + x.val) = false)
   (CutX w W2 (w.heap.size + 1) (w.heap.size + 1 + 1) zn n rs)
   (OwnFrom.and (ownFrom_below (qN0) (qN0)) (ownFrom_pure _ _))
   (fun k => qjT k (by have := HZ2.out; have := HZ3.out; omega) (by have := HZ2.out; have := HZ3.out; omega) (by have := HZ2.out; have := HZ3.out; omega))
   ⟨qL0, by simp⟩
   (fun x => { tmps := #[.agg #[.slice za zn zc, .slice v1 m c], .slice ao qo co, .pointer (some ⟨w.heap.size, 0, none⟩), undef, .pointer (some ⟨w.heap.size + 1, 0, none⟩), .pointer (some ⟨w.heap.size + 1 + 1, 0, none⟩), .pointer (some ⟨w2.heap.size, 0, none⟩), .slice (some ⟨g, off + (qo - (zn + 1 + x.val)), none⟩) (zn + 1 + x.val) (co - (qo - (zn + 1 + x.val))), .slice ao qo co, .pointer (some ⟨w.heap.size, 0, none⟩), .slice za zn zc, .bool true, .bool false, .agg #[.slice za zn zc, .slice v1 m c], .slice ao qo co, .slice da dl dc, .pointer (some ⟨w.heap.size, 0, none⟩), .slice za zn zc, .int .i64 (zn : Int), .int .i64 ((zn : Int) + 1), .slice ao qo co, .func (.func 114) #[] #[.pointer (some ⟨w2.heap.size + 1, 0, none⟩), .pointer (some ⟨w2.heap.size + 1 + 1, 0, none⟩)], .slice (some ⟨g, off + (qo - (zn + 1 + x.val)), none⟩) (zn + 1 + x.val) (co - (qo - (zn + 1 + x.val))), undef, undef, undef, undef, undef, undef], defers := [] }) ?assign ?body ?done ?stop
  case assign =>
   intro l x W K hK
   unfold dnV
   gi_wp2
   exact hK
  case body =>
   rintro l pre x W ⟨hB, hno⟩ hlt
   have hxN := x.isLt
   obtain ⟨s, hs⟩ : ∃ s, zn + 1 + x.val = s := ⟨_, rfl⟩
   have hsq : s ≤ qo := by have := HN.out; omega
   have HS := qH0 hs
   rw [hs]
   obtain rfl : ao = some ⟨g, off, none⟩ := by
    rcases HGO.out with h | h
    ·omega
    ·exact h
   have x6 := (hB.block _ X6.out.lt).trans X6.out
   have y6 : W.cell? ⟨w2.heap.size, 0, none⟩ = some (.slice da dl dc) := Boxed.cell x6
   have hcn := qgZ (.slice da dl dc) (pointM rs n) s W (HSL.out.below hB) HPL.out
   have hww : Below w.heap.size w W := qB0 HWW.out hB
   have hnm := nm_anc (HO.out.below hww) (s := s) (by omega) hsq
   rw [show n.drop (qo - s) = ancN n s by unfold ancN; rw [HQN.out]] at hnm
   have hcl := qbr (.slice (some ⟨g, off + (qo - s), none⟩) s (co - (qo - s))) (ancN n s) W hnm.1 hnm.2 (by rw [qc4 (by rw [HQN.out]; exact hsq)]; omega)
   have c1 : Boxed W (w.heap.size + 1) 23 (.slice none 0 0) := (hB.block _ X1.out.lt).trans X1.out
   have c2 : Boxed W (w.heap.size + 1 + 1) 4 (.bool false) := (hB.block _ X2.out.lt).trans X2.out
   have HNO := qH0 hno; have HBB := qH0 hB; have HW := qH0 hww; have HC1 := qH0 c1; have HC2 := qH0 c2
   generalize hq : (pointM rs n).contains s = q at *
   have HQ := qH0 hq
   generalize co - (qo - s) = c9 at *
   generalize off + (qo - s) = o9 at *
   clear x6 hnm hno hB hww hs c1 c2 hq
   cases q with
   | false =>
    gi_wp2_with (refine ⟨trivial, ?_⟩; gi_at_call 100; refine (CallsIn.inRound l (callsIn_wide.2 hcn)).mono ?_; rintro e W ⟨rfl, rfl⟩)
    refine ⟨(KeepsOthers.refl _).from _, KeepB.refl _ _, HBB.out, fun y hy => ?_⟩
    rcases List.mem_append.1 hy with hy | hy
    ·exact HNO.out y hy
    ·obtain rfl := List.mem_singleton.1 hy; rw [HS.out]; exact HQ.out
   | true =>
    gi_wp2_with (first | (refine ⟨trivial, ?_⟩; gi_at_call 100; refine (CallsIn.inRound l (callsIn_wide.2 hcn)).mono ?_; rintro e W ⟨rfl, rfl⟩) | (refine ⟨trivial, ?_⟩; gi_at_call 22; refine (CallsIn.inRound l (callsIn_wide.2 hcl)).mono ?_; rintro e w9 ⟨v9, rfl, ho9, hb9⟩; obtain ⟨a9, n9, cc9, rfl⟩ : ∃ a n c, v9 = .slice a n c := (by obtain ⟨a, c, e⟩ := ho9.shape; exact ⟨_, _, _, e⟩); have e1 : Boxed w9 (w.heap.size + 1) 23 (.slice none 0 0) := (hb9.block _ HC1.out.lt).trans HC1.out; have e2 : Boxed w9 (w.heap.size + 1 + 1) 4 (.bool false) := (hb9.block _ HC2.out.lt).trans HC2.out; have q1 := e1.cell; have q2 := e2.cell; have q3 := e1.frozen; have q4 := e2.frozen; have E1 := qH0 e1; have E2 := qH0 e2; clear e1 e2))
    have ho := ho9.weaken HBB.out.size
    have e1 := E1.out; have e2 := E2.out
    refine ⟨(((KeepsOthers.of_below hb9).trans (KeepsOthers.setCell _ _ _)).trans (KeepsOthers.setCell _ _ _)).from _, rfl, pre, x, rfl, HNO.out, by rw [HS.out]; exact HQ.out, Boxed.set _ (e2.other (by omega) _), _, (e1.set _).other (by omega) _, ?_, ((qB0 HW.out hb9).setCell (p := ⟨w.heap.size + 1, 0, none⟩) (by simp) _).setCell (p := ⟨w.heap.size + 1 + 1, 0, none⟩) (by simp; omega) _⟩
    rw [HS.out]
    exact (ho.keptB e1 (by decide) 0 _).keptB (e2.other (by omega) _) (by decide) 0 _
  case done =>
   rintro D xs W hD rfl ⟨hB, hno⟩ hK
   have HC : Hid (cutM o rs n = none) := qH0 (qke HU.out (N := N) (by have := HN.out; have := HQN.out; have := HZL.out; omega) (fun x => by have := hno x (List.mem_finRange _); rw [← HZL.out]; exact this))
   have c1 : Boxed W (w.heap.size + 1) 23 (.slice none 0 0) := (hB.block _ X1.out.lt).trans X1.out
   have c2 : Boxed W (w.heap.size + 1 + 1) 4 (.bool false) := (hB.block _ X2.out.lt).trans X2.out
   have hww : Below w.heap.size w W := qB0 HWW.out hB
   have q1 := c1.cell; have q2 := c2.cell; have q3 := c1.frozen; have q4 := c2.frozen
   have HC1 := qH0 c1; have HC2 := qH0 c2; have HW := qH0 hww; have HKD := qH0 hK
   have hd1 : D ≠ w.heap.size + 1 := by have := HZ2.out; have := HZ3.out; omega
   have hd2 : D ≠ w.heap.size + 1 + 1 := by have := HZ2.out; have := HZ3.out; omega
   have hd3 : w.heap.size ≤ D := by have := HZ2.out; have := HZ3.out; omega
   clear hB hno c1 c2 hww hK
   go_wp2
   refine ⟨by simp, .inl ⟨_, _, rfl, run_takeDeferred (qaw (qaw HKD.out hd1 _) hd2 _), ?_⟩⟩
   refine ⟨_, qcX rfl _ _ rfl rfl rfl rfl (qaq ((HC1.out.set _).other (by omega) _) hd1.symm _) (qaq (Boxed.set _ (HC2.out.other (by omega) _)) hd2.symm _), ?_⟩
   rw [HC.out]
   exact ⟨none, 0, 0, rfl, nm_nil _, qal ((HW.out.setCell (p := ⟨w.heap.size + 1, 0, none⟩) (by simp) _).setCell (p := ⟨w.heap.size + 1 + 1, 0, none⟩) (by simp; omega) _) hd3 (qN0)⟩
  case stop =>
   rintro D k pre W hD hp ⟨rfl, p, x, rfl, hno, hyes, c2, v, c1, ho, hww⟩ hK
   have HC : Hid (cutM o rs n = some (zn + 1 + x.val)) := qH0 (by
    rw [HZL.out] at hno hyes ⊢
    exact qkF HU.out (N := N) (by have := HN.out; have := HQN.out; have := HZL.out; omega) hp hno hyes)
   obtain ⟨a9, c9, rfl⟩ := ho.shape
   have HC1 := qH0 c1; have HC2 := qH0 c2; have HW := qH0 hww; have HKD := qH0 hK; have HO9 := qH0 ho
   have hd1 : D ≠ w.heap.size + 1 := by have := HZ2.out; have := HZ3.out; omega
   have hd2 : D ≠ w.heap.size + 1 + 1 := by have := HZ2.out; have := HZ3.out; omega
   have hd3 : w.heap.size ≤ D := by have := HZ2.out; have := HZ3.out; omega
   clear hno hyes c1 c2 hww hK ho hp
   gi_wp2
   refine ⟨by simp, .inl ⟨_, _, rfl, run_takeDeferred HKD.out, ?_⟩⟩
   refine ⟨_, qcX rfl _ _ rfl rfl rfl rfl (qaq HC1.out hd1.symm _) (qaq HC2.out hd2.symm _), ?_⟩
   rw [HC.out]
   exact ⟨a9, _, c9, rfl, (HO9.out.keptO (grownBy_putObj' W D (.deferred none)) (fun r e => by cases e; exact ⟨_, HKD.out, rfl⟩)).nmAt, qal HW.out hd3 (qN0)⟩
 ·simp only [Bool.not_eq_true] at hu
  rw [hu]
  have HU := qH0 (show cutM o rs n = none by unfold cutM; rw [hu]; rfl)
  have hc1 := h1.cell; have hf1 := h1.frozen; have hc2 := h2.cell; have hf2 := h2.frozen
  have H1 := qH0 h1; have H2 := qH0 h2
  clear hu h0 h1 h2 HPT
  go_wp2
  refine ⟨_, qcX rfl _ _ rfl rfl rfl rfl ((Boxed.set (.slice none 0 0) H1.out).other (by omega) _).cell (Boxed.set (.bool false) (H2.out.other (by omega) _)).cell, ?_⟩
  rw [HU.out]
  exact ⟨none, 0, 0, rfl, nm_nil _, (HB1.out.setCell (p := ⟨w.heap.size + 1, 0, none⟩) (by simp) _).setCell (p := ⟨w.heap.size + 1 + 1, 0, none⟩) (by simp; omega) _⟩
end
end Go.Proofs.YtnpnfajgphpabaaGreat
namespace Go.Proofs.YtnpnfajgphpabaaGreat
set_option linter.unusedVariables false
set_option linter.unusedSimpArgs false
set_option maxRecDepth 100000
set_option maxHeartbeats 8000000
open Go.RowKit Go.Shelf
def ZonS (W : World) (za : Option Addr) (zn zc : Nat) (v1 : Option Addr) (m c : Nat) (o : Nm) (rs : List Rc) : Prop :=
 NmAt W (.slice za zn zc) o ∧ NmOK o ∧ (∃ css, SlK W (.slice v1 m c) css ∧ Rcs W css rs) ∧ (∀ r ∈ rs, RcOK r) ∧ m ≤ 1048576
theorem ZonS.below {W W' : World} {za v1 : Option Addr} {zn zc m c : Nat} {o : Nm} {rs : List Rc} (h : ZonS W za zn zc v1 m c o rs) (hb : Below W.heap.size W W') : ZonS W' za zn zc v1 m c o rs := by
 obtain ⟨h1, h2, ⟨css, h3, h4⟩, h5, h6⟩ := h
 exact ⟨h1.below hb, h2, ⟨css, h3.below hb, h4.below hb⟩, h5, h6⟩
theorem zs_cut {w : World} {za v1 : Option Addr} {zn zc m c : Nat} {o n : Nm} {rs : List Rc} {vn : Value} (h : ZonS w za zn zc v1 m c o rs) (hO : NmAt w vn n) (hko : NmOK n) :
 Calls Tryz.prog 78 #[.agg #[.slice za zn zc, .slice v1 m c], vn] w (qfi w n (cutM o rs n)) := by
 obtain ⟨h1, h2, ⟨css, h3, h4⟩, h5, h6⟩ := h
 exact qiJ za zn zc v1 m c vn o n css rs w h1 h2 h3 h4 h5 hO hko h6
theorem qkH {w : World} {za v1 : Option Addr} {zn zc m c : Nat} {o n : Nm} {rs : List Rc} {vn : Value} (h : ZonS w za zn zc v1 m c o rs) (hO : NmAt w vn n) (hko : NmOK n) :
 Calls Tryz.prog 77 #[vn, .slice za zn zc] w fun e w' => e = .returned (.bool (underN n o)) ∧ Below w.heap.size w w' := qcu vn (.slice za zn zc) n o _ rfl w hO h.1 hko h.2.1
theorem qeZ {w : World} {za v1 : Option Addr} {zn zc m c : Nat} {o n : Nm} {rs : List Rc} {vn : Value} (h : ZonS w za zn zc v1 m c o rs) (hO : NmAt w vn n) (hko : NmOK n) :
 Calls Tryz.prog 48 #[.agg #[.slice za zn zc, .slice v1 m c], vn] w fun e w' => e = .returned (.int .i64 (whereM o rs n)) ∧ Below w.heap.size w w' := by
 have HU := qH0 (fun (W : World) (hb : Below w.heap.size w W) => qkH (h.below hb) (hO.below hb) hko)
 have HC := qH0 (fun (W : World) (hb : Below w.heap.size w W) => zs_cut (h.below hb) (hO.below hb) hko)
 have HWH := qH0 (show whereM o rs n = if underN n o then (match cutM o rs n with | none => 1 | some s => if s = n.length then 2 else 3) else 0 from rfl)
 have HCS := qH0 (fun s (h : cutM o rs n = some s) => (qfP h).2.2)
 obtain ⟨ao, co, rfl, -⟩ := nmAt_sl.1 hO
 obtain ⟨qo, hqo⟩ : ∃ q, (List.map strV n).length = q := ⟨_, rfl⟩
 have hqn : n.length = qo := by rw [← hqo, List.length_map]
 have HQN := qH0 hqn
 rw [hqo] at HU HC ⊢
 generalize whereM o rs n = res at *
 have hB0 := (Below.refl w.heap.size w).alloc (qN0) (.cells #[.slice za zn zc, .slice v1 m c] 31)
 have X0 := qH0 (knew w (.cells #[.slice za zn zc, .slice v1 m c] 31))
 have hu := HU.out _ hB0
 have HB0 := qH0 hB0
 clear h hO hko hqo hqn hB0 HU
 go_enter Tryz.func48, Tryz.ntmps48
 go_wp2_with fail
 refine hu.mono ?_
 rintro e w1 ⟨rfl, hb1⟩
 have HB1 := qH0 (qB0 HB0.out hb1)
 have h0 := (hb1.block w.heap.size (qaa X0.out)).trans X0.out
 have y0 := kcell h0 0 _ rfl
 have y1 := kcell h0 1 _ rfl
 clear h0 hb1 hu HB0 X0
 by_cases hu : underN n o = true
 ·rw [hu] at HWH ⊢
  have hc := HC.out w1 HB1.out
  have HU := qH0 hu
  clear hu HC
  obtain ⟨r, hr⟩ : ∃ r, cutM o rs n = r := ⟨_, rfl⟩
  rw [hr] at hc HWH
  have HR := qH0 hr
  clear hr
  go_wp2_with fail
  refine hc.mono ?_
  rintro e w2 ⟨a2, k2, c2, rfl, hnm, hb2⟩
  have hk2 := nm_len hnm
  have HB2 := qH0 (qB0 HB1.out hb2)
  clear hc hb2 hnm y0 y1
  cases r with
  | none =>
   have H1 : Hid (res = 1) := qH0 (by rw [HWH.out]; rfl)
   clear HWH hk2
   go_wp2
   go_ret
   exact ⟨by rw [H1.out]; rfl, HB2.out⟩
  | some s =>
   have hsq := HCS.out s HR.out
   have hks : k2 = s := by rw [hk2]; exact qc4 hsq
   clear hk2
   subst hks
   by_cases hq : k2 = qo
   ·have hbb : ((k2 : Int) == (qo : Int)) = true := by simp; omega
    have H1 : Hid (res = 2) := qH0 (by rw [HWH.out]; simp [HQN.out, hq])
    clear HWH hq hsq
    go_wp2
    go_ret
    exact ⟨by rw [H1.out]; rfl, HB2.out⟩
   ·have hbb : ((k2 : Int) == (qo : Int)) = false := by simp; omega
    have H1 : Hid (res = 3) := qH0 (by rw [HWH.out]; simp [HQN.out, hq])
    clear HWH hq hsq
    go_wp2
    go_ret
    exact ⟨by rw [H1.out]; rfl, HB2.out⟩
 ·simp only [Bool.not_eq_true] at hu
  rw [hu] at HWH ⊢
  have H1 : Hid (res = 0) := qH0 (by rw [HWH.out]; rfl)
  clear hu HWH HC
  go_wp2
  go_ret
  exact ⟨by rw [H1.out]; rfl, HB1.out⟩
end Go.Proofs.YtnpnfajgphpabaaGreat
namespace Go.Proofs.YtnpnfajgphpabaaGreat
set_option linter.unusedVariables false
set_option linter.unusedSimpArgs false
set_option maxRecDepth 20000
open Go.RowKit Go.Shelf
def Marks (N0 : Nat) (Ds : List Nat) (W : World) : Prop := Ds.Nodup ∧ ∀ D ∈ Ds, N0 ≤ D ∧ W.heap[D]? = some (.deferred (some []))
theorem Marks.nil (N0 : Nat) (W : World) : Marks N0 [] W := ⟨List.nodup_nil, fun D h => by cases h⟩
theorem Marks.kept {N0 : Nat} {Ds : List Nat} {W W' : World} (h : Marks N0 Ds W) (hk : ∀ D o, N0 ≤ D → W.heap[D]? = some o → o.isCells = false → W'.heap[D]? = some o) : Marks N0 Ds W' :=
 ⟨h.1, fun D hD => ⟨(h.2 D hD).1, hk D _ (h.2 D hD).1 (h.2 D hD).2 rfl⟩⟩
theorem Marks.below {N0 : Nat} {Ds : List Nat} {W W' : World} (h : Marks N0 Ds W) (hb : Below W.heap.size W W') : Marks N0 Ds W' :=
 h.kept fun D o _ hD _ => (hb.block D (Array.getElem?_eq_some_iff.1 hD).1).trans hD
theorem Marks.cons {N0 D : Nat} {Ds : List Nat} {W : World} (h : Marks N0 Ds W) (hD : N0 ≤ D) (hn : ¬ D ∈ Ds) (hK : W.heap[D]? = some (.deferred (some []))) : Marks N0 (D :: Ds) W :=
 ⟨List.nodup_cons.2 ⟨hn, h.1⟩, fun E hE => by
   rcases List.mem_cons.1 hE with rfl | hE
   ·exact ⟨hD, hK⟩
   ·exact h.2 E hE⟩
theorem Marks.lt {N0 : Nat} {Ds : List Nat} {W : World} (h : Marks N0 Ds W) : ∀ D ∈ Ds, D < W.heap.size := fun D hD => (Array.getElem?_eq_some_iff.1 (h.2 D hD).2).1
theorem KpX.set {N B : Nat} {W W' : World} (h : KpX N B W W') (v : Value) : KpX N B W (W'.setCell ⟨B, 0, none⟩ v) :=
 h.trans ⟨rfl, rfl, rfl, by simp, fun k _ hk => Below.heap_setCell W' ⟨B, 0, none⟩ v k (fun e => hk e)⟩
section
attribute [local go_sem] Oper.semAt_some
end
end Go.Proofs.YtnpnfajgphpabaaGreat
namespace Go.Proofs.YtnpnfajgphpabaaGreat
set_option linter.unusedVariables false
set_option linter.unusedSimpArgs false
set_option maxRecDepth 100000
set_option maxHeartbeats 8000000
open Go.RowKit Go.Shelf
theorem qgO {fn : Func} {t : Tmp} (h : fn.results = #[.cell t 31]) (tmps : Array Value) (W : World) {a : Nat} {x0 x1 : Value} (h0 : x0.oneCell' = true) (h1 : x1.oneCell' = true)
 (ht : tmps.getD t undef = .pointer (some ⟨a, 0, none⟩)) (hb : W.heap[a]? = some (.cells #[x0, x1] 31)) : (results fn tmps).run Tryz.prog W = .ok (.agg #[x0, x1]) W := by
 have ht' : tmps[t]?.getD undef = .pointer (some ⟨a, 0, none⟩) := by rw [← ht]; simp
 have hu : ∀ w, Sem.run Tryz.prog (underlying 31) w = .ok _ w := run_underlying Tryz.underlying31
 have y0 := kcell hb 0 _ rfl; have y1 := kcell hb 1 _ rfl
 simp [results, h, ht', loadVar, asAddr, go_sem, hu, y0, y1, isAgg]
def qhR (w : World) (o : Nm) (rs : List Rc) (e : Ending) (w' : World) : Prop := ∃ za zn zc v1 m c, e = .returned (.agg #[.slice za zn zc, .slice v1 m c]) ∧ ZonS w' za zn zc v1 m c o rs ∧ Below w.heap.size w w'
theorem qgz {w : World} (vo vl : Value) (o : Nm) (l : List Rc) (hO : NmAt w vo o) (hko : NmOK o) (hL : RowC w vl l) (hOK : ∀ r ∈ l, RcOK r) (hl : l.length ≤ 1048576) :
 Calls Tryz.prog 8 #[vo, vl] w (qhR w o (canonM l)) := by
 have HCL := qH0 (fun (W : World) (hb : Below w.heap.size w W) => qbr vo o W (hO.below hb).1 (hO.below hb).2 (by have := hko.1; omega))
 have HCN := qH0 (fun (W : World) (hb : Below w.heap.size w W) => by
  obtain ⟨css, h1, h2⟩ := hL.below hb
  exact qdr vl css l W h1 h2 hOK (by rw [h2.1]; exact hl))
 have HOKC := qH0 (qbv l hOK)
 have HLC := qH0 (show (canonM l).length ≤ 1048576 by have := qaD l; omega)
 obtain ⟨ao, co, rfl, -⟩ := nmAt_sl.1 hO
 obtain ⟨al, cl, el⟩ : ∃ a c, vl = .slice a l.length c := by
  obtain ⟨css, ⟨a, c, e, _⟩, h2⟩ := hL
  exact ⟨a, c, by rw [e, h2.1]⟩
 subst el
 generalize (List.map strV o).length = qo at *
 obtain ⟨C, hC⟩ : ∃ C, canonM l = C := ⟨_, rfl⟩
 unfold qcA at HCN
 rw [hC] at HCN HOKC HLC ⊢
 have hB0 := (Below.refl w.heap.size w).alloc (qN0) (.cells #[.slice none 0 0, .slice none 0 0] 31)
 have X0 := qH0 (knew w (.cells #[.slice none 0 0, .slice none 0 0] 31))
 have hc := HCL.out _ hB0
 have HB0 := qH0 hB0
 have HKO := qH0 hko
 clear hO hko hL hOK hl hB0 HCL hC
 go_enter Tryz.func8, Tryz.ntmps8
 go_wp2_with fail
 refine hc.mono ?_
 rintro e w1 ⟨v1, rfl, ho1, hb1⟩
 obtain ⟨a1, c1, rfl⟩ := ho1.shape
 have HB1 := qH0 (qB0 HB0.out hb1)
 have X1 := qH0 ((hb1.block w.heap.size (qaa X0.out)).trans X0.out)
 have HO1 := qH0 (ho1.weaken HB0.out.size)
 have hc2 := HCN.out w1 HB1.out
 clear ho1 hb1 hc HB0 X0 HCN
 go_wp2_with fail
 refine hc2.mono ?_
 rintro e w2 ⟨v2, css, rfl, ho2, hl2, hf2, hb2⟩
 obtain ⟨a2, c2, rfl⟩ := OwnK.shape ho2
 have HB2 := qH0 (qB0 HB1.out hb2)
 have x2 := (hb2.block w.heap.size (qaa X1.out)).trans X1.out
 have HO2 := qH0 (HO1.out.below hb2)
 obtain ⟨m, hm⟩ : ∃ m, css.length = m := ⟨_, rfl⟩
 rw [hm] at ho2 ⊢
 have HR2 := qH0 (And.intro ho2 (And.intro hl2 hf2))
 have HX2 := qH0 x2
 have hsz : w.heap.size < w1.heap.size := qaa X1.out
 have y0 := kcell x2 0 _ rfl; have y1 := kcell x2 1 _ rfl; have z0 := qag x2 0; have z1 := qag x2 1
 have HM := qH0 hm
 clear ho2 hl2 hf2 hb2 hc2 HB1 X1 HO1 x2 hm
 go_wp2_with fail
 have q0 := kset HX2.out 0 (.slice a1 o.length c1)
 have q1 := kset q0 1 (.slice a2 m c2)
 refine bodyPost_ret (qgO rfl _ _ rfl rfl rfl q1) rfl ?_
 obtain ⟨h1, h2, h3⟩ := HR2.out
 have g0 := qaf w2 w.heap.size 0 (.slice a1 o.length c1)
 have g1 := qaf (w2.setCell ⟨w.heap.size, 0, none⟩ (.slice a1 o.length c1)) w.heap.size 1 (.slice a2 m c2)
 refine ⟨a1, _, c1, a2, m, c2, rfl, ⟨((HO2.out.keptB HX2.out (by decide) 0 _).keptB q0 (by decide) 1 _).nmAt, HKO.out, ⟨css, ?_, ?_⟩, HOKC.out, by have := HM.out; have := HLC.out; omega⟩, ?_⟩
 ·exact SlK.of_own (OwnK.keptB (OwnK.keptB h1 HX2.out (by decide) 0 _) q0 (by decide) 1 _) (fun cs hc => by
   obtain ⟨i, hi, rfl⟩ := List.mem_iff_getElem.1 hc
   exact (h3 i hi (by have := HM.out; omega)).rcAt.len)
 ·exact ⟨by have := HM.out; omega, fun i a b => (((h3 i a b).keptX hsz g0).keptX hsz g1).rcAt⟩
 ·exact (HB2.out.setCell (p := ⟨w.heap.size, 0, none⟩) (qN0) _).setCell (p := ⟨w.heap.size, 1, none⟩) (qN0) _
theorem qgl {α : Type} {p : α → Bool} {l : List α} {k : Nat} (h : k < l.length) : (l.take (k + 1)).any p = ((l.take k).any p || p l[k]) := by
 rw [List.take_succ_eq_append_getElem h, List.any_append]; simp
end Go.Proofs.YtnpnfajgphpabaaGreat
