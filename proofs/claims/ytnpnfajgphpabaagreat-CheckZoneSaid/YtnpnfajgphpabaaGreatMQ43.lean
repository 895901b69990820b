import Derived.Deep.RegionHeld3
import Derived.Test.YtnpnfajgphpabaaGreatMQ38
namespace Go.Proofs.YtnpnfajgphpabaaGreat
set_option maxRecDepth 100000
set_option maxHeartbeats 8000000
open Go.RowKit Go.Shelf
theorem new_at (w : World) (l : List Value) (T : TypeId) (j : Nat) (v : Value) (h : l[j]? = some v) : (w.alloc (.cells l.toArray T)).cell? ⟨w.heap.size, j, none⟩ = some v := by
 have e := qba w l T j v h
 rwa [Go.WideShapes.add_plain, Nat.zero_add] at e
theorem qaI {n : Nat} {a w : World} (h : Below n a w) : Below n a w.drew := h.trans ⟨rfl, rfl, rfl, qN0, fun _ _ => rfl⟩
theorem qdg (v u : Value) (a b : Dat) (w : World) (hA : DatAt w v a) (hU : DatAt w u b) (hk : DatOK a) (hk2 : DatOK b) :
 Calls Tryz.prog 84 #[v, u] w fun e w' => e = .returned (.int .i64 (qas a b)) ∧ Below w.heap.size w w' := by
 obtain ⟨vn, vu, vt, vr, rfl, a1, a2, a3, a4⟩ := hA
 obtain ⟨un, uu, ut, ur, rfl, b1, b2, b3, b4⟩ := hU
 obtain ⟨_, k1, k2, k3, _, k5, k6⟩ := hk
 obtain ⟨_, l1, l2, l3, _, l5, l6⟩ := hk2
 have hL1 := fun W (hB : Below w.heap.size w W) => qhc vn un a.names b.names W (a1.below hB) (b1.below hB) k1 l1 k2 l2
 have hL2 := fun W (hB : Below w.heap.size w W) => qir vu uu a.nums b.nums W (a2.below hB) (b2.below hB) k3 l3
 have hL3 := fun W (hB : Below w.heap.size w W) => qhq vt ut a.texts b.texts W (a3.below hB) (b3.below hB) k5.1 l5.1
 have hL4 := fun W (hB : Below w.heap.size w W) => qjA vr ur a.raw b.raw W (a4.below hB) (b4.below hB) k6 l6
 have hR := qH0 (show qas a b = orI (cmpI a.ty b.ty) (orI (cmpL qai a.names b.names) (orI (cmpL cmpU a.nums b.nums) (orI (cmpL orderM a.texts b.texts) (cmpL cmpB a.raw b.raw)))) from rfl)
 generalize qas a b = r at *
 generalize cmpL qai a.names b.names = q1 at *
 generalize cmpL cmpU a.nums b.nums = q2 at *
 generalize cmpL orderM a.texts b.texts = q3 at *
 generalize cmpL cmpB a.raw b.raw = q4 at *
 have hL0 := fun W => qa8 a.ty b.ty W
 generalize cmpI a.ty b.ty = q0 at *
 generalize a.ty = x at *
 generalize b.ty = y at *
 have hO := fun W => qk5 W q0 q1 q2 q3 q4
 have hS0 : ∀ W0, ((w.alloc (.cells #[.int .i64 x, vn, vu, vt, vr] 44)).alloc (.cells #[.int .i64 y, un, uu, ut, ur] 44)) = W0 →
  W0.cell? ⟨w.heap.size, 0, none⟩ = some (.int .i64 x) ∧ W0.cell? ⟨w.heap.size, 1, none⟩ = some vn ∧ W0.cell? ⟨w.heap.size, 2, none⟩ = some vu ∧ W0.cell? ⟨w.heap.size, 3, none⟩ = some vt ∧ W0.cell? ⟨w.heap.size, 4, none⟩ = some vr ∧
  W0.cell? ⟨w.heap.size + 1, 0, none⟩ = some (.int .i64 y) ∧ W0.cell? ⟨w.heap.size + 1, 1, none⟩ = some un ∧ W0.cell? ⟨w.heap.size + 1, 2, none⟩ = some uu ∧ W0.cell? ⟨w.heap.size + 1, 3, none⟩ = some ut ∧ W0.cell? ⟨w.heap.size + 1, 4, none⟩ = some ur ∧ Below w.heap.size w W0 := by
  rintro W0 rfl
  have n1 := new_at w [.int .i64 x, vn, vu, vt, vr] 44
  have n2 := new_at (w.alloc (.cells #[.int .i64 x, vn, vu, vt, vr] 44)) [.int .i64 y, un, uu, ut, ur] 44
  rw [World.size_alloc] at n2
  have hb : Below (w.heap.size + 1) (w.alloc (.cells #[.int .i64 x, vn, vu, vt, vr] 44)) ((w.alloc (.cells #[.int .i64 x, vn, vu, vt, vr] 44)).alloc (.cells #[.int .i64 y, un, uu, ut, ur] 44)) := (qL0).alloc (by simp) _
  have hlt : w.heap.size < w.heap.size + 1 := Nat.lt_succ_self _
  refine ⟨(hb.cell hlt).trans (n1 0 _ rfl), (hb.cell hlt).trans (n1 1 _ rfl), (hb.cell hlt).trans (n1 2 _ rfl), (hb.cell hlt).trans (n1 3 _ rfl), (hb.cell hlt).trans (n1 4 _ rfl), n2 0 _ rfl, n2 1 _ rfl, n2 2 _ rfl, n2 3 _ rfl, n2 4 _ rfl, ((Below.refl _ w).alloc (qN0) _).alloc (by simp) _⟩
 have hz0 : ∀ W0, ((w.alloc (.cells #[.int .i64 x, vn, vu, vt, vr] 44)).alloc (.cells #[.int .i64 y, un, uu, ut, ur] 44)) = W0 → W0.heap.size = w.heap.size + 2 := by
  rintro W0 rfl; simp
 have HS0 := qH0 hS0; have HZ0 := qH0 hz0
 clear hS0 hz0 a1 a2 a3 a4 b1 b2 b3 b4 k1 k2 k3 k5 k6 l1 l2 l3 l5 l6
 go_enter Tryz.func84, Tryz.ntmps84
 go_wp2
 generalize hW0 : ((w.alloc (.cells #[.int .i64 x, vn, vu, vt, vr] 44)).alloc (.cells #[.int .i64 y, un, uu, ut, ur] 44)) = W0
 have hS := HS0.out W0 hW0
 have hz := HZ0.out W0 hW0
 clear hW0
 have hS1 : W0.cell? ⟨w.heap.size, 0, none⟩ = some (.int .i64 x) ∧ W0.cell? ⟨w.heap.size, 1, none⟩ = some vn ∧ W0.cell? ⟨w.heap.size, 2, none⟩ = some vu ∧ W0.cell? ⟨w.heap.size, 3, none⟩ = some vt ∧ W0.cell? ⟨w.heap.size, 4, none⟩ = some vr ∧ W0.cell? ⟨w.heap.size + 1, 0, none⟩ = some (.int .i64 y) ∧ W0.cell? ⟨w.heap.size + 1, 1, none⟩ = some un ∧ W0.cell? ⟨w.heap.size + 1, 2, none⟩ = some uu ∧ W0.cell? ⟨w.heap.size + 1, 3, none⟩ = some ut ∧ W0.cell? ⟨w.heap.size + 1, 4, none⟩ = some ur ∧ Below w.heap.size w W0 ∧ w.heap.size + 2 ≤ W0.heap.size := ⟨hS.1, hS.2.1, hS.2.2.1, hS.2.2.2.1, hS.2.2.2.2.1, hS.2.2.2.2.2.1, hS.2.2.2.2.2.2.1, hS.2.2.2.2.2.2.2.1, hS.2.2.2.2.2.2.2.2.1, hS.2.2.2.2.2.2.2.2.2.1, hS.2.2.2.2.2.2.2.2.2.2, by omega⟩
 have KD : ∀ W W' : World, (W.cell? ⟨w.heap.size, 0, none⟩ = some (.int .i64 x) ∧ W.cell? ⟨w.heap.size, 1, none⟩ = some vn ∧ W.cell? ⟨w.heap.size, 2, none⟩ = some vu ∧ W.cell? ⟨w.heap.size, 3, none⟩ = some vt ∧ W.cell? ⟨w.heap.size, 4, none⟩ = some vr ∧ W.cell? ⟨w.heap.size + 1, 0, none⟩ = some (.int .i64 y) ∧ W.cell? ⟨w.heap.size + 1, 1, none⟩ = some un ∧ W.cell? ⟨w.heap.size + 1, 2, none⟩ = some uu ∧ W.cell? ⟨w.heap.size + 1, 3, none⟩ = some ut ∧ W.cell? ⟨w.heap.size + 1, 4, none⟩ = some ur ∧ Below w.heap.size w W ∧ w.heap.size + 2 ≤ W.heap.size) → Below (w.heap.size + 2) W W' → (W'.cell? ⟨w.heap.size, 0, none⟩ = some (.int .i64 x) ∧ W'.cell? ⟨w.heap.size, 1, none⟩ = some vn ∧ W'.cell? ⟨w.heap.size, 2, none⟩ = some vu ∧ W'.cell? ⟨w.heap.size, 3, none⟩ = some vt ∧ W'.cell? ⟨w.heap.size, 4, none⟩ = some vr ∧ W'.cell? ⟨w.heap.size + 1, 0, none⟩ = some (.int .i64 y) ∧ W'.cell? ⟨w.heap.size + 1, 1, none⟩ = some un ∧ W'.cell? ⟨w.heap.size + 1, 2, none⟩ = some uu ∧ W'.cell? ⟨w.heap.size + 1, 3, none⟩ = some ut ∧ W'.cell? ⟨w.heap.size + 1, 4, none⟩ = some ur ∧ Below w.heap.size w W' ∧ w.heap.size + 2 ≤ W'.heap.size) := by
  rintro W W' ⟨a0, a1, a2, a3, a4, b0, b1, b2, b3, b4, hw, hsz⟩ hb
  have hA : w.heap.size < w.heap.size + 2 := by omega
  have hB : w.heap.size + 1 < w.heap.size + 2 := by omega
  exact ⟨(hb.cell hA).trans a0, (hb.cell hA).trans a1, (hb.cell hA).trans a2, (hb.cell hA).trans a3, (hb.cell hA).trans a4, (hb.cell hB).trans b0, (hb.cell hB).trans b1, (hb.cell hB).trans b2, (hb.cell hB).trans b3, (hb.cell hB).trans b4, hw.trans (hb.mono (by omega)), Nat.le_trans hsz hb.size⟩
 have KS := qH0 (fun (W W' : World) (h : W.cell? ⟨w.heap.size, 0, none⟩ = some (.int .i64 x) ∧ W.cell? ⟨w.heap.size, 1, none⟩ = some vn ∧ W.cell? ⟨w.heap.size, 2, none⟩ = some vu ∧ W.cell? ⟨w.heap.size, 3, none⟩ = some vt ∧ W.cell? ⟨w.heap.size, 4, none⟩ = some vr ∧ W.cell? ⟨w.heap.size + 1, 0, none⟩ = some (.int .i64 y) ∧ W.cell? ⟨w.heap.size + 1, 1, none⟩ = some un ∧ W.cell? ⟨w.heap.size + 1, 2, none⟩ = some uu ∧ W.cell? ⟨w.heap.size + 1, 3, none⟩ = some ut ∧ W.cell? ⟨w.heap.size + 1, 4, none⟩ = some ur ∧ Below w.heap.size w W ∧ w.heap.size + 2 ≤ W.heap.size) (hb : Below W.heap.size W W') => KD W W' h (hb.mono h.2.2.2.2.2.2.2.2.2.2.2))
 have KA := qH0 (fun (W : World) (o : Obj) (h : W.cell? ⟨w.heap.size, 0, none⟩ = some (.int .i64 x) ∧ W.cell? ⟨w.heap.size, 1, none⟩ = some vn ∧ W.cell? ⟨w.heap.size, 2, none⟩ = some vu ∧ W.cell? ⟨w.heap.size, 3, none⟩ = some vt ∧ W.cell? ⟨w.heap.size, 4, none⟩ = some vr ∧ W.cell? ⟨w.heap.size + 1, 0, none⟩ = some (.int .i64 y) ∧ W.cell? ⟨w.heap.size + 1, 1, none⟩ = some un ∧ W.cell? ⟨w.heap.size + 1, 2, none⟩ = some uu ∧ W.cell? ⟨w.heap.size + 1, 3, none⟩ = some ut ∧ W.cell? ⟨w.heap.size + 1, 4, none⟩ = some ur ∧ Below w.heap.size w W ∧ w.heap.size + 2 ≤ W.heap.size) => KD W (W.alloc o) h ((Below.refl _ W).alloc h.2.2.2.2.2.2.2.2.2.2.2 o))
 have KR := qH0 (fun (W : World) (h : W.cell? ⟨w.heap.size, 0, none⟩ = some (.int .i64 x) ∧ W.cell? ⟨w.heap.size, 1, none⟩ = some vn ∧ W.cell? ⟨w.heap.size, 2, none⟩ = some vu ∧ W.cell? ⟨w.heap.size, 3, none⟩ = some vt ∧ W.cell? ⟨w.heap.size, 4, none⟩ = some vr ∧ W.cell? ⟨w.heap.size + 1, 0, none⟩ = some (.int .i64 y) ∧ W.cell? ⟨w.heap.size + 1, 1, none⟩ = some un ∧ W.cell? ⟨w.heap.size + 1, 2, none⟩ = some uu ∧ W.cell? ⟨w.heap.size + 1, 3, none⟩ = some ut ∧ W.cell? ⟨w.heap.size + 1, 4, none⟩ = some ur ∧ Below w.heap.size w W ∧ w.heap.size + 2 ≤ W.heap.size) => KD W W.drew h (qaI (Below.refl _ W)))
 have HL1 := qH0 (fun (W : World) (h : W.cell? ⟨w.heap.size, 0, none⟩ = some (.int .i64 x) ∧ W.cell? ⟨w.heap.size, 1, none⟩ = some vn ∧ W.cell? ⟨w.heap.size, 2, none⟩ = some vu ∧ W.cell? ⟨w.heap.size, 3, none⟩ = some vt ∧ W.cell? ⟨w.heap.size, 4, none⟩ = some vr ∧ W.cell? ⟨w.heap.size + 1, 0, none⟩ = some (.int .i64 y) ∧ W.cell? ⟨w.heap.size + 1, 1, none⟩ = some un ∧ W.cell? ⟨w.heap.size + 1, 2, none⟩ = some uu ∧ W.cell? ⟨w.heap.size + 1, 3, none⟩ = some ut ∧ W.cell? ⟨w.heap.size + 1, 4, none⟩ = some ur ∧ Below w.heap.size w W ∧ w.heap.size + 2 ≤ W.heap.size) => hL1 W h.2.2.2.2.2.2.2.2.2.2.1)
 have HL2 := qH0 (fun (W : World) (h : W.cell? ⟨w.heap.size, 0, none⟩ = some (.int .i64 x) ∧ W.cell? ⟨w.heap.size, 1, none⟩ = some vn ∧ W.cell? ⟨w.heap.size, 2, none⟩ = some vu ∧ W.cell? ⟨w.heap.size, 3, none⟩ = some vt ∧ W.cell? ⟨w.heap.size, 4, none⟩ = some vr ∧ W.cell? ⟨w.heap.size + 1, 0, none⟩ = some (.int .i64 y) ∧ W.cell? ⟨w.heap.size + 1, 1, none⟩ = some un ∧ W.cell? ⟨w.heap.size + 1, 2, none⟩ = some uu ∧ W.cell? ⟨w.heap.size + 1, 3, none⟩ = some ut ∧ W.cell? ⟨w.heap.size + 1, 4, none⟩ = some ur ∧ Below w.heap.size w W ∧ w.heap.size + 2 ≤ W.heap.size) => hL2 W h.2.2.2.2.2.2.2.2.2.2.1)
 have HL3 := qH0 (fun (W : World) (h : W.cell? ⟨w.heap.size, 0, none⟩ = some (.int .i64 x) ∧ W.cell? ⟨w.heap.size, 1, none⟩ = some vn ∧ W.cell? ⟨w.heap.size, 2, none⟩ = some vu ∧ W.cell? ⟨w.heap.size, 3, none⟩ = some vt ∧ W.cell? ⟨w.heap.size, 4, none⟩ = some vr ∧ W.cell? ⟨w.heap.size + 1, 0, none⟩ = some (.int .i64 y) ∧ W.cell? ⟨w.heap.size + 1, 1, none⟩ = some un ∧ W.cell? ⟨w.heap.size + 1, 2, none⟩ = some uu ∧ W.cell? ⟨w.heap.size + 1, 3, none⟩ = some ut ∧ W.cell? ⟨w.heap.size + 1, 4, none⟩ = some ur ∧ Below w.heap.size w W ∧ w.heap.size + 2 ≤ W.heap.size) => hL3 W h.2.2.2.2.2.2.2.2.2.2.1)
 have HL4 := qH0 (fun (W : World) (h : W.cell? ⟨w.heap.size, 0, none⟩ = some (.int .i64 x) ∧ W.cell? ⟨w.heap.size, 1, none⟩ = some vn ∧ W.cell? ⟨w.heap.size, 2, none⟩ = some vu ∧ W.cell? ⟨w.heap.size, 3, none⟩ = some vt ∧ W.cell? ⟨w.heap.size, 4, none⟩ = some vr ∧ W.cell? ⟨w.heap.size + 1, 0, none⟩ = some (.int .i64 y) ∧ W.cell? ⟨w.heap.size + 1, 1, none⟩ = some un ∧ W.cell? ⟨w.heap.size + 1, 2, none⟩ = some uu ∧ W.cell? ⟨w.heap.size + 1, 3, none⟩ = some ut ∧ W.cell? ⟨w.heap.size + 1, 4, none⟩ = some ur ∧ Below w.heap.size w W ∧ w.heap.size + 2 ≤ W.heap.size) => hL4 W h.2.2.2.2.2.2.2.2.2.2.1)
 have HL0 := qH0 hL0; have HO := qH0 hO
 clear hS hz KD hL1 hL2 hL3 hL4 hL0 hO HS0 HZ0
 go_region_held3 (fun W' => W'.cell? ⟨w.heap.size, 0, none⟩ = some (.int .i64 x) ∧ W'.cell? ⟨w.heap.size, 1, none⟩ = some vn ∧ W'.cell? ⟨w.heap.size, 2, none⟩ = some vu ∧ W'.cell? ⟨w.heap.size, 3, none⟩ = some vt ∧ W'.cell? ⟨w.heap.size, 4, none⟩ = some vr ∧ W'.cell? ⟨w.heap.size + 1, 0, none⟩ = some (.int .i64 y) ∧ W'.cell? ⟨w.heap.size + 1, 1, none⟩ = some un ∧ W'.cell? ⟨w.heap.size + 1, 2, none⟩ = some uu ∧ W'.cell? ⟨w.heap.size + 1, 3, none⟩ = some ut ∧ W'.cell? ⟨w.heap.size + 1, 4, none⟩ = some ur ∧ Below w.heap.size w W' ∧ w.heap.size + 2 ≤ W'.heap.size) (first | assumption | exact KR.out _ hS1 | exact KA.out _ _ (by assumption)) (first | ((with_reducible refine (HL0.out _).mono ?_); rintro e w2 ⟨rfl, rfl⟩) | ((with_reducible refine (HL1.out _ (by assumption)).mono ?_); rintro e w2 ⟨rfl, hb2⟩; have hS2 := KS.out _ _ (by assumption) hb2) | ((with_reducible refine (HL2.out _ (by assumption)).mono ?_); rintro e w2 ⟨rfl, hb2⟩; have hS2 := KS.out _ _ (by assumption) hb2) | ((with_reducible refine (HL3.out _ (by assumption)).mono ?_); rintro e w2 ⟨rfl, hb2⟩; have hS2 := KS.out _ _ (by assumption) hb2) | ((with_reducible refine (HL4.out _ (by assumption)).mono ?_); rintro e w2 ⟨rfl, hb2⟩; have hS2 := KS.out _ _ (by assumption) hb2) | ((with_reducible refine (HO.out _).mono ?_); rintro e w2 ⟨rfl, rfl⟩))
 rename_i hSe
 go_wp2
 go_ret
 exact ⟨by rw [hR.out]; rfl, hSe.2.2.2.2.2.2.2.2.2.2.1⟩
theorem qil (v u : Value) (a b : Dat) (w : World) (hA : DatAt w v a) (hU : DatAt w u b) (hk : DatOK a) (hk2 : DatOK b) :
 Calls Tryz.prog 85 #[v, u] w fun e w' => e = .returned (.bool (qas a b == 0)) ∧ Below w.heap.size w w' := by
 obtain ⟨vn, vu, vt, vr, rfl, a1, a2, a3, a4⟩ := id hA
 obtain ⟨un, uu, ut, ur, rfl, b1, b2, b3, b4⟩ := id hU
 have hC := fun W (hB : Below w.heap.size w W) => qdg _ _ a b W (hA.below hB) (hU.below hB) hk hk2
 have hb0 : Below w.heap.size w ((w.alloc (.cells #[.int .i64 a.ty, vn, vu, vt, vr] 44)).alloc (.cells #[.int .i64 b.ty, un, uu, ut, ur] 44)) := ((Below.refl _ w).alloc (qN0) _).alloc (by simp) _
 have hCz := hC _ hb0
 have hB0 := qH0 hb0
 generalize qas a b = r at *
 clear hA hU hC a1 a2 a3 a4 b1 b2 b3 b4 hk hk2 hb0
 go_enter Tryz.func85, Tryz.ntmps85
 go_wp2_with (go_at_call 84; refine hCz.mono ?_; rintro e w2 ⟨rfl, hb2⟩)
 go_ret
 exact ⟨rfl, qB0 hB0.out hb2⟩
end Go.Proofs.YtnpnfajgphpabaaGreat
