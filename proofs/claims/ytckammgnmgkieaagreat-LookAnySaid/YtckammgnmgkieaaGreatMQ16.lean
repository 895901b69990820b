import Derived.Deep.RegionHeld3
import Derived.Test.YtckammgnmgkieaaGreatMQ26
import Derived.Test.YtckammgnmgkieaaGreatMQ23
namespace Go.Proofs.YtckammgnmgkieaaGreat
set_option maxRecDepth 100000
set_option maxHeartbeats 8000000
open Go.RowKit Go.Shelf
def csOf {α : Type} (f : α → α → Int) (a b : List α) (j : Nat) : Int := if h : j < a.length ∧ j < b.length then f (a[j]'h.1) (b[j]'h.2) else 0
theorem qbT {α : Type} {f : α → α → Int} {a b : List α} {j : Nat} (h1 : j < a.length) (h2 : j < b.length) : csOf f a b j = f a[j] b[j] := by unfold csOf; rw [dif_pos ⟨h1, h2⟩]
theorem qiK (v u : Value) (a b : List Nm) (w : World) (hA : NmsAt w v a) (hU : NmsAt w u b) (hs : a.length ≤ 1048576) (hs2 : b.length ≤ 1048576) (hk : ∀ n ∈ a, NmOK n) (hk2 : ∀ n ∈ b, NmOK n) :
 Calls Tryz.prog 178 #[v, u, .func (.func 129) #[] #[]] w fun e w' => e = .returned (.int .i64 (cmpL qai a b)) ∧ Below w.heap.size w w' := by
 obtain ⟨vs, h1, hl, h2⟩ := hA
 obtain ⟨us, g1, gl, g2⟩ := hU
 refine (qm0 v u vs us (csOf qai a b) w h1 g1 (by omega) (by omega) ?_).mono ?_
 ·intro W hB j j1 j2
  rw [qbT (by omega) (by omega)]
  exact qd9 _ _ _ _ W ((h2 j j1).below hB).1 ((g2 j j2).below hB).1 (hk _ (List.getElem_mem _)) (hk2 _ (List.getElem_mem _))
 ·rintro e w' ⟨⟨r, rfl, hr⟩, hB⟩
  rw [hl, gl] at hr
  exact ⟨by rw [qci (fun j j1 j2 => qbT j1 j2) hr], hB⟩
theorem qjM (v u : Value) (a b : List Nat) (w : World) (hA : SlAt w v (a.map u32V)) (hU : SlAt w u (b.map u32V)) (hs : a.length ≤ 1048576) (hs2 : b.length ≤ 1048576) :
 Calls Tryz.prog 179 #[v, u, .func (.func 180) #[] #[]] w fun e w' => e = .returned (.int .i64 (cmpL cmpU a b)) ∧ Below w.heap.size w w' := by
 refine (qmc v u _ _ (csOf cmpU a b) w hA hU (by simpa using hs) (by simpa using hs2) ?_).mono ?_
 ·intro W hB j j1 j2
  rw [qbT (by simpa using j1) (by simpa using j2), List.getElem_map, List.getElem_map]
  refine (qmQ _ _ W).mono ?_
  rintro e w' ⟨rfl, rfl⟩
  exact ⟨rfl, qL0⟩
 ·rintro e w' ⟨⟨r, rfl, hr⟩, hB⟩
  rw [List.length_map, List.length_map] at hr
  exact ⟨by rw [qci (fun j j1 j2 => qbT j1 j2) hr], hB⟩
theorem qi2 (v u : Value) (a b : Nm) (w : World) (hA : NmAt w v a) (hU : NmAt w u b) (hs : a.length ≤ 1048576) (hs2 : b.length ≤ 1048576) :
 Calls Tryz.prog 181 #[v, u, .func (.func 182) #[] #[]] w fun e w' => e = .returned (.int .i64 (cmpL orderM a b)) ∧ Below w.heap.size w w' := by
 refine (qmv v u _ _ (csOf orderM a b) w (nmAt_sl.1 hA) (nmAt_sl.1 hU) (by simpa using hs) (by simpa using hs2) ?_).mono ?_
 ·intro W hB j j1 j2
  rw [qbT (by simpa using j1) (by simpa using j2), List.getElem_map, List.getElem_map]
  refine (qmO _ _ W).mono ?_
  rintro e w' ⟨rfl, rfl⟩
  exact ⟨rfl, qL0⟩
 ·rintro e w' ⟨⟨r, rfl, hr⟩, hB⟩
  rw [List.length_map, List.length_map] at hr
  exact ⟨by rw [qci (fun j j1 j2 => qbT j1 j2) hr], hB⟩
theorem qkF (v u : Value) (a b : List UInt8) (w : World) (hA : SlAt w v (a.map bv)) (hU : SlAt w u (b.map bv)) (hs : a.length ≤ 1048576) (hs2 : b.length ≤ 1048576) :
 Calls Tryz.prog 183 #[v, u, .func (.func 177) #[] #[]] w fun e w' => e = .returned (.int .i64 (cmpL cmpB a b)) ∧ Below w.heap.size w w' := by
 refine (qni v u _ _ (csOf cmpB a b) w hA hU (by simpa using hs) (by simpa using hs2) ?_).mono ?_
 ·intro W hB j j1 j2
  rw [qbT (by simpa using j1) (by simpa using j2), List.getElem_map, List.getElem_map]
  refine (cmp_u8 _ _ W).mono ?_
  rintro e w' ⟨rfl, rfl⟩
  exact ⟨rfl, qL0⟩
 ·rintro e w' ⟨⟨r, rfl, hr⟩, hB⟩
  rw [List.length_map, List.length_map] at hr
  exact ⟨by rw [qci (fun j j1 j2 => qbT j1 j2) hr], hB⟩
theorem qmG (W : World) (a b c d f : Int) :
 Calls Tryz.prog 128 #[.slice (some ⟨W.heap.size, 0, none⟩) 5 5] (W.alloc (.cells #[.int .i64 a, .int .i64 b, .int .i64 c, .int .i64 d, .int .i64 f] 3)) fun e w' => e = .returned (.int .i64 (orI a (orI b (orI c (orI d f))))) ∧ w' = W.alloc (.cells #[.int .i64 a, .int .i64 b, .int .i64 c, .int .i64 d, .int .i64 f] 3) := by
 refine (cmp_Or W.heap.size 5 [a, b, c, d, f] _ (by simp) ?_).mono ?_
 ·intro j h
  have e := qbc W [.int .i64 a, .int .i64 b, .int .i64 c, .int .i64 d, .int .i64 f] 3 j (.int .i64 ([a, b, c, d, f][j])) (by
   have : ([.int .i64 a, .int .i64 b, .int .i64 c, .int .i64 d, .int .i64 f] : List Value) = [a, b, c, d, f].map (.int .i64) := rfl
   rw [this, List.getElem?_map, List.getElem?_eq_getElem h]; rfl)
  rw [Go.WideShapes.add_plain, Nat.zero_add] at e
  exact e
 ·rintro e w' ⟨rfl, rfl⟩
  refine ⟨?_, rfl⟩
  have : (if f = 0 then 0 else f) = f := by split <;> omega
  simp only [qbP, orI, this]
theorem new_at (w : World) (l : List Value) (T : TypeId) (j : Nat) (v : Value) (h : l[j]? = some v) : (w.alloc (.cells l.toArray T)).cell? ⟨w.heap.size, j, none⟩ = some v := by
 have e := qbc w l T j v h
 rwa [Go.WideShapes.add_plain, Nat.zero_add] at e
theorem qaO {n : Nat} {a w : World} (h : Below n a w) : Below n a w.drew := h.trans ⟨rfl, rfl, rfl, qN0, fun _ _ => rfl⟩
theorem qdS (v u : Value) (a b : Dat) (w : World) (hA : DatAt w v a) (hU : DatAt w u b) (hk : DatOK a) (hk2 : DatOK b) :
 Calls Tryz.prog 148 #[v, u] w fun e w' => e = .returned (.int .i64 (qao a b)) ∧ Below w.heap.size w w' := by
 obtain ⟨vn, vu, vt, vr, rfl, a1, a2, a3, a4⟩ := hA
 obtain ⟨un, uu, ut, ur, rfl, b1, b2, b3, b4⟩ := hU
 obtain ⟨_, k1, k2, k3, _, k5, k6⟩ := hk
 obtain ⟨_, l1, l2, l3, _, l5, l6⟩ := hk2
 have hL1 := fun W (hB : Below w.heap.size w W) => qiK vn un a.names b.names W (a1.below hB) (b1.below hB) k1 l1 k2 l2
 have hL2 := fun W (hB : Below w.heap.size w W) => qjM vu uu a.nums b.nums W (a2.below hB) (b2.below hB) k3 l3
 have hL3 := fun W (hB : Below w.heap.size w W) => qi2 vt ut a.texts b.texts W (a3.below hB) (b3.below hB) k5.1 l5.1
 have hL4 := fun W (hB : Below w.heap.size w W) => qkF vr ur a.raw b.raw W (a4.below hB) (b4.below hB) k6 l6
 have hR := qH0 (show qao a b = orI (cmpI a.ty b.ty) (orI (cmpL qai a.names b.names) (orI (cmpL cmpU a.nums b.nums) (orI (cmpL orderM a.texts b.texts) (cmpL cmpB a.raw b.raw)))) from rfl)
 generalize qao a b = r at *
 generalize cmpL qai a.names b.names = q1 at *
 generalize cmpL cmpU a.nums b.nums = q2 at *
 generalize cmpL orderM a.texts b.texts = q3 at *
 generalize cmpL cmpB a.raw b.raw = q4 at *
 have hL0 := fun W => qbA a.ty b.ty W
 generalize cmpI a.ty b.ty = q0 at *
 generalize a.ty = x at *
 generalize b.ty = y at *
 have hO := fun W => qmG W q0 q1 q2 q3 q4
 have hS0 : ∀ W0, ((w.alloc (.cells #[.int .i64 x, vn, vu, vt, vr] 101)).alloc (.cells #[.int .i64 y, un, uu, ut, ur] 101)) = W0 →
  W0.cell? ⟨w.heap.size, 0, none⟩ = some (.int .i64 x) ∧ W0.cell? ⟨w.heap.size, 1, none⟩ = some vn ∧ W0.cell? ⟨w.heap.size, 2, none⟩ = some vu ∧ W0.cell? ⟨w.heap.size, 3, none⟩ = some vt ∧ W0.cell? ⟨w.heap.size, 4, none⟩ = some vr ∧
  W0.cell? ⟨w.heap.size + 1, 0, none⟩ = some (.int .i64 y) ∧ W0.cell? ⟨w.heap.size + 1, 1, none⟩ = some un ∧ W0.cell? ⟨w.heap.size + 1, 2, none⟩ = some uu ∧ W0.cell? ⟨w.heap.size + 1, 3, none⟩ = some ut ∧ W0.cell? ⟨w.heap.size + 1, 4, none⟩ = some ur ∧ Below w.heap.size w W0 := by
  rintro W0 rfl
  have n1 := new_at w [.int .i64 x, vn, vu, vt, vr] 101
  have n2 := new_at (w.alloc (.cells #[.int .i64 x, vn, vu, vt, vr] 101)) [.int .i64 y, un, uu, ut, ur] 101
  rw [World.size_alloc] at n2
  have hb : Below (w.heap.size + 1) (w.alloc (.cells #[.int .i64 x, vn, vu, vt, vr] 101)) ((w.alloc (.cells #[.int .i64 x, vn, vu, vt, vr] 101)).alloc (.cells #[.int .i64 y, un, uu, ut, ur] 101)) := (qL0).alloc (by simp) _
  have hlt : w.heap.size < w.heap.size + 1 := Nat.lt_succ_self _
  refine ⟨(hb.cell hlt).trans (n1 0 _ rfl), (hb.cell hlt).trans (n1 1 _ rfl), (hb.cell hlt).trans (n1 2 _ rfl), (hb.cell hlt).trans (n1 3 _ rfl), (hb.cell hlt).trans (n1 4 _ rfl), n2 0 _ rfl, n2 1 _ rfl, n2 2 _ rfl, n2 3 _ rfl, n2 4 _ rfl, ((Below.refl _ w).alloc (qN0) _).alloc (by simp) _⟩
 have hz0 : ∀ W0, ((w.alloc (.cells #[.int .i64 x, vn, vu, vt, vr] 101)).alloc (.cells #[.int .i64 y, un, uu, ut, ur] 101)) = W0 → W0.heap.size = w.heap.size + 2 := by
  rintro W0 rfl; simp
 have HS0 := qH0 hS0; have HZ0 := qH0 hz0
 clear hS0 hz0 a1 a2 a3 a4 b1 b2 b3 b4 k1 k2 k3 k5 k6 l1 l2 l3 l5 l6
 go_enter Tryz.func148, Tryz.ntmps148
 go_wp2
 generalize hW0 : ((w.alloc (.cells #[.int .i64 x, vn, vu, vt, vr] 101)).alloc (.cells #[.int .i64 y, un, uu, ut, ur] 101)) = W0
 have hS := HS0.out W0 hW0
 have hz := HZ0.out W0 hW0
 clear hW0
 have hS1 : W0.cell? ⟨w.heap.size, 0, none⟩ = some (.int .i64 x) ∧ W0.cell? ⟨w.heap.size, 1, none⟩ = some vn ∧ W0.cell? ⟨w.heap.size, 2, none⟩ = some vu ∧ W0.cell? ⟨w.heap.size, 3, none⟩ = some vt ∧ W0.cell? ⟨w.heap.size, 4, none⟩ = some vr ∧ W0.cell? ⟨w.heap.size + 1, 0, none⟩ = some (.int .i64 y) ∧ W0.cell? ⟨w.heap.size + 1, 1, none⟩ = some un ∧ W0.cell? ⟨w.heap.size + 1, 2, none⟩ = some uu ∧ W0.cell? ⟨w.heap.size + 1, 3, none⟩ = some ut ∧ W0.cell? ⟨w.heap.size + 1, 4, none⟩ = some ur ∧ Below w.heap.size w W0 ∧ w.heap.size + 2 ≤ W0.heap.size := ⟨hS.1, hS.2.1, hS.2.2.1, hS.2.2.2.1, hS.2.2.2.2.1, hS.2.2.2.2.2.1, hS.2.2.2.2.2.2.1, hS.2.2.2.2.2.2.2.1, hS.2.2.2.2.2.2.2.2.1, hS.2.2.2.2.2.2.2.2.2.1, hS.2.2.2.2.2.2.2.2.2.2, by omega⟩
 have KD : ∀ W W' : World, (W.cell? ⟨w.heap.size, 0, none⟩ = some (.int .i64 x) ∧ W.cell? ⟨w.heap.size, 1, none⟩ = some vn ∧ W.cell? ⟨w.heap.size, 2, none⟩ = some vu ∧ W.cell? ⟨w.heap.size, 3, none⟩ = some vt ∧ W.cell? ⟨w.heap.size, 4, none⟩ = some vr ∧ W.cell? ⟨w.heap.size + 1, 0, none⟩ = some (.int .i64 y) ∧ W.cell? ⟨w.heap.size + 1, 1, none⟩ = some un ∧ W.cell? ⟨w.heap.size + 1, 2, none⟩ = some uu ∧ W.cell? ⟨w.heap.size + 1, 3, none⟩ = some ut ∧ W.cell? ⟨w.heap.size + 1, 4, none⟩ = some ur ∧ Below w.heap.size w W ∧ w.heap.size + 2 ≤ W.heap.size) → Below (w.heap.size + 2) W W' → (W'.cell? ⟨w.heap.size, 0, none⟩ = some (.int .i64 x) ∧ W'.cell? ⟨w.heap.size, 1, none⟩ = some vn ∧ W'.cell? ⟨w.heap.size, 2, none⟩ = some vu ∧ W'.cell? ⟨w.heap.size, 3, none⟩ = some vt ∧ W'.cell? ⟨w.heap.size, 4, none⟩ = some vr ∧ W'.cell? ⟨w.heap.size + 1, 0, none⟩ = some (.int .i64 y) ∧ W'.cell? ⟨w.heap.size + 1, 1, none⟩ = some un ∧ W'.cell? ⟨w.heap.size + 1, 2, none⟩ = some uu ∧ W'.cell? ⟨w.heap.size + 1, 3, none⟩ = some ut ∧ W'.cell? ⟨w.heap.size + 1, 4, none⟩ = some ur ∧ Below w.heap.size w W' ∧ w.heap.size + 2 ≤ W'.heap.size) := by
  rintro W W' ⟨a0, a1, a2, a3, a4, b0, b1, b2, b3, b4, hw, hsz⟩ hb
  have hA : w.heap.size < w.heap.size + 2 := by omega
  have hB : w.heap.size + 1 < w.heap.size + 2 := by omega
  exact ⟨(hb.cell hA).trans a0, (hb.cell hA).trans a1, (hb.cell hA).trans a2, (hb.cell hA).trans a3, (hb.cell hA).trans a4, (hb.cell hB).trans b0, (hb.cell hB).trans b1, (hb.cell hB).trans b2, (hb.cell hB).trans b3, (hb.cell hB).trans b4, hw.trans (hb.mono (by omega)), Nat.le_trans hsz hb.size⟩
 have KS := qH0 (fun (W W' : World) (h : W.cell? ⟨w.heap.size, 0, none⟩ = some (.int .i64 x) ∧ W.cell? ⟨w.heap.size, 1, none⟩ = some vn ∧ W.cell? ⟨w.heap.size, 2, none⟩ = some vu ∧ W.cell? ⟨w.heap.size, 3, none⟩ = some vt ∧ W.cell? ⟨w.heap.size, 4, none⟩ = some vr ∧ W.cell? ⟨w.heap.size + 1, 0, none⟩ = some (.int .i64 y) ∧ W.cell? ⟨w.heap.size + 1, 1, none⟩ = some un ∧ W.cell? ⟨w.heap.size + 1, 2, none⟩ = some uu ∧ W.cell? ⟨w.heap.size + 1, 3, none⟩ = some ut ∧ W.cell? ⟨w.heap.size + 1, 4, none⟩ = some ur ∧ Below w.heap.size w W ∧ w.heap.size + 2 ≤ W.heap.size) (hb : Below W.heap.size W W') => KD W W' h (hb.mono h.2.2.2.2.2.2.2.2.2.2.2))
 have KA := qH0 (fun (W : World) (o : Obj) (h : W.cell? ⟨w.heap.size, 0, none⟩ = some (.int .i64 x) ∧ W.cell? ⟨w.heap.size, 1, none⟩ = some vn ∧ W.cell? ⟨w.heap.size, 2, none⟩ = some vu ∧ W.cell? ⟨w.heap.size, 3, none⟩ = some vt ∧ W.cell? ⟨w.heap.size, 4, none⟩ = some vr ∧ W.cell? ⟨w.heap.size + 1, 0, none⟩ = some (.int .i64 y) ∧ W.cell? ⟨w.heap.size + 1, 1, none⟩ = some un ∧ W.cell? ⟨w.heap.size + 1, 2, none⟩ = some uu ∧ W.cell? ⟨w.heap.size + 1, 3, none⟩ = some ut ∧ W.cell? ⟨w.heap.size + 1, 4, none⟩ = some ur ∧ Below w.heap.size w W ∧ w.heap.size + 2 ≤ W.heap.size) => KD W (W.alloc o) h ((Below.refl _ W).alloc h.2.2.2.2.2.2.2.2.2.2.2 o))
 have KR := qH0 (fun (W : World) (h : W.cell? ⟨w.heap.size, 0, none⟩ = some (.int .i64 x) ∧ W.cell? ⟨w.heap.size, 1, none⟩ = some vn ∧ W.cell? ⟨w.heap.size, 2, none⟩ = some vu ∧ W.cell? ⟨w.heap.size, 3, none⟩ = some vt ∧ W.cell? ⟨w.heap.size, 4, none⟩ = some vr ∧ W.cell? ⟨w.heap.size + 1, 0, none⟩ = some (.int .i64 y) ∧ W.cell? ⟨w.heap.size + 1, 1, none⟩ = some un ∧ W.cell? ⟨w.heap.size + 1, 2, none⟩ = some uu ∧ W.cell? ⟨w.heap.size + 1, 3, none⟩ = some ut ∧ W.cell? ⟨w.heap.size + 1, 4, none⟩ = some ur ∧ Below w.heap.size w W ∧ w.heap.size + 2 ≤ W.heap.size) => KD W W.drew h (qaO (Below.refl _ W)))
 have HL1 := qH0 (fun (W : World) (h : W.cell? ⟨w.heap.size, 0, none⟩ = some (.int .i64 x) ∧ W.cell? ⟨w.heap.size, 1, none⟩ = some vn ∧ W.cell? ⟨w.heap.size, 2, none⟩ = some vu ∧ W.cell? ⟨w.heap.size, 3, none⟩ = some vt ∧ W.cell? ⟨w.heap.size, 4, none⟩ = some vr ∧ W.cell? ⟨w.heap.size + 1, 0, none⟩ = some (.int .i64 y) ∧ W.cell? ⟨w.heap.size + 1, 1, none⟩ = some un ∧ W.cell? ⟨w.heap.size + 1, 2, none⟩ = some uu ∧ W.cell? ⟨w.heap.size + 1, 3, none⟩ = some ut ∧ W.cell? ⟨w.heap.size + 1, 4, none⟩ = some ur ∧ Below w.heap.size w W ∧ w.heap.size + 2 ≤ W.heap.size) => hL1 W h.2.2.2.2.2.2.2.2.2.2.1)
 have HL2 := qH0 (fun (W : World) (h : W.cell? ⟨w.heap.size, 0, none⟩ = some (.int .i64 x) ∧ W.cell? ⟨w.heap.size, 1, none⟩ = some vn ∧ W.cell? ⟨w.heap.size, 2, none⟩ = some vu ∧ W.cell? ⟨w.heap.size, 3, none⟩ = some vt ∧ W.cell? ⟨w.heap.size, 4, none⟩ = some vr ∧ W.cell? ⟨w.heap.size + 1, 0, none⟩ = some (.int .i64 y) ∧ W.cell? ⟨w.heap.size + 1, 1, none⟩ = some un ∧ W.cell? ⟨w.heap.size + 1, 2, none⟩ = some uu ∧ W.cell? ⟨w.heap.size + 1, 3, none⟩ = some ut ∧ W.cell? ⟨w.heap.size + 1, 4, none⟩ = some ur ∧ Below w.heap.size w W ∧ w.heap.size + 2 ≤ W.heap.size) => hL2 W h.2.2.2.2.2.2.2.2.2.2.1)
 have HL3 := qH0 (fun (W : World) (h : W.cell? ⟨w.heap.size, 0, none⟩ = some (.int .i64 x) ∧ W.cell? ⟨w.heap.size, 1, none⟩ = some vn ∧ W.cell? ⟨w.heap.size, 2, none⟩ = some vu ∧ W.cell? ⟨w.heap.size, 3, none⟩ = some vt ∧ W.cell? ⟨w.heap.size, 4, none⟩ = some vr ∧ W.cell? ⟨w.heap.size + 1, 0, none⟩ = some (.int .i64 y) ∧ W.cell? ⟨w.heap.size + 1, 1, none⟩ = some un ∧ W.cell? ⟨w.heap.size + 1, 2, none⟩ = some uu ∧ W.cell? ⟨w.heap.size + 1, 3, none⟩ = some ut ∧ W.cell? ⟨w.heap.size + 1, 4, none⟩ = some ur ∧ Below w.heap.size w W ∧ w.heap.size + 2 ≤ W.heap.size) => hL3 W h.2.2.2.2.2.2.2.2.2.2.1)
 have HL4 := qH0 (fun (W : World) (h : W.cell? ⟨w.heap.size, 0, none⟩ = some (.int .i64 x) ∧ W.cell? ⟨w.heap.size, 1, none⟩ = some vn ∧ W.cell? ⟨w.heap.size, 2, none⟩ = some vu ∧ W.cell? ⟨w.heap.size, 3, none⟩ = some vt ∧ W.cell? ⟨w.heap.size, 4, none⟩ = some vr ∧ W.cell? ⟨w.heap.size + 1, 0, none⟩ = some (.int .i64 y) ∧ W.cell? ⟨w.heap.size + 1, 1, none⟩ = some un ∧ W.cell? ⟨w.heap.size + 1, 2, none⟩ = some uu ∧ W.cell? ⟨w.heap.size + 1, 3, none⟩ = some ut ∧ W.cell? ⟨w.heap.size + 1, 4, none⟩ = some ur ∧ Below w.heap.size w W ∧ w.heap.size + 2 ≤ W.heap.size) => hL4 W h.2.2.2.2.2.2.2.2.2.2.1)
 have HL0 := qH0 hL0; have HO := qH0 hO
 clear hS hz KD hL1 hL2 hL3 hL4 hL0 hO HS0 HZ0
 go_region_held3 (fun W' => W'.cell? ⟨w.heap.size, 0, none⟩ = some (.int .i64 x) ∧ W'.cell? ⟨w.heap.size, 1, none⟩ = some vn ∧ W'.cell? ⟨w.heap.size, 2, none⟩ = some vu ∧ W'.cell? ⟨w.heap.size, 3, none⟩ = some vt ∧ W'.cell? ⟨w.heap.size, 4, none⟩ = some vr ∧ W'.cell? ⟨w.heap.size + 1, 0, none⟩ = some (.int .i64 y) ∧ W'.cell? ⟨w.heap.size + 1, 1, none⟩ = some un ∧ W'.cell? ⟨w.heap.size + 1, 2, none⟩ = some uu ∧ W'.cell? ⟨w.heap.size + 1, 3, none⟩ = some ut ∧ W'.cell? ⟨w.heap.size + 1, 4, none⟩ = some ur ∧ Below w.heap.size w W' ∧ w.heap.size + 2 ≤ W'.heap.size) (first | assumption | exact KR.out _ hS1 | exact KA.out _ _ (by assumption)) (first | ((with_reducible refine (HL0.out _).mono ?_); rintro e w2 ⟨rfl, rfl⟩) | ((with_reducible refine (HL1.out _ (by assumption)).mono ?_); rintro e w2 ⟨rfl, hb2⟩; have hS2 := KS.out _ _ (by assumption) hb2) | ((with_reducible refine (HL2.out _ (by assumption)).mono ?_); rintro e w2 ⟨rfl, hb2⟩; have hS2 := KS.out _ _ (by assumption) hb2) | ((with_reducible refine (HL3.out _ (by assumption)).mono ?_); rintro e w2 ⟨rfl, hb2⟩; have hS2 := KS.out _ _ (by assumption) hb2) | ((with_reducible refine (HL4.out _ (by assumption)).mono ?_); rintro e w2 ⟨rfl, hb2⟩; have hS2 := KS.out _ _ (by assumption) hb2) | ((with_reducible refine (HO.out _).mono ?_); rintro e w2 ⟨rfl, rfl⟩))
 rename_i hSe
 go_wp2
 go_ret
 exact ⟨by rw [hR.out]; rfl, hSe.2.2.2.2.2.2.2.2.2.2.1⟩
theorem qfy (v u : Value) (a b : Dat) (w : World) (hA : DatAt w v a) (hU : DatAt w u b) (hk : DatOK a) (hk2 : DatOK b) :
 Calls Tryz.prog 109 #[v, u] w fun e w' => e = .returned (.bool (qao a b == 0)) ∧ Below w.heap.size w w' := by
 obtain ⟨vn, vu, vt, vr, rfl, a1, a2, a3, a4⟩ := id hA
 obtain ⟨un, uu, ut, ur, rfl, b1, b2, b3, b4⟩ := id hU
 have hC := fun W (hB : Below w.heap.size w W) => qdS _ _ a b W (hA.below hB) (hU.below hB) hk hk2
 have hb0 : Below w.heap.size w ((w.alloc (.cells #[.int .i64 a.ty, vn, vu, vt, vr] 101)).alloc (.cells #[.int .i64 b.ty, un, uu, ut, ur] 101)) := ((Below.refl _ w).alloc (qN0) _).alloc (by simp) _
 have hCz := hC _ hb0
 have hB0 := qH0 hb0
 generalize qao a b = r at *
 clear hA hU hC a1 a2 a3 a4 b1 b2 b3 b4 hk hk2 hb0
 go_enter Tryz.func109, Tryz.ntmps109
 go_wp2_with (go_at_call 148; refine hCz.mono ?_; rintro e w2 ⟨rfl, hb2⟩)
 go_ret
 exact ⟨rfl, qB0 hB0.out hb2⟩
end Go.Proofs.YtckammgnmgkieaaGreat
