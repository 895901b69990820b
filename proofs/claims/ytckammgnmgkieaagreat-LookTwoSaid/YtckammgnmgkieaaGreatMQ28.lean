/-
  rdata.Compare, rdata.Same.
-/
import Derived.Test.YtckammgnmgkieaaGreatMQ36
import Derived.Test.YtckammgnmgkieaaGreatMQ40
import Derived.Test.YtckammgnmgkieaaGreatMQ39
import Derived.Deep.RegionHeld3
import Derived.Test.YtckammgnmgkieaaGreatMQ41
import Derived.Test.YtckammgnmgkieaaGreatMQ14
import Derived.Test.YtckammgnmgkieaaGreatMQ12
import Derived.Test.YtckammgnmgkieaaGreatMQ19
namespace Go.Proofs.YtckammgnmgkieaaGreat
set_option maxRecDepth 20000
open Go.RowKit Go.Shelf

def csOf {α : Type} (f : α → α → Int) (a b : List α) (j : Nat) : Int := if h : j < a.length ∧ j < b.length then f (a[j]'h.1) (b[j]'h.2) else 0
theorem csOf_at {α : Type} {f : α → α → Int} {a b : List α} {j : Nat} (h1 : j < a.length) (h2 : j < b.length) : csOf f a b j = f a[j] b[j] := by unfold csOf; rw [dif_pos ⟨h1, h2⟩]

theorem lists_names (v u : Value) (a b : List Nm) (w : World) (hA : NmsAt w v a) (hU : NmsAt w u b) (hs : a.length ≤ 1048576) (hs2 : b.length ≤ 1048576) (hk : ∀ n ∈ a, NmOK n) (hk2 : ∀ n ∈ b, NmOK n) :
    Calls Tryz.prog 178 #[v, u, .func (.func 129) #[] #[]] w fun e w' => e = .returned (.int .i64 (cmpL compareN a b)) ∧ Below w.heap.size w w' := by
  obtain ⟨vs, h1, hl, h2⟩ := hA
  obtain ⟨us, g1, gl, g2⟩ := hU
  refine (listsNm v u vs us (csOf compareN a b) w h1 g1 (by omega) (by omega) ?_).mono ?_
  · intro W hB j j1 j2
    rw [csOf_at (by omega) (by omega)]
    exact name_Compare _ _ _ _ W ((h2 j j1).below hB).1 ((g2 j j2).below hB).1 (hk _ (List.getElem_mem _)) (hk2 _ (List.getElem_mem _))
  · rintro e w' ⟨⟨r, rfl, hr⟩, hB⟩
    rw [hl, gl] at hr
    exact ⟨by rw [firstC_cmpL (fun j j1 j2 => csOf_at j1 j2) hr], hB⟩
theorem lists_nums (v u : Value) (a b : List Nat) (w : World) (hA : SlAt w v (a.map u32V)) (hU : SlAt w u (b.map u32V)) (hs : a.length ≤ 1048576) (hs2 : b.length ≤ 1048576) :
    Calls Tryz.prog 179 #[v, u, .func (.func 180) #[] #[]] w fun e w' => e = .returned (.int .i64 (cmpL cmpU a b)) ∧ Below w.heap.size w w' := by
  refine (listsU32 v u _ _ (csOf cmpU a b) w hA hU (by simpa using hs) (by simpa using hs2) ?_).mono ?_
  · intro W hB j j1 j2
    rw [csOf_at (by simpa using j1) (by simpa using j2), List.getElem_map, List.getElem_map]
    refine (cmp_u32 _ _ W).mono ?_
    rintro e w' ⟨rfl, rfl⟩
    exact ⟨rfl, Below.refl _ _⟩
  · rintro e w' ⟨⟨r, rfl, hr⟩, hB⟩
    rw [List.length_map, List.length_map] at hr
    exact ⟨by rw [firstC_cmpL (fun j j1 j2 => csOf_at j1 j2) hr], hB⟩
theorem lists_texts (v u : Value) (a b : Nm) (w : World) (hA : NmAt w v a) (hU : NmAt w u b) (hs : a.length ≤ 1048576) (hs2 : b.length ≤ 1048576) :
    Calls Tryz.prog 181 #[v, u, .func (.func 182) #[] #[]] w fun e w' => e = .returned (.int .i64 (cmpL orderM a b)) ∧ Below w.heap.size w w' := by
  refine (listsStr v u _ _ (csOf orderM a b) w (nmAt_sl.1 hA) (nmAt_sl.1 hU) (by simpa using hs) (by simpa using hs2) ?_).mono ?_
  · intro W hB j j1 j2
    rw [csOf_at (by simpa using j1) (by simpa using j2), List.getElem_map, List.getElem_map]
    refine (cmp_str _ _ W).mono ?_
    rintro e w' ⟨rfl, rfl⟩
    exact ⟨rfl, Below.refl _ _⟩
  · rintro e w' ⟨⟨r, rfl, hr⟩, hB⟩
    rw [List.length_map, List.length_map] at hr
    exact ⟨by rw [firstC_cmpL (fun j j1 j2 => csOf_at j1 j2) hr], hB⟩
theorem lists_raw (v u : Value) (a b : List UInt8) (w : World) (hA : SlAt w v (a.map bv)) (hU : SlAt w u (b.map bv)) (hs : a.length ≤ 1048576) (hs2 : b.length ≤ 1048576) :
    Calls Tryz.prog 183 #[v, u, .func (.func 177) #[] #[]] w fun e w' => e = .returned (.int .i64 (cmpL cmpB a b)) ∧ Below w.heap.size w w' := by
  refine (listsU8 v u _ _ (csOf cmpB a b) w hA hU (by simpa using hs) (by simpa using hs2) ?_).mono ?_
  · intro W hB j j1 j2
    rw [csOf_at (by simpa using j1) (by simpa using j2), List.getElem_map, List.getElem_map]
    refine (cmp_u8 _ _ W).mono ?_
    rintro e w' ⟨rfl, rfl⟩
    exact ⟨rfl, Below.refl _ _⟩
  · rintro e w' ⟨⟨r, rfl, hr⟩, hB⟩
    rw [List.length_map, List.length_map] at hr
    exact ⟨by rw [firstC_cmpL (fun j j1 j2 => csOf_at j1 j2) hr], hB⟩

theorem cmp_Or5 (W : World) (a b c d f : Int) :
    Calls Tryz.prog 128 #[.slice (some ⟨W.heap.size, 0, none⟩) 5 5] (W.alloc (.cells #[.int .i64 a, .int .i64 b, .int .i64 c, .int .i64 d, .int .i64 f] 3)) fun e w' => e = .returned (.int .i64 (orI a (orI b (orI c (orI d f))))) ∧ w' = W.alloc (.cells #[.int .i64 a, .int .i64 b, .int .i64 c, .int .i64 d, .int .i64 f] 3) := by
  refine (cmp_Or W.heap.size 5 [a, b, c, d, f] _ (by simp) ?_).mono ?_
  · intro j h
    have e := cells_new W [.int .i64 a, .int .i64 b, .int .i64 c, .int .i64 d, .int .i64 f] 3 j (.int .i64 ([a, b, c, d, f][j])) (by
      have : ([.int .i64 a, .int .i64 b, .int .i64 c, .int .i64 d, .int .i64 f] : List Value) = [a, b, c, d, f].map (.int .i64) := rfl
      rw [this, List.getElem?_map, List.getElem?_eq_getElem h]; rfl)
    rw [Go.WideShapes.add_plain, Nat.zero_add] at e
    exact e
  · rintro e w' ⟨rfl, rfl⟩
    refine ⟨?_, rfl⟩
    have : (if f = 0 then 0 else f) = f := by split <;> omega
    simp only [firstNZ, orI, this]

end Go.Proofs.YtckammgnmgkieaaGreat

/-
  rdata.Compare, rdata.Same: the walk.
-/
namespace Go.Proofs.YtckammgnmgkieaaGreat
set_option maxRecDepth 20000
open Go.RowKit Go.Shelf

theorem new_at (w : World) (l : List Value) (T : TypeId) (j : Nat) (v : Value) (h : l[j]? = some v) : (w.alloc (.cells l.toArray T)).cell? ⟨w.heap.size, j, none⟩ = some v := by
  have e := cells_new w l T j v h
  rwa [Go.WideShapes.add_plain, Nat.zero_add] at e
theorem below_drew1 {n : Nat} {a w : World} (h : Below n a w) : Below n a w.drew := h.trans ⟨rfl, rfl, rfl, Nat.le_refl _, fun _ _ => rfl⟩

set_option maxRecDepth 100000 in
set_option maxHeartbeats 8000000 in
theorem rdata_Compare (v u : Value) (a b : Dat) (w : World) (hA : DatAt w v a) (hU : DatAt w u b) (hk : DatOK a) (hk2 : DatOK b) :
    Calls Tryz.prog 148 #[v, u] w fun e w' => e = .returned (.int .i64 (compareD a b)) ∧ Below w.heap.size w w' := by
  obtain ⟨vn, vu, vt, vr, rfl, a1, a2, a3, a4⟩ := hA
  obtain ⟨un, uu, ut, ur, rfl, b1, b2, b3, b4⟩ := hU
  obtain ⟨_, k1, k2, k3, _, k5, k6⟩ := hk
  obtain ⟨_, l1, l2, l3, _, l5, l6⟩ := hk2
  have hL1 := fun W (hB : Below w.heap.size w W) => lists_names vn un a.names b.names W (a1.below hB) (b1.below hB) k1 l1 k2 l2
  have hL2 := fun W (hB : Below w.heap.size w W) => lists_nums vu uu a.nums b.nums W (a2.below hB) (b2.below hB) k3 l3
  have hL3 := fun W (hB : Below w.heap.size w W) => lists_texts vt ut a.texts b.texts W (a3.below hB) (b3.below hB) k5.1 l5.1
  have hL4 := fun W (hB : Below w.heap.size w W) => lists_raw vr ur a.raw b.raw W (a4.below hB) (b4.below hB) k6 l6
  have hR := Lib.hid (show compareD a b = orI (cmpI a.ty b.ty) (orI (cmpL compareN a.names b.names) (orI (cmpL cmpU a.nums b.nums) (orI (cmpL orderM a.texts b.texts) (cmpL cmpB a.raw b.raw)))) from rfl)
  generalize compareD a b = r at *
  generalize cmpL compareN a.names b.names = q1 at *
  generalize cmpL cmpU a.nums b.nums = q2 at *
  generalize cmpL orderM a.texts b.texts = q3 at *
  generalize cmpL cmpB a.raw b.raw = q4 at *
  have hL0 := fun W => cmp_int a.ty b.ty W
  generalize cmpI a.ty b.ty = q0 at *
  generalize a.ty = x at *
  generalize b.ty = y at *
  have hO := fun W => cmp_Or5 W q0 q1 q2 q3 q4
  have hS0 : ∀ W0, ((w.alloc (.cells #[.int .i64 x, vn, vu, vt, vr] 101)).alloc (.cells #[.int .i64 y, un, uu, ut, ur] 101)) = W0 →
      W0.cell? ⟨w.heap.size, 0, none⟩ = some (.int .i64 x) ∧ W0.cell? ⟨w.heap.size, 1, none⟩ = some vn ∧ W0.cell? ⟨w.heap.size, 2, none⟩ = some vu ∧ W0.cell? ⟨w.heap.size, 3, none⟩ = some vt ∧ W0.cell? ⟨w.heap.size, 4, none⟩ = some vr ∧
      W0.cell? ⟨w.heap.size + 1, 0, none⟩ = some (.int .i64 y) ∧ W0.cell? ⟨w.heap.size + 1, 1, none⟩ = some un ∧ W0.cell? ⟨w.heap.size + 1, 2, none⟩ = some uu ∧ W0.cell? ⟨w.heap.size + 1, 3, none⟩ = some ut ∧ W0.cell? ⟨w.heap.size + 1, 4, none⟩ = some ur ∧ Below w.heap.size w W0 := by
    rintro W0 rfl
    have n1 := new_at w [.int .i64 x, vn, vu, vt, vr] 101
    have n2 := new_at (w.alloc (.cells #[.int .i64 x, vn, vu, vt, vr] 101)) [.int .i64 y, un, uu, ut, ur] 101
    rw [World.size_alloc] at n2
    have hb : Below (w.heap.size + 1) (w.alloc (.cells #[.int .i64 x, vn, vu, vt, vr] 101)) ((w.alloc (.cells #[.int .i64 x, vn, vu, vt, vr] 101)).alloc (.cells #[.int .i64 y, un, uu, ut, ur] 101)) := (Below.refl _ _).alloc (by simp) _
    have hlt : w.heap.size < w.heap.size + 1 := Nat.lt_succ_self _
    refine ⟨(hb.cell hlt).trans (n1 0 _ rfl), (hb.cell hlt).trans (n1 1 _ rfl), (hb.cell hlt).trans (n1 2 _ rfl), (hb.cell hlt).trans (n1 3 _ rfl), (hb.cell hlt).trans (n1 4 _ rfl), n2 0 _ rfl, n2 1 _ rfl, n2 2 _ rfl, n2 3 _ rfl, n2 4 _ rfl, ((Below.refl _ w).alloc (Nat.le_refl _) _).alloc (by simp) _⟩
  have hz0 : ∀ W0, ((w.alloc (.cells #[.int .i64 x, vn, vu, vt, vr] 101)).alloc (.cells #[.int .i64 y, un, uu, ut, ur] 101)) = W0 → W0.heap.size = w.heap.size + 2 := by
    rintro W0 rfl; simp
  have HS0 := Lib.hid hS0; have HZ0 := Lib.hid hz0
  clear hS0 hz0 a1 a2 a3 a4 b1 b2 b3 b4 k1 k2 k3 k5 k6 l1 l2 l3 l5 l6
  go_enter Tryz.func148, Tryz.ntmps148
  go_wp2
  generalize hW0 : ((w.alloc (.cells #[.int .i64 x, vn, vu, vt, vr] 101)).alloc (.cells #[.int .i64 y, un, uu, ut, ur] 101)) = W0
  have hS := HS0.out W0 hW0
  have hz := HZ0.out W0 hW0
  clear hW0
  have hS1 : W0.cell? ⟨w.heap.size, 0, none⟩ = some (.int .i64 x) ∧ W0.cell? ⟨w.heap.size, 1, none⟩ = some vn ∧ W0.cell? ⟨w.heap.size, 2, none⟩ = some vu ∧ W0.cell? ⟨w.heap.size, 3, none⟩ = some vt ∧ W0.cell? ⟨w.heap.size, 4, none⟩ = some vr ∧ W0.cell? ⟨w.heap.size + 1, 0, none⟩ = some (.int .i64 y) ∧ W0.cell? ⟨w.heap.size + 1, 1, none⟩ = some un ∧ W0.cell? ⟨w.heap.size + 1, 2, none⟩ = some uu ∧ W0.cell? ⟨w.heap.size + 1, 3, none⟩ = some ut ∧ W0.cell? ⟨w.heap.size + 1, 4, none⟩ = some ur ∧ Below w.heap.size w W0 ∧ w.heap.size + 2 ≤ W0.heap.size := ⟨hS.1, hS.2.1, hS.2.2.1, hS.2.2.2.1, hS.2.2.2.2.1, hS.2.2.2.2.2.1, hS.2.2.2.2.2.2.1, hS.2.2.2.2.2.2.2.1, hS.2.2.2.2.2.2.2.2.1, hS.2.2.2.2.2.2.2.2.2.1, hS.2.2.2.2.2.2.2.2.2.2, by omega⟩
  have KD : ∀ W W' : World, (W.cell? ⟨w.heap.size, 0, none⟩ = some (.int .i64 x) ∧ W.cell? ⟨w.heap.size, 1, none⟩ = some vn ∧ W.cell? ⟨w.heap.size, 2, none⟩ = some vu ∧ W.cell? ⟨w.heap.size, 3, none⟩ = some vt ∧ W.cell? ⟨w.heap.size, 4, none⟩ = some vr ∧ W.cell? ⟨w.heap.size + 1, 0, none⟩ = some (.int .i64 y) ∧ W.cell? ⟨w.heap.size + 1, 1, none⟩ = some un ∧ W.cell? ⟨w.heap.size + 1, 2, none⟩ = some uu ∧ W.cell? ⟨w.heap.size + 1, 3, none⟩ = some ut ∧ W.cell? ⟨w.heap.size + 1, 4, none⟩ = some ur ∧ Below w.heap.size w W ∧ w.heap.size + 2 ≤ W.heap.size) → Below (w.heap.size + 2) W W' → (W'.cell? ⟨w.heap.size, 0, none⟩ = some (.int .i64 x) ∧ W'.cell? ⟨w.heap.size, 1, none⟩ = some vn ∧ W'.cell? ⟨w.heap.size, 2, none⟩ = some vu ∧ W'.cell? ⟨w.heap.size, 3, none⟩ = some vt ∧ W'.cell? ⟨w.heap.size, 4, none⟩ = some vr ∧ W'.cell? ⟨w.heap.size + 1, 0, none⟩ = some (.int .i64 y) ∧ W'.cell? ⟨w.heap.size + 1, 1, none⟩ = some un ∧ W'.cell? ⟨w.heap.size + 1, 2, none⟩ = some uu ∧ W'.cell? ⟨w.heap.size + 1, 3, none⟩ = some ut ∧ W'.cell? ⟨w.heap.size + 1, 4, none⟩ = some ur ∧ Below w.heap.size w W' ∧ w.heap.size + 2 ≤ W'.heap.size) := by
    rintro W W' ⟨a0, a1, a2, a3, a4, b0, b1, b2, b3, b4, hw, hsz⟩ hb
    have hA : w.heap.size < w.heap.size + 2 := by omega
    have hB : w.heap.size + 1 < w.heap.size + 2 := by omega
    exact ⟨(hb.cell hA).trans a0, (hb.cell hA).trans a1, (hb.cell hA).trans a2, (hb.cell hA).trans a3, (hb.cell hA).trans a4, (hb.cell hB).trans b0, (hb.cell hB).trans b1, (hb.cell hB).trans b2, (hb.cell hB).trans b3, (hb.cell hB).trans b4, hw.trans (hb.mono (by omega)), Nat.le_trans hsz hb.size⟩
  have KS := Lib.hid (fun (W W' : World) (h : W.cell? ⟨w.heap.size, 0, none⟩ = some (.int .i64 x) ∧ W.cell? ⟨w.heap.size, 1, none⟩ = some vn ∧ W.cell? ⟨w.heap.size, 2, none⟩ = some vu ∧ W.cell? ⟨w.heap.size, 3, none⟩ = some vt ∧ W.cell? ⟨w.heap.size, 4, none⟩ = some vr ∧ W.cell? ⟨w.heap.size + 1, 0, none⟩ = some (.int .i64 y) ∧ W.cell? ⟨w.heap.size + 1, 1, none⟩ = some un ∧ W.cell? ⟨w.heap.size + 1, 2, none⟩ = some uu ∧ W.cell? ⟨w.heap.size + 1, 3, none⟩ = some ut ∧ W.cell? ⟨w.heap.size + 1, 4, none⟩ = some ur ∧ Below w.heap.size w W ∧ w.heap.size + 2 ≤ W.heap.size) (hb : Below W.heap.size W W') => KD W W' h (hb.mono h.2.2.2.2.2.2.2.2.2.2.2))
  have KA := Lib.hid (fun (W : World) (o : Obj) (h : W.cell? ⟨w.heap.size, 0, none⟩ = some (.int .i64 x) ∧ W.cell? ⟨w.heap.size, 1, none⟩ = some vn ∧ W.cell? ⟨w.heap.size, 2, none⟩ = some vu ∧ W.cell? ⟨w.heap.size, 3, none⟩ = some vt ∧ W.cell? ⟨w.heap.size, 4, none⟩ = some vr ∧ W.cell? ⟨w.heap.size + 1, 0, none⟩ = some (.int .i64 y) ∧ W.cell? ⟨w.heap.size + 1, 1, none⟩ = some un ∧ W.cell? ⟨w.heap.size + 1, 2, none⟩ = some uu ∧ W.cell? ⟨w.heap.size + 1, 3, none⟩ = some ut ∧ W.cell? ⟨w.heap.size + 1, 4, none⟩ = some ur ∧ Below w.heap.size w W ∧ w.heap.size + 2 ≤ W.heap.size) => KD W (W.alloc o) h ((Below.refl _ W).alloc h.2.2.2.2.2.2.2.2.2.2.2 o))
  have KR := Lib.hid (fun (W : World) (h : W.cell? ⟨w.heap.size, 0, none⟩ = some (.int .i64 x) ∧ W.cell? ⟨w.heap.size, 1, none⟩ = some vn ∧ W.cell? ⟨w.heap.size, 2, none⟩ = some vu ∧ W.cell? ⟨w.heap.size, 3, none⟩ = some vt ∧ W.cell? ⟨w.heap.size, 4, none⟩ = some vr ∧ W.cell? ⟨w.heap.size + 1, 0, none⟩ = some (.int .i64 y) ∧ W.cell? ⟨w.heap.size + 1, 1, none⟩ = some un ∧ W.cell? ⟨w.heap.size + 1, 2, none⟩ = some uu ∧ W.cell? ⟨w.heap.size + 1, 3, none⟩ = some ut ∧ W.cell? ⟨w.heap.size + 1, 4, none⟩ = some ur ∧ Below w.heap.size w W ∧ w.heap.size + 2 ≤ W.heap.size) => KD W W.drew h (below_drew1 (Below.refl _ W)))
  have HL1 := Lib.hid (fun (W : World) (h : W.cell? ⟨w.heap.size, 0, none⟩ = some (.int .i64 x) ∧ W.cell? ⟨w.heap.size, 1, none⟩ = some vn ∧ W.cell? ⟨w.heap.size, 2, none⟩ = some vu ∧ W.cell? ⟨w.heap.size, 3, none⟩ = some vt ∧ W.cell? ⟨w.heap.size, 4, none⟩ = some vr ∧ W.cell? ⟨w.heap.size + 1, 0, none⟩ = some (.int .i64 y) ∧ W.cell? ⟨w.heap.size + 1, 1, none⟩ = some un ∧ W.cell? ⟨w.heap.size + 1, 2, none⟩ = some uu ∧ W.cell? ⟨w.heap.size + 1, 3, none⟩ = some ut ∧ W.cell? ⟨w.heap.size + 1, 4, none⟩ = some ur ∧ Below w.heap.size w W ∧ w.heap.size + 2 ≤ W.heap.size) => hL1 W h.2.2.2.2.2.2.2.2.2.2.1)
  have HL2 := Lib.hid (fun (W : World) (h : W.cell? ⟨w.heap.size, 0, none⟩ = some (.int .i64 x) ∧ W.cell? ⟨w.heap.size, 1, none⟩ = some vn ∧ W.cell? ⟨w.heap.size, 2, none⟩ = some vu ∧ W.cell? ⟨w.heap.size, 3, none⟩ = some vt ∧ W.cell? ⟨w.heap.size, 4, none⟩ = some vr ∧ W.cell? ⟨w.heap.size + 1, 0, none⟩ = some (.int .i64 y) ∧ W.cell? ⟨w.heap.size + 1, 1, none⟩ = some un ∧ W.cell? ⟨w.heap.size + 1, 2, none⟩ = some uu ∧ W.cell? ⟨w.heap.size + 1, 3, none⟩ = some ut ∧ W.cell? ⟨w.heap.size + 1, 4, none⟩ = some ur ∧ Below w.heap.size w W ∧ w.heap.size + 2 ≤ W.heap.size) => hL2 W h.2.2.2.2.2.2.2.2.2.2.1)
  have HL3 := Lib.hid (fun (W : World) (h : W.cell? ⟨w.heap.size, 0, none⟩ = some (.int .i64 x) ∧ W.cell? ⟨w.heap.size, 1, none⟩ = some vn ∧ W.cell? ⟨w.heap.size, 2, none⟩ = some vu ∧ W.cell? ⟨w.heap.size, 3, none⟩ = some vt ∧ W.cell? ⟨w.heap.size, 4, none⟩ = some vr ∧ W.cell? ⟨w.heap.size + 1, 0, none⟩ = some (.int .i64 y) ∧ W.cell? ⟨w.heap.size + 1, 1, none⟩ = some un ∧ W.cell? ⟨w.heap.size + 1, 2, none⟩ = some uu ∧ W.cell? ⟨w.heap.size + 1, 3, none⟩ = some ut ∧ W.cell? ⟨w.heap.size + 1, 4, none⟩ = some ur ∧ Below w.heap.size w W ∧ w.heap.size + 2 ≤ W.heap.size) => hL3 W h.2.2.2.2.2.2.2.2.2.2.1)
  have HL4 := Lib.hid (fun (W : World) (h : W.cell? ⟨w.heap.size, 0, none⟩ = some (.int .i64 x) ∧ W.cell? ⟨w.heap.size, 1, none⟩ = some vn ∧ W.cell? ⟨w.heap.size, 2, none⟩ = some vu ∧ W.cell? ⟨w.heap.size, 3, none⟩ = some vt ∧ W.cell? ⟨w.heap.size, 4, none⟩ = some vr ∧ W.cell? ⟨w.heap.size + 1, 0, none⟩ = some (.int .i64 y) ∧ W.cell? ⟨w.heap.size + 1, 1, none⟩ = some un ∧ W.cell? ⟨w.heap.size + 1, 2, none⟩ = some uu ∧ W.cell? ⟨w.heap.size + 1, 3, none⟩ = some ut ∧ W.cell? ⟨w.heap.size + 1, 4, none⟩ = some ur ∧ Below w.heap.size w W ∧ w.heap.size + 2 ≤ W.heap.size) => hL4 W h.2.2.2.2.2.2.2.2.2.2.1)
  have HL0 := Lib.hid hL0; have HO := Lib.hid hO
  clear hS hz KD hL1 hL2 hL3 hL4 hL0 hO HS0 HZ0
  go_region_held3 (fun W' => W'.cell? ⟨w.heap.size, 0, none⟩ = some (.int .i64 x) ∧ W'.cell? ⟨w.heap.size, 1, none⟩ = some vn ∧ W'.cell? ⟨w.heap.size, 2, none⟩ = some vu ∧ W'.cell? ⟨w.heap.size, 3, none⟩ = some vt ∧ W'.cell? ⟨w.heap.size, 4, none⟩ = some vr ∧ W'.cell? ⟨w.heap.size + 1, 0, none⟩ = some (.int .i64 y) ∧ W'.cell? ⟨w.heap.size + 1, 1, none⟩ = some un ∧ W'.cell? ⟨w.heap.size + 1, 2, none⟩ = some uu ∧ W'.cell? ⟨w.heap.size + 1, 3, none⟩ = some ut ∧ W'.cell? ⟨w.heap.size + 1, 4, none⟩ = some ur ∧ Below w.heap.size w W' ∧ w.heap.size + 2 ≤ W'.heap.size) (first | assumption | exact KR.out _ hS1 | exact KA.out _ _ (by assumption)) (first | ((with_reducible refine (HL0.out _).mono ?_); rintro e w2 ⟨rfl, rfl⟩) | ((with_reducible refine (HL1.out _ (by assumption)).mono ?_); rintro e w2 ⟨rfl, hb2⟩; have hS2 := KS.out _ _ (by assumption) hb2) | ((with_reducible refine (HL2.out _ (by assumption)).mono ?_); rintro e w2 ⟨rfl, hb2⟩; have hS2 := KS.out _ _ (by assumption) hb2) | ((with_reducible refine (HL3.out _ (by assumption)).mono ?_); rintro e w2 ⟨rfl, hb2⟩; have hS2 := KS.out _ _ (by assumption) hb2) | ((with_reducible refine (HL4.out _ (by assumption)).mono ?_); rintro e w2 ⟨rfl, hb2⟩; have hS2 := KS.out _ _ (by assumption) hb2) | ((with_reducible refine (HO.out _).mono ?_); rintro e w2 ⟨rfl, rfl⟩))
  rename_i hSe
  go_wp2
  go_ret
  exact ⟨by rw [hR.out]; rfl, hSe.2.2.2.2.2.2.2.2.2.2.1⟩

set_option maxRecDepth 100000 in
set_option maxHeartbeats 4000000 in
theorem rdata_Same (v u : Value) (a b : Dat) (w : World) (hA : DatAt w v a) (hU : DatAt w u b) (hk : DatOK a) (hk2 : DatOK b) :
    Calls Tryz.prog 109 #[v, u] w fun e w' => e = .returned (.bool (compareD a b == 0)) ∧ Below w.heap.size w w' := by
  obtain ⟨vn, vu, vt, vr, rfl, a1, a2, a3, a4⟩ := id hA
  obtain ⟨un, uu, ut, ur, rfl, b1, b2, b3, b4⟩ := id hU
  have hC := fun W (hB : Below w.heap.size w W) => rdata_Compare _ _ a b W (hA.below hB) (hU.below hB) hk hk2
  have hb0 : Below w.heap.size w ((w.alloc (.cells #[.int .i64 a.ty, vn, vu, vt, vr] 101)).alloc (.cells #[.int .i64 b.ty, un, uu, ut, ur] 101)) := ((Below.refl _ w).alloc (Nat.le_refl _) _).alloc (by simp) _
  have hCz := hC _ hb0
  have hB0 := Lib.hid hb0
  generalize compareD a b = r at *
  clear hA hU hC a1 a2 a3 a4 b1 b2 b3 b4 hk hk2 hb0
  go_enter Tryz.func109, Tryz.ntmps109
  go_wp2_with (go_at_call 148; refine hCz.mono ?_; rintro e w2 ⟨rfl, hb2⟩)
  go_ret
  exact ⟨rfl, hB0.out.trans (hb2.mono hB0.out.size)⟩
end Go.Proofs.YtckammgnmgkieaaGreat

/-
  A row of records cut into sets: plain facts. (The runs' facts are XRunP's, with another word for 'alike'.)
-/
namespace Go.Proofs.YtckammgnmgkieaaGreat
set_option maxRecDepth 20000
open Go.RowKit Go.Shelf
set_option linter.unusedVariables false

structure St where
  owner : Nm
  ty : Int
  ttl : Nat
  data : List Dat
def belM (o : Nm) (t : Int) (r : Rc) : Bool := decide (r.data.ty = t) && sameN r.owner o
def belR (y r : Rc) : Bool := belM y.owner y.data.ty r
theorem belR_refl (y : Rc) : belR y y = true := by simp [belR, belM, sameN_refl]
def stR (y : Rc) (r : List Rc) : St := ⟨y.owner, y.data.ty, leastM y.ttl r, y.data :: r.map Rc.data⟩
def setsF : Nat → List Rc → List St
  | 0, _ => []
  | _, [] => []
  | n + 1, y :: r => stR y (r.takeWhile (belR y)) :: setsF n (r.dropWhile (belR y))
theorem setsF_more : ∀ (n m : Nat) (l : List Rc), l.length ≤ n → l.length ≤ m → setsF n l = setsF m l
  | 0, 0, l, _, _ => rfl
  | 0, m + 1, l, h, _ => by
    have : l = [] := List.eq_nil_of_length_eq_zero (by omega)
    subst this; rfl
  | n + 1, 0, l, _, h => by
    have : l = [] := List.eq_nil_of_length_eq_zero (by omega)
    subst this; rfl
  | n + 1, m + 1, [], _, _ => rfl
  | n + 1, m + 1, y :: r, h1, h2 => by
    have hl : (r.dropWhile (belR y)).length ≤ r.length := (List.dropWhile_sublist _).length_le
    simp only [List.length_cons] at h1 h2
    simp only [setsF]
    rw [setsF_more n m _ (by omega) (by omega)]
def setsM (l : List Rc) : List St := setsF l.length l
theorem setsM_cons (y : Rc) (r : List Rc) : setsM (y :: r) = stR y (r.takeWhile (belR y)) :: setsM (r.dropWhile (belR y)) := by
  have hl : (r.dropWhile (belR y)).length ≤ r.length := (List.dropWhile_sublist _).length_le
  unfold setsM
  simp only [List.length_cons, setsF]
  rw [setsF_more r.length _ _ hl (Nat.le_refl _)]
theorem setsM_nil : setsM [] = [] := rfl

def nxtS (rs : List Rc) (s : Nat) : Nat := match rs.drop s with
  | [] => s + 1
  | y :: r => s + 1 + (r.takeWhile (belR y)).length
def segsH : Nat → Nat → List Rc → List (Nat × Nat)
  | 0, _, _ => []
  | f + 1, s, rs => if s < rs.length then (s, nxtS rs s) :: segsH f (nxtS rs s) rs else []
def segsS (rs : List Rc) : List (Nat × Nat) := segsH rs.length 0 rs
theorem nxtS_at {rs : List Rc} {s : Nat} (hs : s < rs.length) : nxtS rs s = s + 1 + ((rs.drop (s + 1)).takeWhile (belR rs[s])).length := by
  unfold nxtS
  rw [List.drop_eq_getElem_cons hs]
theorem nxtS_lt {rs : List Rc} {s : Nat} (hs : s < rs.length) : s < nxtS rs s ∧ nxtS rs s ≤ rs.length := by
  rw [nxtS_at hs]
  have := (takeWhile_len (p := belR rs[s]) (rs.drop (s + 1))).1
  rw [List.length_drop] at this
  omega
theorem nxtS_more {rs : List Rc} {s e : Nat} (hs : s < rs.length) (h1 : s + 1 ≤ e) (h2 : e ≤ nxtS rs s) (he : e < rs.length) (hsame : belR rs[s] rs[e] = true) : e + 1 ≤ nxtS rs s := by
  rw [nxtS_at hs] at h2 ⊢
  obtain ⟨t1, t2, t3⟩ := takeWhile_len (p := belR rs[s]) (rs.drop (s + 1))
  rcases Nat.lt_or_ge e (s + 1 + ((rs.drop (s + 1)).takeWhile (belR rs[s])).length) with h | h
  · omega
  · exfalso
    obtain ⟨j, rfl⟩ : ∃ j, e = s + 1 + j := ⟨e - (s + 1), by omega⟩
    have e1 : ((rs.drop (s + 1)).takeWhile (belR rs[s])).length = j := by omega
    have := t3 (by rw [List.length_drop]; omega)
    simp only [e1, List.getElem_drop] at this
    rw [hsame] at this; cases this
theorem nxtS_stop {rs : List Rc} {s e : Nat} (hs : s < rs.length) (h1 : s + 1 ≤ e) (h2 : e ≤ nxtS rs s) (h : e = rs.length ∨ ∃ he : e < rs.length, belR rs[s] rs[e] = false) : e = nxtS rs s := by
  have hn := nxtS_lt hs
  rcases h with h | ⟨he, h⟩
  · omega
  · rcases Nat.lt_or_ge e (nxtS rs s) with h3 | h3
    · exfalso
      rw [nxtS_at hs] at h3
      obtain ⟨t1, t2, t3⟩ := takeWhile_len (p := belR rs[s]) (rs.drop (s + 1))
      obtain ⟨j, rfl⟩ : ∃ j, e = s + 1 + j := ⟨e - (s + 1), by omega⟩
      have := t2 j (by omega) (by rw [List.length_drop]; omega)
      simp only [List.getElem_drop] at this
      rw [h] at this; cases this
    · omega
theorem segsH_more (rs : List Rc) : ∀ (f s : Nat), rs.length - s ≤ f → segsH f s rs = segsH (rs.length - s) s rs
  | 0, s, h => by rw [show rs.length - s = 0 by omega]
  | f + 1, s, h => by
    by_cases hs : s < rs.length
    · have hn := nxtS_lt hs
      obtain ⟨m, hm⟩ : ∃ m, rs.length - s = m + 1 := ⟨rs.length - s - 1, by omega⟩
      rw [hm]
      simp only [segsH, if_pos hs]
      rw [segsH_more rs f (nxtS rs s) (by omega), segsH_more rs m (nxtS rs s) (by omega)]
    · rw [show rs.length - s = 0 by omega]
      simp only [segsH, if_neg hs]
def leftS (rs : List Rc) (s : Nat) : List (Nat × Nat) := segsH (rs.length - s) s rs
theorem leftS_zero (rs : List Rc) : leftS rs 0 = segsS rs := rfl
theorem leftS_end (rs : List Rc) {s : Nat} (h : rs.length ≤ s) : leftS rs s = [] := by unfold leftS; rw [show rs.length - s = 0 by omega]; rfl
theorem leftS_step {rs : List Rc} {s : Nat} (hs : s < rs.length) : leftS rs s = (s, nxtS rs s) :: leftS rs (nxtS rs s) := by
  have hn := nxtS_lt hs
  obtain ⟨m, hm⟩ : ∃ m, rs.length - s = m + 1 := ⟨rs.length - s - 1, by omega⟩
  unfold leftS
  rw [hm]
  simp only [segsH, if_pos hs]
  rw [segsH_more rs m (nxtS rs s) (by omega)]
def setR (rs : List Rc) (x : Nat × Nat) : St := match rs.drop x.1 with
  | [] => ⟨[], 0, 0, []⟩
  | y :: r => stR y (r.take (x.2 - x.1 - 1))
theorem leftS_sets (rs : List Rc) : ∀ (n s : Nat), rs.length - s ≤ n → (leftS rs s).map (setR rs) = setsM (rs.drop s)
  | n, s, h => by
    by_cases hs : s < rs.length
    · have hn := nxtS_lt hs
      have e1 := nxtS_at hs
      obtain ⟨t1, t2⟩ := takeWhile_take (belR rs[s]) (rs.drop (s + 1))
      rw [leftS_step hs, List.map_cons, List.drop_eq_getElem_cons hs, setsM_cons]
      have ed : (rs.drop (s + 1)).dropWhile (belR rs[s]) = rs.drop (nxtS rs s) := by rw [← t2, List.drop_drop, e1]
      have er : setR rs (s, nxtS rs s) = stR rs[s] ((rs.drop (s + 1)).takeWhile (belR rs[s])) := by
        unfold setR
        simp only [List.drop_eq_getElem_cons hs]
        rw [← t1, show nxtS rs s - s - 1 = ((rs.drop (s + 1)).takeWhile (belR rs[s])).length by omega]
      rw [er, ed]
      cases n with
      | zero => omega
      | succ n => rw [leftS_sets rs n (nxtS rs s) (by omega)]
    · rw [leftS_end rs (by omega), List.drop_of_length_le (by omega)]
      rfl
theorem segs_sets (rs : List Rc) : (segsS rs).map (setR rs) = setsM rs := by rw [← leftS_zero, leftS_sets rs rs.length 0 (by omega)]; rfl
end Go.Proofs.YtckammgnmgkieaaGreat

/-
  Sets of a row in its own order: what SetsAll asks of them.
-/
namespace Go.Proofs.YtckammgnmgkieaaGreat
set_option maxRecDepth 20000
open Go.RowKit Go.Shelf
open Stb (COrd)
set_option linter.unusedVariables false

def keyR (a b : Rc) : Int := orI (compareN a.owner b.owner) (cmpI a.data.ty b.data.ty)
theorem cord_keyR : COrd keyR := cord_orI (cord_on cord_compareN Rc.owner) (cord_on (cord_on cord_cmpI Dat.ty) Rc.data)
theorem cmpI_zero {a b : Int} : cmpI a b = 0 ↔ a = b := by
  unfold cmpI
  constructor
  · intro h
    by_cases h1 : a < b
    · rw [if_pos h1] at h; cases h
    · rw [if_neg h1] at h
      by_cases h2 : b < a
      · simp [h2] at h
      · omega
  · rintro rfl; simp
theorem keyR_zero (a b : Rc) : keyR a b = 0 ↔ belR b a = true := by
  unfold keyR belR belM orI
  rw [Bool.and_eq_true, decide_eq_true_eq]
  by_cases h : compareN a.owner b.owner = 0
  · rw [if_pos h]
    exact ⟨fun h2 => ⟨cmpI_zero.1 h2, (compareN_zero _ _).1 h⟩, fun h2 => cmpI_zero.2 h2.1⟩
  · rw [if_neg h]
    exact ⟨fun h2 => absurd h2 h, fun h2 => absurd ((compareN_zero _ _).2 h2.2) h⟩
theorem keyR_of {a b : Rc} (h : compareR a b ≤ 0) : keyR a b ≤ 0 := by
  unfold compareR compareD orI at h
  unfold keyR orI
  by_cases h1 : compareN a.owner b.owner = 0
  · rw [if_pos h1] at h ⊢
    by_cases h2 : cmpI a.data.ty b.data.ty = 0
    · omega
    · rw [if_neg h2] at h; exact h
  · rw [if_neg h1] at h ⊢; exact h
theorem keyR_eq {a b : Rc} (h : compareR a b = 0) : keyR a b = 0 := by
  have h1 := keyR_of (a := a) (b := b) (by omega)
  have h2 := keyR_of (a := b) (b := a) (by have := cR_anti a b; omega)
  have h3 := cord_keyR.anti a b
  omega
theorem keyR_sym {a b : Rc} (h : keyR a b = 0) : keyR b a = 0 := by have := cord_keyR.anti a b; omega
theorem takeWhile_all {p : Rc → Bool} : ∀ (l : List Rc), ∀ z ∈ l.takeWhile p, p z = true
  | [], z, h => by cases h
  | x :: r, z, h => by
    by_cases hx : p x = true
    · rw [List.takeWhile_cons, if_pos hx] at h
      rcases List.mem_cons.1 h with rfl | h
      · exact hx
      · exact takeWhile_all r z h
    · rw [List.takeWhile_cons, if_neg hx] at h; cases h
theorem drop_other {y : Rc} {r : List Rc} (hs : StrictR (y :: r)) : ∀ z ∈ r.dropWhile (belR y), belR y z = false := by
  have hd := dropWhile_head (belR y) r
  have hsub : ∀ z ∈ r.dropWhile (belR y), z ∈ r := fun z hz => (List.dropWhile_sublist _).subset hz
  have hst : StrictR (r.dropWhile (belR y)) := List.Pairwise.sublist (List.dropWhile_sublist _) (List.pairwise_cons.1 hs).2
  cases e : r.dropWhile (belR y) with
  | nil => intro z hz; cases hz
  | cons d D =>
    rw [e] at hd hsub hst
    have h1 : belR y d = false := hd d (by simp)
    have h2 : compareR y d < 0 := (List.pairwise_cons.1 hs).1 d (hsub d (by simp))
    have k1 : keyR d y ≠ 0 := fun h => by rw [(keyR_zero d y).1 h] at h1; cases h1
    have k2 : keyR y d ≤ 0 := keyR_of (by omega)
    have k3 : keyR y d < 0 := by have := cord_keyR.anti y d; omega
    intro z hz
    rcases List.mem_cons.1 hz with rfl | hz
    · exact h1
    · have h3 : compareR d z < 0 := (List.pairwise_cons.1 hst).1 z hz
      have k4 : keyR d z ≤ 0 := keyR_of (by omega)
      cases hb : belR y z with
      | false => rfl
      | true =>
        have k5 : keyR z y = 0 := (keyR_zero z y).2 hb
        have k6 := cord_keyR.trans d z y k4 (by omega)
        have := cord_keyR.anti d y
        omega
theorem belR_trans {a b c : Rc} (h1 : belR a b = true) (h2 : belR a c = true) : belR b c = true := by
  have k1 := (keyR_zero b a).2 h1
  have k2 := (keyR_zero c a).2 h2
  have k3 := keyR_sym k1
  refine (keyR_zero c b).1 ?_
  have t1 := cord_keyR.trans c a b (by omega) (by omega)
  have t2 := cord_keyR.trans b a c (by omega) (by have := keyR_sym k2; omega)
  have := cord_keyR.anti c b
  omega
theorem sets_filter : ∀ (n : Nat) (c : List Rc), c.length ≤ n → StrictR c → ∀ s ∈ setsM c, ∃ y r, s = stR y r ∧ y ∈ c ∧ c.filter (belM s.owner s.ty) = y :: r
  | 0, c, hn, _, s, h => by
    obtain rfl : c = [] := List.eq_nil_of_length_eq_zero (by omega)
    cases h
  | n + 1, [], _, _, s, h => by cases h
  | n + 1, y :: r, hn, hs, s, h => by
    have hl : (r.dropWhile (belR y)).length ≤ r.length := (List.dropWhile_sublist _).length_le
    have hst : StrictR (r.dropWhile (belR y)) := List.Pairwise.sublist (List.dropWhile_sublist _) (List.pairwise_cons.1 hs).2
    have hr : r = r.takeWhile (belR y) ++ r.dropWhile (belR y) := (List.takeWhile_append_dropWhile).symm
    have hno := drop_other hs
    have hall := takeWhile_all (p := belR y) r
    rw [setsM_cons] at h
    rcases List.mem_cons.1 h with rfl | h
    · refine ⟨y, r.takeWhile (belR y), rfl, by simp, ?_⟩
      have e : (fun z => belM (stR y (r.takeWhile (belR y))).owner (stR y (r.takeWhile (belR y))).ty z) = belR y := rfl
      show (y :: r).filter (belR y) = _
      rw [List.filter_cons, if_pos (belR_refl y)]
      congr 1
      rw (occs := .pos [1]) [hr]
      rw [List.filter_append, List.filter_eq_self.2 hall, List.filter_eq_nil_iff.2 (fun z hz => by rw [hno z hz]; simp), List.append_nil]
    · simp only [List.length_cons] at hn
      obtain ⟨y', r', e1, e2, e3⟩ := sets_filter n _ (by omega) hst s h
      refine ⟨y', r', e1, List.mem_cons_of_mem _ ((List.dropWhile_sublist _).subset e2), ?_⟩
      have hb : ∀ z, belR y z = true → belM s.owner s.ty z = false := fun z hz => by
        cases hh : belM s.owner s.ty z with
        | false => rfl
        | true =>
          exfalso
          have h5 : belR y' z = true := by rw [e1] at hh; exact hh
          have h6 := hno y' e2
          have k1 := (keyR_zero z y').2 h5
          have k2 := (keyR_zero z y).2 hz
          have : belR z y' = true := (keyR_zero y' z).1 (keyR_sym k1)
          have h7 : belR z y = true := (keyR_zero y z).1 (keyR_sym k2)
          rw [belR_trans h7 this] at h6; cases h6
      rw [List.filter_cons, if_neg (by rw [hb y (belR_refl y)]; simp)]
      rw (occs := .pos [1]) [hr]
      rw [List.filter_append, List.filter_eq_nil_iff.2 (fun z hz => by rw [hb z (hall z hz)]; simp), List.nil_append, e3]
def ofM (l : List Rc) (o : Nm) (t : Int) : Option St := (setsM (canonM (l.filter (belM o t)))).head?
theorem sets_count : ∀ (n : Nat) (c : List Rc), c.length ≤ n → ((setsM c).map fun s => s.data.length).sum = c.length
  | 0, c, hn => by
    obtain rfl : c = [] := List.eq_nil_of_length_eq_zero (by omega)
    rfl
  | n + 1, [], _ => rfl
  | n + 1, y :: r, hn => by
    have hl : (r.dropWhile (belR y)).length ≤ r.length := (List.dropWhile_sublist _).length_le
    simp only [List.length_cons] at hn
    have hr : (r.takeWhile (belR y)).length + (r.dropWhile (belR y)).length = r.length := by
      rw [← List.length_append, List.takeWhile_append_dropWhile]
    rw [setsM_cons, List.map_cons, List.sum_cons, sets_count n _ (by omega)]
    simp only [stR, List.length_cons, List.length_map]
    omega
end Go.Proofs.YtckammgnmgkieaaGreat

/-
  Records in memory; rec.Compare, rec.Same.
-/
namespace Go.Proofs.YtckammgnmgkieaaGreat
set_option maxRecDepth 20000
open Go.RowKit Go.Shelf
set_option linter.unusedVariables false
set_option linter.unusedSimpArgs false

def RcAt (W : World) (cs : List Value) (r : Rc) : Prop :=
  ∃ vo vn vu vt vr, cs = [vo, .int .u32 (r.ttl : Int), .int .i64 r.data.ty, vn, vu, vt, vr] ∧ NmAt W vo r.owner ∧ DatAt W (.agg #[.int .i64 r.data.ty, vn, vu, vt, vr]) r.data
def RcOK (r : Rc) : Prop := NmOK r.owner ∧ r.ttl < 2 ^ 32 ∧ DatOK r.data
theorem RcAt.below {W W' : World} {cs : List Value} {r : Rc} (h : RcAt W cs r) (hb : Below W.heap.size W W') : RcAt W' cs r := by
  obtain ⟨vo, vn, vu, vt, vr, e, h1, h2⟩ := h
  exact ⟨vo, vn, vu, vt, vr, e, h1.below hb, h2.below hb⟩

set_option maxRecDepth 100000 in
set_option maxHeartbeats 4000000 in
theorem rec_Compare (cs cs' : List Value) (a b : Rc) (w : World) (hA : RcAt w cs a) (hU : RcAt w cs' b) (hk : RcOK a) (hk2 : RcOK b) :
    Calls Tryz.prog 114 #[.agg cs.toArray, .agg cs'.toArray] w fun e w' => e = .returned (.int .i64 (compareR a b)) ∧ Below w.heap.size w w' := by
  obtain ⟨vo, vn, vu, vt, vr, rfl, a1, a2⟩ := hA
  obtain ⟨uo, un, uu, ut, ur, rfl, b1, b2⟩ := hU
  have hb0 := fun o o' => ((Below.refl w.heap.size w).alloc (Nat.le_refl _) o).alloc (o := o') (by simp)
  have HN := Lib.hid (fun W (hb : Below w.heap.size w W) => kn_NCompare vo uo a.owner b.owner _ rfl W (a1.below hb) (b1.below hb) hk.1 hk2.1)
  have HD := Lib.hid (fun W (hb : Below w.heap.size w W) => rdata_Compare _ _ a.data b.data W (a2.below hb) (b2.below hb) hk.2.2 hk2.2.2)
  have hR := Lib.hid (show compareR a b = orI (compareN a.owner b.owner) (compareD a.data b.data) from rfl)
  generalize compareR a b = r at *
  generalize compareN a.owner b.owner = q at *
  generalize compareD a.data b.data = q2 at *
  generalize a.data.ty = x at *
  generalize b.data.ty = y at *
  generalize (a.ttl : Int) = ta at *
  generalize (b.ttl : Int) = tb at *
  obtain ⟨O1, hO1⟩ : ∃ O, O = Obj.cells #[vo, .int .u32 ta, .int .i64 x, vn, vu, vt, vr] 103 := ⟨_, rfl⟩
  obtain ⟨O2, hO2⟩ : ∃ O, O = Obj.cells #[uo, .int .u32 tb, .int .i64 y, un, uu, ut, ur] 103 := ⟨_, rfl⟩
  have hbb := hb0 O1 O2
  have HBB := Lib.hid hbb
  have hn := HN.out _ hbb
  have k1 : ((w.alloc O1).alloc O2).heap[w.heap.size]? = some O1 := (Below.heap_alloc (w.alloc O1) O2 w.heap.size (by simp)).trans (knew w O1)
  have k2 : ((w.alloc O1).alloc O2).heap[w.heap.size + 1]? = some O2 := by have := knew (w.alloc O1) O2; simpa using this
  rw [hO1] at k1 k2 hn HBB
  rw [hO2] at k1 k2 hn HBB
  have K1 := Lib.hid k1; have K2 := Lib.hid k2
  clear k1 k2 hbb hb0 a1 a2 b1 b2 hk hk2 hO1 hO2
  by_cases hq : q = 0
  · subst hq
    have HR : Hid (r = q2) := Lib.hid (by rw [hR.out]; rfl)
    clear hR
    go_enter Tryz.func114, Tryz.ntmps114
    go_wp2_with fail
    refine hn.mono ?_
    rintro e w1 ⟨rfl, hb1⟩
    have HB1 := Lib.hid (HBB.out.trans (hb1.mono HBB.out.size))
    have c1 := (hb1.block _ (kblock_lt K1.out)).trans K1.out
    have c2 := (hb1.block _ (kblock_lt K2.out)).trans K2.out
    have p2 := kcell c1 2 _ rfl; have p3 := kcell c1 3 _ rfl; have p4 := kcell c1 4 _ rfl; have p5 := kcell c1 5 _ rfl; have p6 := kcell c1 6 _ rfl
    have r2 := kcell c2 2 _ rfl; have r3 := kcell c2 3 _ rfl; have r4 := kcell c2 4 _ rfl; have r5 := kcell c2 5 _ rfl; have r6 := kcell c2 6 _ rfl
    clear hb1 c1 c2 hn
    have hd := HD.out w1 HB1.out
    go_wp2_with fail
    refine hd.mono ?_
    rintro e w2 ⟨rfl, hb2⟩
    go_wp2
    go_ret
    exact ⟨by rw [HR.out]; rfl, HB1.out.trans (hb2.mono HB1.out.size)⟩
  · have HR : Hid (r = q) := Lib.hid (by rw [hR.out]; unfold orI; rw [if_neg hq])
    have hqz : (q == 0) = false := by simpa using hq
    have hqn : (q != 0) = true := by simpa using hq
    clear hR
    go_enter Tryz.func114, Tryz.ntmps114
    go_wp2_with fail
    refine hn.mono ?_
    rintro e w1 ⟨rfl, hb1⟩
    have HB1 := Lib.hid (HBB.out.trans (hb1.mono HBB.out.size))
    clear hb1 hn
    go_wp2
    go_ret
    exact ⟨by rw [HR.out]; rfl, HB1.out⟩

set_option maxRecDepth 100000 in
set_option maxHeartbeats 4000000 in
theorem rec_Same (cs cs' : List Value) (a b : Rc) (w : World) (hA : RcAt w cs a) (hU : RcAt w cs' b) (hk : RcOK a) (hk2 : RcOK b) :
    Calls Tryz.prog 115 #[.agg cs.toArray, .agg cs'.toArray] w fun e w' => e = .returned (.bool (sameR a b)) ∧ Below w.heap.size w w' := by
  obtain ⟨vo, vn, vu, vt, vr, rfl, a1, a2⟩ := hA
  obtain ⟨uo, un, uu, ut, ur, rfl, b1, b2⟩ := hU
  have hb0 := fun o o' => ((Below.refl w.heap.size w).alloc (Nat.le_refl _) o).alloc (o := o') (by simp)
  have HN := Lib.hid (fun W (hb : Below w.heap.size w W) => kn_NSame vo uo a.owner b.owner _ rfl W (a1.below hb) (b1.below hb) hk.1 hk2.1)
  have HD := Lib.hid (fun W (hb : Below w.heap.size w W) => rdata_Same _ _ a.data b.data W (a2.below hb) (b2.below hb) hk.2.2 hk2.2.2)
  have hR := Lib.hid (show sameR a b = (sameN a.owner b.owner && (compareD a.data b.data == 0)) from by
    unfold sameR compareR orI
    have h0 := compareN_zero a.owner b.owner
    by_cases h : compareN a.owner b.owner = 0
    · rw [if_pos h, h0.1 h, Bool.true_and]
    · rw [if_neg h]
      have h2 : sameN a.owner b.owner = false := by
        cases hs : sameN a.owner b.owner
        · rfl
        · exact absurd (h0.2 hs) h
      rw [h2]; simpa using h)
  generalize sameR a b = r at *
  generalize sameN a.owner b.owner = q at *
  generalize (compareD a.data b.data == 0) = q2 at *
  generalize a.data.ty = x at *
  generalize b.data.ty = y at *
  generalize (a.ttl : Int) = ta at *
  generalize (b.ttl : Int) = tb at *
  obtain ⟨O1, hO1⟩ : ∃ O, O = Obj.cells #[vo, .int .u32 ta, .int .i64 x, vn, vu, vt, vr] 103 := ⟨_, rfl⟩
  obtain ⟨O2, hO2⟩ : ∃ O, O = Obj.cells #[uo, .int .u32 tb, .int .i64 y, un, uu, ut, ur] 103 := ⟨_, rfl⟩
  have hbb := hb0 O1 O2
  have HBB := Lib.hid hbb
  have hn := HN.out _ hbb
  have k1 : ((w.alloc O1).alloc O2).heap[w.heap.size]? = some O1 := (Below.heap_alloc (w.alloc O1) O2 w.heap.size (by simp)).trans (knew w O1)
  have k2 : ((w.alloc O1).alloc O2).heap[w.heap.size + 1]? = some O2 := by have := knew (w.alloc O1) O2; simpa using this
  rw [hO1] at k1 k2 hn HBB
  rw [hO2] at k1 k2 hn HBB
  have K1 := Lib.hid k1; have K2 := Lib.hid k2
  clear k1 k2 hbb hb0 a1 a2 b1 b2 hk hk2 hO1 hO2
  cases q
  · have HR : Hid (r = false) := Lib.hid (by rw [hR.out]; rfl)
    clear hR
    go_enter Tryz.func115, Tryz.ntmps115
    go_wp2_with fail
    refine hn.mono ?_
    rintro e w1 ⟨rfl, hb1⟩
    have HB1 := Lib.hid (HBB.out.trans (hb1.mono HBB.out.size))
    clear hb1 hn
    go_wp2
    go_ret
    exact ⟨by rw [HR.out]; rfl, HB1.out⟩
  · have HR : Hid (r = q2) := Lib.hid (by rw [hR.out]; rfl)
    clear hR
    go_enter Tryz.func115, Tryz.ntmps115
    go_wp2_with fail
    refine hn.mono ?_
    rintro e w1 ⟨rfl, hb1⟩
    have HB1 := Lib.hid (HBB.out.trans (hb1.mono HBB.out.size))
    have c1 := (hb1.block _ (kblock_lt K1.out)).trans K1.out
    have c2 := (hb1.block _ (kblock_lt K2.out)).trans K2.out
    have p2 := kcell c1 2 _ rfl; have p3 := kcell c1 3 _ rfl; have p4 := kcell c1 4 _ rfl; have p5 := kcell c1 5 _ rfl; have p6 := kcell c1 6 _ rfl
    have r2 := kcell c2 2 _ rfl; have r3 := kcell c2 3 _ rfl; have r4 := kcell c2 4 _ rfl; have r5 := kcell c2 5 _ rfl; have r6 := kcell c2 6 _ rfl
    clear hb1 c1 c2 hn
    have hd := HD.out w1 HB1.out
    go_wp2_with fail
    refine hd.mono ?_
    rintro e w2 ⟨rfl, hb2⟩
    go_wp2
    go_ret
    exact ⟨by rw [HR.out]; rfl, HB1.out.trans (hb2.mono HB1.out.size)⟩
end Go.Proofs.YtckammgnmgkieaaGreat

/-
  The document's data: small helpers (apart, counts).
-/
namespace Go.Proofs.YtckammgnmgkieaaGreat
set_option maxRecDepth 20000
open Go.RowKit Go.Shelf

def countsM (t : Int) : Int × Int × Int :=
  if t = 1 then (0, 0, 4) else if t = 28 then (0, 0, 16) else if t = 2 ∨ t = 5 ∨ t = 12 ∨ t = 39 then (1, 0, 0) else if t = 15 then (1, 1, 0) else if t = 6 then (2, 5, 0) else if t = 16 then (0, 0, 0) else (0, 0, -1)
def CountsPost (t : Int) (w : World) (e : Ending) (w' : World) : Prop := e = .returned (.tuple #[.int .i64 (countsM t).1, .int .i64 (countsM t).2.1, .int .i64 (countsM t).2.2]) ∧ w' = w

set_option maxHeartbeats 2000000 in
theorem ref_counts (t : Int) (w : World) : Calls Tryz.prog 194 #[.int .i64 t] w (CountsPost t w) := by
  have lit : ∀ k : Int, t = k → ∀ c, countsM k = c → Calls Tryz.prog 194 #[.int .i64 k] w (fun e w' => e = .returned (.tuple #[.int .i64 c.1, .int .i64 c.2.1, .int .i64 c.2.2]) ∧ w' = w) → Calls Tryz.prog 194 #[.int .i64 t] w (CountsPost t w) := by
    rintro k rfl c rfl h; exact h
  by_cases h1 : t = 1
  · refine lit _ h1 _ rfl ?_
    go_enter Tryz.func194, Tryz.ntmps194
    go_wp2
    go_ret3
    exact ⟨rfl, rfl⟩
  by_cases h2 : t = 28
  · refine lit _ h2 _ rfl ?_
    go_enter Tryz.func194, Tryz.ntmps194
    go_wp2
    go_ret3
    exact ⟨rfl, rfl⟩
  by_cases h3 : t = 2
  · refine lit _ h3 _ rfl ?_
    go_enter Tryz.func194, Tryz.ntmps194
    go_wp2
    go_ret3
    exact ⟨rfl, rfl⟩
  by_cases h4 : t = 5
  · refine lit _ h4 _ rfl ?_
    go_enter Tryz.func194, Tryz.ntmps194
    go_wp2
    go_ret3
    exact ⟨rfl, rfl⟩
  by_cases h5 : t = 12
  · refine lit _ h5 _ rfl ?_
    go_enter Tryz.func194, Tryz.ntmps194
    go_wp2
    go_ret3
    exact ⟨rfl, rfl⟩
  by_cases h6 : t = 39
  · refine lit _ h6 _ rfl ?_
    go_enter Tryz.func194, Tryz.ntmps194
    go_wp2
    go_ret3
    exact ⟨rfl, rfl⟩
  by_cases h7 : t = 15
  · refine lit _ h7 _ rfl ?_
    go_enter Tryz.func194, Tryz.ntmps194
    go_wp2
    go_ret3
    exact ⟨rfl, rfl⟩
  by_cases h8 : t = 6
  · refine lit _ h8 _ rfl ?_
    go_enter Tryz.func194, Tryz.ntmps194
    go_wp2
    go_ret3
    exact ⟨rfl, rfl⟩
  by_cases h9 : t = 16
  · refine lit _ h9 _ rfl ?_
    go_enter Tryz.func194, Tryz.ntmps194
    go_wp2
    go_ret3
    exact ⟨rfl, rfl⟩
  have hc : countsM t = (0, 0, -1) := by
    unfold countsM
    rw [if_neg h1, if_neg h2, if_neg (by omega), if_neg h7, if_neg h8, if_neg h9]
  have HC := Lib.hid hc; clear hc lit
  have e1 : (t == 1) = false := by simpa using h1
  have e2 : (t == 28) = false := by simpa using h2
  have e3 : (t == 2) = false := by simpa using h3
  have e4 : (t == 5) = false := by simpa using h4
  have e5 : (t == 12) = false := by simpa using h5
  have e6 : (t == 39) = false := by simpa using h6
  have e7 : (t == 15) = false := by simpa using h7
  have e8 : (t == 6) = false := by simpa using h8
  have e9 : (t == 16) = false := by simpa using h9
  clear h1 h2 h3 h4 h5 h6 h7 h8 h9
  go_enter Tryz.func194, Tryz.ntmps194
  go_wp2
  go_ret3
  exact ⟨by rw [HC.out]; rfl, rfl⟩
end Go.Proofs.YtckammgnmgkieaaGreat

/-
  Data: what they may be, as plain functions and facts.
-/
namespace Go.Proofs.YtckammgnmgkieaaGreat
set_option maxRecDepth 20000
open Go.RowKit Go.Shelf

section
variable (f : List UInt8 → List UInt8 × Nat × Int)
variable {f}
end

def hexC (n : Nat) : UInt8 := if n < 10 then UInt8.ofNat (48 + n) else UInt8.ofNat (97 + (n - 10))
abbrev Wd := List UInt8 × Bool
def countedM (d : Dat) : Bool := decide (d.names.length = (countsM d.ty).1 ∧ d.nums.length = (countsM d.ty).2.1 ∧ (if d.ty = 16 then 1 ≤ d.texts.length ∧ d.texts.length ≤ 32 else d.texts.length = 0) ∧ (0 ≤ (countsM d.ty).2.2 → (d.raw.length : Int) = (countsM d.ty).2.2))
def checkNs : List Nm → Int
  | [] => 0
  | n :: r => if checkN n = 0 then checkNs r else checkN n
def longT (l : Nm) : Bool := l.any fun s => decide (255 < s.length)
def checkD (d : Dat) : Int :=
  if d.ty < 1 ∨ 65535 < d.ty then 6 else if countedM d = false then 2 else if checkNs d.names ≠ 0 then checkNs d.names
  else if d.ty = 15 ∧ 65535 < d.nums.headD 0 then 7 else if longT d.texts then 3 else if 1024 < d.raw.length then 3 else 0
theorem checkNs_snoc (l : List Nm) (n : Nm) : checkNs (l ++ [n]) = if checkNs l = 0 then checkN n else checkNs l := by
  induction l with
  | nil => simp only [List.nil_append, checkNs, if_true]; split <;> simp_all
  | cons x r ih =>
    have e : ∀ l, checkNs (x :: l) = if checkN x = 0 then checkNs l else checkN x := fun _ => rfl
    rw [List.cons_append]
    by_cases h : checkN x = 0
    · have e1 : ∀ l, checkNs (x :: l) = checkNs l := fun l => by rw [e, if_pos h]
      rw [e1, e1, ih]
    · have e1 : ∀ l, checkNs (x :: l) = checkN x := fun l => by rw [e, if_neg h]
      rw [e1, e1, if_neg h]
theorem checkNs_stop {a p : List Nm} (h : p <+: a) (hp : checkNs p ≠ 0) : checkNs a = checkNs p := by
  obtain ⟨t, rfl⟩ := h
  induction p with
  | nil => exact absurd rfl hp
  | cons x r ih =>
    simp only [List.cons_append, checkNs] at hp ⊢
    by_cases h : checkN x = 0
    · rw [if_pos h] at hp ⊢; rw [if_pos h]; exact ih hp
    · rw [if_neg h, if_neg h]

def Dat.of (t : Int) : Dat := ⟨t, [], [], [], []⟩
def hex2 (c : UInt8) : List UInt8 := [hexC (c.toNat / 16), hexC (c.toNat % 16)]
end Go.Proofs.YtckammgnmgkieaaGreat

/-
  rdata.counted, whatever the type.
-/
namespace Go.Proofs.YtckammgnmgkieaaGreat
set_option maxRecDepth 20000
open Go.RowKit Go.Shelf

theorem countedM_lit (d : Dat) (a b r : Nat) (h : countsM d.ty = ((a : Int), (b : Int), (r : Int))) (h16 : d.ty ≠ 16) : countedM d = decide (d.names.length = a ∧ d.nums.length = b ∧ d.texts.length = 0 ∧ d.raw.length = r) := by
  unfold countedM
  rw [h]
  apply decide_eq_decide.2
  rw [if_neg h16]
  show (d.names.length : Int) = (a : Int) ∧ (d.nums.length : Int) = (b : Int) ∧ _ ∧ ((0 : Int) ≤ (r : Int) → (d.raw.length : Int) = (r : Int)) ↔ _
  constructor
  · rintro ⟨h1, h2, h3, h4⟩
    have := h4 (by omega)
    exact ⟨by omega, by omega, h3, by omega⟩
  · rintro ⟨h1, h2, h3, h4⟩
    exact ⟨by omega, by omega, h3, fun _ => by omega⟩
end Go.Proofs.YtckammgnmgkieaaGreat

