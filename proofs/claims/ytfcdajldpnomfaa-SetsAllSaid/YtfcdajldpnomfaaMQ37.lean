/-
  rdata.Compare, rdata.Same.
-/
import Derived.Test.YtfcdajldpnomfaaMQ17
namespace Go.Proofs.Ytfcdajldpnomfaa
set_option maxRecDepth 20000
open Go.RowKit Go.Shelf

/-- What compares the j-th items. -/
def csOf {α : Type} (f : α → α → Int) (a b : List α) (j : Nat) : Int := if h : j < a.length ∧ j < b.length then f (a[j]'h.1) (b[j]'h.2) else 0
theorem csOf_at {α : Type} {f : α → α → Int} {a b : List α} {j : Nat} (h1 : j < a.length) (h2 : j < b.length) : csOf f a b j = f a[j] b[j] := by unfold csOf; rw [dif_pos ⟨h1, h2⟩]

theorem lists_names (v u : Value) (a b : List Nm) (w : World) (hA : NmsAt w v a) (hU : NmsAt w u b) (hs : a.length ≤ 1048576) (hs2 : b.length ≤ 1048576) (hk : ∀ n ∈ a, NmOK n) (hk2 : ∀ n ∈ b, NmOK n) :
    Calls Try.prog 51 #[v, u, .func (.func 43) #[] #[]] w fun e w' => e = .returned (.int .i64 (cmpL compareN a b)) ∧ Below w.heap.size w w' := by
  obtain ⟨vs, h1, hl, h2⟩ := hA
  obtain ⟨us, g1, gl, g2⟩ := hU
  refine (listsNm v u vs us (csOf compareN a b) w h1 g1 (by omega) (by omega) ?_).mono ?_
  · intro W hB j j1 j2
    rw [csOf_at (by omega) (by omega)]
    exact name_Compare _ _ _ _ W ((h2 j j1).below hB).1 ((g2 j j2).below hB).1 (hk _ (List.getElem_mem _)) (hk2 _ (List.getElem_mem _))
  · rintro e w' ⟨⟨r, rfl, hr⟩, hB⟩
    rw [hl, gl] at hr
    exact ⟨by rw [firstC_cmpL (fun j j1 j2 => csOf_at j1 j2) hr], hB⟩
theorem lists_nums (v u : Value) (a b : List Nat) (w : World) (hA : SlAt w v (a.map u32V)) (hU : SlAt w u (b.map u32V)) (hs : a.length ≤ 1048576) (hs2 : b.length ≤ 1048576) :
    Calls Try.prog 52 #[v, u, .func (.func 53) #[] #[]] w fun e w' => e = .returned (.int .i64 (cmpL cmpU a b)) ∧ Below w.heap.size w w' := by
  refine (listsU32 v u _ _ (csOf cmpU a b) w hA hU (by simpa using hs) (by simpa using hs2) ?_).mono ?_
  · intro W hB j j1 j2
    rw [csOf_at (by simpa using j1) (by simpa using j2), List.getElem_map, List.getElem_map]
    refine (cmp_u32 _ _ W).mono ?_
    rintro e w' ⟨rfl, rfl⟩
    exact ⟨rfl, Below.refl _ _⟩
  · rintro e w' ⟨⟨r, rfl, hr⟩, hB⟩
    rw [List.length_map, List.length_map] at hr
    exact ⟨by rw [firstC_cmpL (fun j j1 j2 => csOf_at j1 j2) hr], hB⟩
theorem lists_texts (v u : Value) (a b : Nm) (w : World) (hA : NmAt w v a) (hU : NmAt w u b) (hs : a.length ≤ 1048576) (hs2 : b.length ≤ 1048576) :
    Calls Try.prog 54 #[v, u, .func (.func 55) #[] #[]] w fun e w' => e = .returned (.int .i64 (cmpL orderM a b)) ∧ Below w.heap.size w w' := by
  refine (listsStr v u _ _ (csOf orderM a b) w (nmAt_sl.1 hA) (nmAt_sl.1 hU) (by simpa using hs) (by simpa using hs2) ?_).mono ?_
  · intro W hB j j1 j2
    rw [csOf_at (by simpa using j1) (by simpa using j2), List.getElem_map, List.getElem_map]
    refine (cmp_str _ _ W).mono ?_
    rintro e w' ⟨rfl, rfl⟩
    exact ⟨rfl, Below.refl _ _⟩
  · rintro e w' ⟨⟨r, rfl, hr⟩, hB⟩
    rw [List.length_map, List.length_map] at hr
    exact ⟨by rw [firstC_cmpL (fun j j1 j2 => csOf_at j1 j2) hr], hB⟩
theorem lists_raw (v u : Value) (a b : List UInt8) (w : World) (hA : SlAt w v (a.map bv)) (hU : SlAt w u (b.map bv)) (hs : a.length ≤ 1048576) (hs2 : b.length ≤ 1048576) :
    Calls Try.prog 56 #[v, u, .func (.func 57) #[] #[]] w fun e w' => e = .returned (.int .i64 (cmpL cmpB a b)) ∧ Below w.heap.size w w' := by
  refine (listsU8 v u _ _ (csOf cmpB a b) w hA hU (by simpa using hs) (by simpa using hs2) ?_).mono ?_
  · intro W hB j j1 j2
    rw [csOf_at (by simpa using j1) (by simpa using j2), List.getElem_map, List.getElem_map]
    refine (cmp_u8 _ _ W).mono ?_
    rintro e w' ⟨rfl, rfl⟩
    exact ⟨rfl, Below.refl _ _⟩
  · rintro e w' ⟨⟨r, rfl, hr⟩, hB⟩
    rw [List.length_map, List.length_map] at hr
    exact ⟨by rw [firstC_cmpL (fun j j1 j2 => csOf_at j1 j2) hr], hB⟩

theorem cmp_Or5 (W : World) (a b c d f : Int) :
    Calls Try.prog 49 #[.slice (some ⟨W.heap.size, 0, none⟩) 5 5] (W.alloc (.cells #[.int .i64 a, .int .i64 b, .int .i64 c, .int .i64 d, .int .i64 f] 3)) fun e w' => e = .returned (.int .i64 (orI a (orI b (orI c (orI d f))))) ∧ w' = W.alloc (.cells #[.int .i64 a, .int .i64 b, .int .i64 c, .int .i64 d, .int .i64 f] 3) := by
  refine (cmp_Or W.heap.size 5 [a, b, c, d, f] _ (by simp) ?_).mono ?_
  · intro j h
    have e := cells_new W [.int .i64 a, .int .i64 b, .int .i64 c, .int .i64 d, .int .i64 f] 3 j (.int .i64 ([a, b, c, d, f][j])) (by
      have : ([.int .i64 a, .int .i64 b, .int .i64 c, .int .i64 d, .int .i64 f] : List Value) = [a, b, c, d, f].map (.int .i64) := rfl
      rw [this, List.getElem?_map, List.getElem?_eq_getElem h]; rfl)
    rw [Go.WideShapes.add_plain, Nat.zero_add] at e
    exact e
  · rintro e w' ⟨rfl, rfl⟩
    refine ⟨?_, rfl⟩
    have : (if f = 0 then 0 else f) = f := by split <;> omega
    simp only [firstNZ, orI, this]

theorem keepD {n : Nat} {w W W' : World} {A B : Nat} {vn vu vt vr un uu ut ur : Value} {x y : Int}
    (h : W.cell? ⟨A, 0, none⟩ = some (.int .i64 x) ∧ W.cell? ⟨A, 1, none⟩ = some vn ∧ W.cell? ⟨A, 2, none⟩ = some vu ∧ W.cell? ⟨A, 3, none⟩ = some vt ∧ W.cell? ⟨A, 4, none⟩ = some vr ∧
      W.cell? ⟨B, 0, none⟩ = some (.int .i64 y) ∧ W.cell? ⟨B, 1, none⟩ = some un ∧ W.cell? ⟨B, 2, none⟩ = some uu ∧ W.cell? ⟨B, 3, none⟩ = some ut ∧ W.cell? ⟨B, 4, none⟩ = some ur ∧ Below n w W)
    (hb : Below n W W') (hA : A < n) (hB : B < n) :
    W'.cell? ⟨A, 0, none⟩ = some (.int .i64 x) ∧ W'.cell? ⟨A, 1, none⟩ = some vn ∧ W'.cell? ⟨A, 2, none⟩ = some vu ∧ W'.cell? ⟨A, 3, none⟩ = some vt ∧ W'.cell? ⟨A, 4, none⟩ = some vr ∧
      W'.cell? ⟨B, 0, none⟩ = some (.int .i64 y) ∧ W'.cell? ⟨B, 1, none⟩ = some un ∧ W'.cell? ⟨B, 2, none⟩ = some uu ∧ W'.cell? ⟨B, 3, none⟩ = some ut ∧ W'.cell? ⟨B, 4, none⟩ = some ur ∧ Below n w W' := by
  obtain ⟨a0, a1, a2, a3, a4, b0, b1, b2, b3, b4, hw⟩ := h
  exact ⟨(hb.cell hA).trans a0, (hb.cell hA).trans a1, (hb.cell hA).trans a2, (hb.cell hA).trans a3, (hb.cell hA).trans a4, (hb.cell hB).trans b0, (hb.cell hB).trans b1, (hb.cell hB).trans b2, (hb.cell hB).trans b3, (hb.cell hB).trans b4, hw.trans hb⟩
end Go.Proofs.Ytfcdajldpnomfaa

