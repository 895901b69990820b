import Derived.Test.YtnpnfajgphpabaaGreatMQ24
import Derived.Test.YtnpnfajgphpabaaGreatMQ30
namespace Go.Proofs.YtnpnfajgphpabaaGreat
set_option maxRecDepth 20000
open Go.RowKit Go.Shelf
def csOf {α : Type} (f : α → α → Int) (a b : List α) (j : Nat) : Int := if h : j < a.length ∧ j < b.length then f (a[j]'h.1) (b[j]'h.2) else 0
theorem qbF {α : Type} {f : α → α → Int} {a b : List α} {j : Nat} (h1 : j < a.length) (h2 : j < b.length) : csOf f a b j = f a[j] b[j] := by unfold csOf; rw [dif_pos ⟨h1, h2⟩]
theorem qhc (v u : Value) (a b : List Nm) (w : World) (hA : NmsAt w v a) (hU : NmsAt w u b) (hs : a.length ≤ 1048576) (hs2 : b.length ≤ 1048576) (hk : ∀ n ∈ a, NmOK n) (hk2 : ∀ n ∈ b, NmOK n) :
 Calls Tryz.prog 103 #[v, u, .func (.func 38) #[] #[]] w fun e w' => e = .returned (.int .i64 (cmpL qai a b)) ∧ Below w.heap.size w w' := by
 obtain ⟨vs, h1, hl, h2⟩ := hA
 obtain ⟨us, g1, gl, g2⟩ := hU
 refine (qlu v u vs us (csOf qai a b) w h1 g1 (by omega) (by omega) ?_).mono ?_
 ·intro W hB j j1 j2
  rw [qbF (by omega) (by omega)]
  exact qdN _ _ _ _ W ((h2 j j1).below hB).1 ((g2 j j2).below hB).1 (hk _ (List.getElem_mem _)) (hk2 _ (List.getElem_mem _))
 ·rintro e w' ⟨⟨r, rfl, hr⟩, hB⟩
  rw [hl, gl] at hr
  exact ⟨by rw [qbY (fun j j1 j2 => qbF j1 j2) hr], hB⟩
theorem qir (v u : Value) (a b : List Nat) (w : World) (hA : SlAt w v (a.map u32V)) (hU : SlAt w u (b.map u32V)) (hs : a.length ≤ 1048576) (hs2 : b.length ≤ 1048576) :
 Calls Tryz.prog 104 #[v, u, .func (.func 105) #[] #[]] w fun e w' => e = .returned (.int .i64 (cmpL cmpU a b)) ∧ Below w.heap.size w w' := by
 refine (qjP v u _ _ (csOf cmpU a b) w hA hU (by simpa using hs) (by simpa using hs2) ?_).mono ?_
 ·intro W hB j j1 j2
  rw [qbF (by simpa using j1) (by simpa using j2), List.getElem_map, List.getElem_map]
  refine (qlj _ _ W).mono ?_
  rintro e w' ⟨rfl, rfl⟩
  exact ⟨rfl, qL0⟩
 ·rintro e w' ⟨⟨r, rfl, hr⟩, hB⟩
  rw [List.length_map, List.length_map] at hr
  exact ⟨by rw [qbY (fun j j1 j2 => qbF j1 j2) hr], hB⟩
theorem qhq (v u : Value) (a b : Nm) (w : World) (hA : NmAt w v a) (hU : NmAt w u b) (hs : a.length ≤ 1048576) (hs2 : b.length ≤ 1048576) :
 Calls Tryz.prog 106 #[v, u, .func (.func 107) #[] #[]] w fun e w' => e = .returned (.int .i64 (cmpL orderM a b)) ∧ Below w.heap.size w w' := by
 refine (qkB v u _ _ (csOf orderM a b) w (nmAt_sl.1 hA) (nmAt_sl.1 hU) (by simpa using hs) (by simpa using hs2) ?_).mono ?_
 ·intro W hB j j1 j2
  rw [qbF (by simpa using j1) (by simpa using j2), List.getElem_map, List.getElem_map]
  refine (qlp _ _ W).mono ?_
  rintro e w' ⟨rfl, rfl⟩
  exact ⟨rfl, qL0⟩
 ·rintro e w' ⟨⟨r, rfl, hr⟩, hB⟩
  rw [List.length_map, List.length_map] at hr
  exact ⟨by rw [qbY (fun j j1 j2 => qbF j1 j2) hr], hB⟩
theorem qjA (v u : Value) (a b : List UInt8) (w : World) (hA : SlAt w v (a.map bv)) (hU : SlAt w u (b.map bv)) (hs : a.length ≤ 1048576) (hs2 : b.length ≤ 1048576) :
 Calls Tryz.prog 108 #[v, u, .func (.func 93) #[] #[]] w fun e w' => e = .returned (.int .i64 (cmpL cmpB a b)) ∧ Below w.heap.size w w' := by
 refine (qkR v u _ _ (csOf cmpB a b) w hA hU (by simpa using hs) (by simpa using hs2) ?_).mono ?_
 ·intro W hB j j1 j2
  rw [qbF (by simpa using j1) (by simpa using j2), List.getElem_map, List.getElem_map]
  refine (cmp_u8 _ _ W).mono ?_
  rintro e w' ⟨rfl, rfl⟩
  exact ⟨rfl, qL0⟩
 ·rintro e w' ⟨⟨r, rfl, hr⟩, hB⟩
  rw [List.length_map, List.length_map] at hr
  exact ⟨by rw [qbY (fun j j1 j2 => qbF j1 j2) hr], hB⟩
theorem qk5 (W : World) (a b c d f : Int) :
 Calls Tryz.prog 37 #[.slice (some ⟨W.heap.size, 0, none⟩) 5 5] (W.alloc (.cells #[.int .i64 a, .int .i64 b, .int .i64 c, .int .i64 d, .int .i64 f] 3)) fun e w' => e = .returned (.int .i64 (orI a (orI b (orI c (orI d f))))) ∧ w' = W.alloc (.cells #[.int .i64 a, .int .i64 b, .int .i64 c, .int .i64 d, .int .i64 f] 3) := by
 refine (cmp_Or W.heap.size 5 [a, b, c, d, f] _ (by simp) ?_).mono ?_
 ·intro j h
  have e := qba W [.int .i64 a, .int .i64 b, .int .i64 c, .int .i64 d, .int .i64 f] 3 j (.int .i64 ([a, b, c, d, f][j])) (by
   have : ([.int .i64 a, .int .i64 b, .int .i64 c, .int .i64 d, .int .i64 f] : List Value) = [a, b, c, d, f].map (.int .i64) := rfl
   rw [this, List.getElem?_map, List.getElem?_eq_getElem h]; rfl)
  rw [Go.WideShapes.add_plain, Nat.zero_add] at e
  exact e
 ·rintro e w' ⟨rfl, rfl⟩
  refine ⟨?_, rfl⟩
  have : (if f = 0 then 0 else f) = f := by split <;> omega
  simp only [qbq, orI, this]
end Go.Proofs.YtnpnfajgphpabaaGreat
