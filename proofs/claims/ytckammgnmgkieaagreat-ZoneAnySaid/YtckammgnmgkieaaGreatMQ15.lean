/-
  cmp.Compare at uint32 and at string; cmp.Or at int.
-/
import Derived.Test.YtckammgnmgkieaaGreatMQ34
import Derived.Test.YtckammgnmgkieaaGreatMQ38
import Derived.Test.YtckammgnmgkieaaGreatMQ37
import Derived.Deep.RegionHeld3
import Derived.Test.YtckammgnmgkieaaGreatMQ18
namespace Go.Proofs.YtckammgnmgkieaaGreat
set_option maxRecDepth 20000
open Go.RowKit Go.Shelf

set_option maxHeartbeats 400000 in
theorem nan_u32 (a : Int) (w : World) : Calls Tryz.prog 204 #[.int .u32 a] w fun e w' => e = .returned (.bool false) ∧ w = w' := by
  go_enter Tryz.func204, Tryz.ntmps204
  go_wp2
  go_ret
  exact ⟨ret_bool (by simp), rfl⟩
set_option maxHeartbeats 400000 in
theorem cmp_u32 (a b : Int) (w : World) : Calls Tryz.prog 180 #[.int .u32 a, .int .u32 b] w fun e w' => e = .returned (.int .i64 (cmpI a b)) ∧ w = w' := by
  go_enter Tryz.func180, Tryz.ntmps180
  go_wp2_with (go_at_call 204; refine (nan_u32 _ _).mono ?_; rintro e w' ⟨rfl, rfl⟩)
  all_goals go_ret
  all_goals refine ⟨ret_int ?_, rfl⟩
  · have h : a < b := by assumption
    show -1 = _; rw [cmpI, if_pos h]
  · have h : b ≤ a := by assumption
    have h2 : b < a := by assumption
    show 1 = _; rw [cmpI, if_neg (by omega), if_pos h2]
  · have h : b ≤ a := by assumption
    have h2 : a ≤ b := by assumption
    show 0 = _; rw [cmpI, if_neg (by omega), if_neg (by omega)]

set_option maxHeartbeats 400000 in
theorem nan_str (a : ByteArray) (w : World) : Calls Tryz.prog 206 #[.string a] w fun e w' => e = .returned (.bool false) ∧ w = w' := by
  go_enter Tryz.func206, Tryz.ntmps206
  go_wp2
  go_ret
  exact ⟨ret_bool (by simp), rfl⟩
set_option maxHeartbeats 1000000 in
theorem cmp_str (a b : ByteArray) (w : World) : Calls Tryz.prog 182 #[.string a, .string b] w fun e w' => e = .returned (.int .i64 (orderM a.data.toList b.data.toList)) ∧ w = w' := by
  have hA := toList_data a
  have hB := toList_data b
  have HA := Lib.hid hA; have HB := Lib.hid hB; clear hA hB
  cases h1 : Op.bytesLess a.toList b.toList with
  | true =>
    have r : orderM a.data.toList b.data.toList = -1 := by unfold orderM; rw [← HA.out, ← HB.out, if_pos h1]
    have R := Lib.hid r; clear r
    go_enter Tryz.func182, Tryz.ntmps182
    go_wp2_with (go_at_call 206; refine (nan_str _ _).mono ?_; rintro e w' ⟨rfl, rfl⟩)
    go_ret
    exact ⟨ret_int R.out.symm, rfl⟩
  | false =>
    have h1n : ¬ Op.bytesLess a.toList b.toList = true := by rw [h1]; simp
    by_cases h2 : (a.toList == b.toList) = true
    · have r : orderM a.data.toList b.data.toList = 0 := by unfold orderM; rw [← HA.out, ← HB.out, if_neg h1n, if_pos (by simpa using h2)]
      have R := Lib.hid r; clear r h1n
      go_enter Tryz.func182, Tryz.ntmps182
      go_wp2_with (go_at_call 206; refine (nan_str _ _).mono ?_; rintro e w' ⟨rfl, rfl⟩)
      go_ret
      exact ⟨ret_int R.out.symm, rfl⟩
    · have h2f : (a.toList == b.toList) = false := by simpa using h2
      have r : orderM a.data.toList b.data.toList = 1 := by unfold orderM; rw [← HA.out, ← HB.out, if_neg h1n, if_neg (by simpa using h2)]
      have R := Lib.hid r; clear r h1n h2
      go_enter Tryz.func182, Tryz.ntmps182
      go_wp2_with (go_at_call 206; refine (nan_str _ _).mono ?_; rintro e w' ⟨rfl, rfl⟩)
      go_ret
      exact ⟨ret_int R.out.symm, rfl⟩

def firstNZ : List Int → Int
  | [] => 0
  | x :: r => if x = 0 then firstNZ r else x
theorem firstNZ_step (l : List Int) (k : Nat) (h : k < l.length) : firstNZ (l.drop k) = if l[k] = 0 then firstNZ (l.drop (k + 1)) else l[k] := by
  rw [List.drop_eq_getElem_cons h]; rfl
set_option maxHeartbeats 2000000 in
theorem cmp_Or (g c : Nat) (l : List Int) (w : World) (hm : l.length ≤ 1048576) (hc : ∀ j (h : j < l.length), w.cell? ⟨g, j, none⟩ = some (.int .i64 l[j])) :
    Calls Tryz.prog 128 #[.slice (some ⟨g, 0, none⟩) l.length c] w fun e w' => e = .returned (.int .i64 (firstNZ l)) ∧ w = w' := by
  have HC := Lib.hid hc; clear hc
  go_enter Tryz.func128, Tryz.ntmps128
  go_wp2
  go_loopw [8] (fun i wr => ∃ k : Nat, i = .int .i64 k ∧ k ≤ l.length ∧ Hid (firstNZ (l.drop k) = firstNZ l) ∧ w = wr) (fun i _ => l.length - (intOf i).toNat)
  case atStart => exact ⟨0, rfl, Nat.zero_le _, Lib.hid rfl, rfl⟩
  case round =>
    obtain ⟨k, rfl, hk, HD, rfl⟩ := hrel
    by_cases hlt : k < l.length
    · have hcell := HC.out k hlt
      have hst := firstNZ_step l k hlt
      generalize hx : l[k] = x at *
      have HS := Lib.hid hst
      clear hst hx
      by_cases h0 : (x != 0) = true
      · have hn : x ≠ 0 := by simpa using h0
        have HN := Lib.hid hn; clear hn
        go_wp2
        go_ret
        exact ⟨ret_int (by rw [← HD.out, HS.out, if_neg HN.out]), rfl⟩
      · have hn : (x != 0) = false := by simpa using h0
        have hz : x = 0 := by simpa using hn
        have HZ := Lib.hid hz; clear hz h0
        go_wp2
        go_roundw
        case rel => exact ⟨k + 1, by go_num, by omega, Lib.hid (by rw [← HD.out, HS.out, if_pos HZ.out]), trivial⟩
        case measure => simp [intOf]; omega
    · obtain rfl : k = l.length := by omega
      have HE := Lib.hid (show firstNZ l = 0 by rw [← HD.out, List.drop_of_length_le (Nat.le_refl _)]; rfl)
      go_wp2
      go_ret
      exact ⟨ret_int HE.out.symm, rfl⟩
end Go.Proofs.YtckammgnmgkieaaGreat

/-
  rdata.Compare, rdata.Same.
-/
namespace Go.Proofs.YtckammgnmgkieaaGreat
set_option maxRecDepth 20000
open Go.RowKit Go.Shelf

def csOf {α : Type} (f : α → α → Int) (a b : List α) (j : Nat) : Int := if h : j < a.length ∧ j < b.length then f (a[j]'h.1) (b[j]'h.2) else 0
theorem csOf_at {α : Type} {f : α → α → Int} {a b : List α} {j : Nat} (h1 : j < a.length) (h2 : j < b.length) : csOf f a b j = f a[j] b[j] := by unfold csOf; rw [dif_pos ⟨h1, h2⟩]

theorem lists_names (v u : Value) (a b : List Nm) (w : World) (hA : NmsAt w v a) (hU : NmsAt w u b) (hs : a.length ≤ 1048576) (hs2 : b.length ≤ 1048576) (hk : ∀ n ∈ a, NmOK n) (hk2 : ∀ n ∈ b, NmOK n) :
    Calls Tryz.prog 178 #[v, u, .func (.func 129) #[] #[]] w fun e w' => e = .returned (.int .i64 (cmpL compareN a b)) ∧ Below w.heap.size w w' := by
  obtain ⟨vs, h1, hl, h2⟩ := hA
  obtain ⟨us, g1, gl, g2⟩ := hU
  refine (listsNm v u vs us (csOf compareN a b) w h1 g1 (by omega) (by omega) ?_).mono ?_
  · intro W hB j j1 j2
    rw [csOf_at (by omega) (by omega)]
    exact name_Compare _ _ _ _ W ((h2 j j1).below hB).1 ((g2 j j2).below hB).1 (hk _ (List.getElem_mem _)) (hk2 _ (List.getElem_mem _))
  · rintro e w' ⟨⟨r, rfl, hr⟩, hB⟩
    rw [hl, gl] at hr
    exact ⟨by rw [firstC_cmpL (fun j j1 j2 => csOf_at j1 j2) hr], hB⟩
theorem lists_nums (v u : Value) (a b : List Nat) (w : World) (hA : SlAt w v (a.map u32V)) (hU : SlAt w u (b.map u32V)) (hs : a.length ≤ 1048576) (hs2 : b.length ≤ 1048576) :
    Calls Tryz.prog 179 #[v, u, .func (.func 180) #[] #[]] w fun e w' => e = .returned (.int .i64 (cmpL cmpU a b)) ∧ Below w.heap.size w w' := by
  refine (listsU32 v u _ _ (csOf cmpU a b) w hA hU (by simpa using hs) (by simpa using hs2) ?_).mono ?_
  · intro W hB j j1 j2
    rw [csOf_at (by simpa using j1) (by simpa using j2), List.getElem_map, List.getElem_map]
    refine (cmp_u32 _ _ W).mono ?_
    rintro e w' ⟨rfl, rfl⟩
    exact ⟨rfl, Below.refl _ _⟩
  · rintro e w' ⟨⟨r, rfl, hr⟩, hB⟩
    rw [List.length_map, List.length_map] at hr
    exact ⟨by rw [firstC_cmpL (fun j j1 j2 => csOf_at j1 j2) hr], hB⟩
theorem lists_texts (v u : Value) (a b : Nm) (w : World) (hA : NmAt w v a) (hU : NmAt w u b) (hs : a.length ≤ 1048576) (hs2 : b.length ≤ 1048576) :
    Calls Tryz.prog 181 #[v, u, .func (.func 182) #[] #[]] w fun e w' => e = .returned (.int .i64 (cmpL orderM a b)) ∧ Below w.heap.size w w' := by
  refine (listsStr v u _ _ (csOf orderM a b) w (nmAt_sl.1 hA) (nmAt_sl.1 hU) (by simpa using hs) (by simpa using hs2) ?_).mono ?_
  · intro W hB j j1 j2
    rw [csOf_at (by simpa using j1) (by simpa using j2), List.getElem_map, List.getElem_map]
    refine (cmp_str _ _ W).mono ?_
    rintro e w' ⟨rfl, rfl⟩
    exact ⟨rfl, Below.refl _ _⟩
  · rintro e w' ⟨⟨r, rfl, hr⟩, hB⟩
    rw [List.length_map, List.length_map] at hr
    exact ⟨by rw [firstC_cmpL (fun j j1 j2 => csOf_at j1 j2) hr], hB⟩
theorem lists_raw (v u : Value) (a b : List UInt8) (w : World) (hA : SlAt w v (a.map bv)) (hU : SlAt w u (b.map bv)) (hs : a.length ≤ 1048576) (hs2 : b.length ≤ 1048576) :
    Calls Tryz.prog 183 #[v, u, .func (.func 177) #[] #[]] w fun e w' => e = .returned (.int .i64 (cmpL cmpB a b)) ∧ Below w.heap.size w w' := by
  refine (listsU8 v u _ _ (csOf cmpB a b) w hA hU (by simpa using hs) (by simpa using hs2) ?_).mono ?_
  · intro W hB j j1 j2
    rw [csOf_at (by simpa using j1) (by simpa using j2), List.getElem_map, List.getElem_map]
    refine (cmp_u8 _ _ W).mono ?_
    rintro e w' ⟨rfl, rfl⟩
    exact ⟨rfl, Below.refl _ _⟩
  · rintro e w' ⟨⟨r, rfl, hr⟩, hB⟩
    rw [List.length_map, List.length_map] at hr
    exact ⟨by rw [firstC_cmpL (fun j j1 j2 => csOf_at j1 j2) hr], hB⟩

theorem cmp_Or5 (W : World) (a b c d f : Int) :
    Calls Tryz.prog 128 #[.slice (some ⟨W.heap.size, 0, none⟩) 5 5] (W.alloc (.cells #[.int .i64 a, .int .i64 b, .int .i64 c, .int .i64 d, .int .i64 f] 3)) fun e w' => e = .returned (.int .i64 (orI a (orI b (orI c (orI d f))))) ∧ w' = W.alloc (.cells #[.int .i64 a, .int .i64 b, .int .i64 c, .int .i64 d, .int .i64 f] 3) := by
  refine (cmp_Or W.heap.size 5 [a, b, c, d, f] _ (by simp) ?_).mono ?_
  · intro j h
    have e := cells_new W [.int .i64 a, .int .i64 b, .int .i64 c, .int .i64 d, .int .i64 f] 3 j (.int .i64 ([a, b, c, d, f][j])) (by
      have : ([.int .i64 a, .int .i64 b, .int .i64 c, .int .i64 d, .int .i64 f] : List Value) = [a, b, c, d, f].map (.int .i64) := rfl
      rw [this, List.getElem?_map, List.getElem?_eq_getElem h]; rfl)
    rw [Go.WideShapes.add_plain, Nat.zero_add] at e
    exact e
  · rintro e w' ⟨rfl, rfl⟩
    refine ⟨?_, rfl⟩
    have : (if f = 0 then 0 else f) = f := by split <;> omega
    simp only [firstNZ, orI, this]

end Go.Proofs.YtckammgnmgkieaaGreat

/-
  rdata.Compare, rdata.Same: the walk.
-/
namespace Go.Proofs.YtckammgnmgkieaaGreat
set_option maxRecDepth 20000
open Go.RowKit Go.Shelf

theorem new_at (w : World) (l : List Value) (T : TypeId) (j : Nat) (v : Value) (h : l[j]? = some v) : (w.alloc (.cells l.toArray T)).cell? ⟨w.heap.size, j, none⟩ = some v := by
  have e := cells_new w l T j v h
  rwa [Go.WideShapes.add_plain, Nat.zero_add] at e
theorem below_drew1 {n : Nat} {a w : World} (h : Below n a w) : Below n a w.drew := h.trans ⟨rfl, rfl, rfl, Nat.le_refl _, fun _ _ => rfl⟩

set_option maxRecDepth 100000 in
set_option maxHeartbeats 8000000 in
theorem rdata_Compare (v u : Value) (a b : Dat) (w : World) (hA : DatAt w v a) (hU : DatAt w u b) (hk : DatOK a) (hk2 : DatOK b) :
    Calls Tryz.prog 148 #[v, u] w fun e w' => e = .returned (.int .i64 (compareD a b)) ∧ Below w.heap.size w w' := by
  obtain ⟨vn, vu, vt, vr, rfl, a1, a2, a3, a4⟩ := hA
  obtain ⟨un, uu, ut, ur, rfl, b1, b2, b3, b4⟩ := hU
  obtain ⟨_, k1, k2, k3, _, k5, k6⟩ := hk
  obtain ⟨_, l1, l2, l3, _, l5, l6⟩ := hk2
  have hL1 := fun W (hB : Below w.heap.size w W) => lists_names vn un a.names b.names W (a1.below hB) (b1.below hB) k1 l1 k2 l2
  have hL2 := fun W (hB : Below w.heap.size w W) => lists_nums vu uu a.nums b.nums W (a2.below hB) (b2.below hB) k3 l3
  have hL3 := fun W (hB : Below w.heap.size w W) => lists_texts vt ut a.texts b.texts W (a3.below hB) (b3.below hB) k5.1 l5.1
  have hL4 := fun W (hB : Below w.heap.size w W) => lists_raw vr ur a.raw b.raw W (a4.below hB) (b4.below hB) k6 l6
  have hR := Lib.hid (show compareD a b = orI (cmpI a.ty b.ty) (orI (cmpL compareN a.names b.names) (orI (cmpL cmpU a.nums b.nums) (orI (cmpL orderM a.texts b.texts) (cmpL cmpB a.raw b.raw)))) from rfl)
  generalize compareD a b = r at *
  generalize cmpL compareN a.names b.names = q1 at *
  generalize cmpL cmpU a.nums b.nums = q2 at *
  generalize cmpL orderM a.texts b.texts = q3 at *
  generalize cmpL cmpB a.raw b.raw = q4 at *
  have hL0 := fun W => cmp_int a.ty b.ty W
  generalize cmpI a.ty b.ty = q0 at *
  generalize a.ty = x at *
  generalize b.ty = y at *
  have hO := fun W => cmp_Or5 W q0 q1 q2 q3 q4
  have hS0 : ∀ W0, ((w.alloc (.cells #[.int .i64 x, vn, vu, vt, vr] 101)).alloc (.cells #[.int .i64 y, un, uu, ut, ur] 101)) = W0 →
      W0.cell? ⟨w.heap.size, 0, none⟩ = some (.int .i64 x) ∧ W0.cell? ⟨w.heap.size, 1, none⟩ = some vn ∧ W0.cell? ⟨w.heap.size, 2, none⟩ = some vu ∧ W0.cell? ⟨w.heap.size, 3, none⟩ = some vt ∧ W0.cell? ⟨w.heap.size, 4, none⟩ = some vr ∧
      W0.cell? ⟨w.heap.size + 1, 0, none⟩ = some (.int .i64 y) ∧ W0.cell? ⟨w.heap.size + 1, 1, none⟩ = some un ∧ W0.cell? ⟨w.heap.size + 1, 2, none⟩ = some uu ∧ W0.cell? ⟨w.heap.size + 1, 3, none⟩ = some ut ∧ W0.cell? ⟨w.heap.size + 1, 4, none⟩ = some ur ∧ Below w.heap.size w W0 := by
    rintro W0 rfl
    have n1 := new_at w [.int .i64 x, vn, vu, vt, vr] 101
    have n2 := new_at (w.alloc (.cells #[.int .i64 x, vn, vu, vt, vr] 101)) [.int .i64 y, un, uu, ut, ur] 101
    rw [World.size_alloc] at n2
    have hb : Below (w.heap.size + 1) (w.alloc (.cells #[.int .i64 x, vn, vu, vt, vr] 101)) ((w.alloc (.cells #[.int .i64 x, vn, vu, vt, vr] 101)).alloc (.cells #[.int .i64 y, un, uu, ut, ur] 101)) := (Below.refl _ _).alloc (by simp) _
    have hlt : w.heap.size < w.heap.size + 1 := Nat.lt_succ_self _
    refine ⟨(hb.cell hlt).trans (n1 0 _ rfl), (hb.cell hlt).trans (n1 1 _ rfl), (hb.cell hlt).trans (n1 2 _ rfl), (hb.cell hlt).trans (n1 3 _ rfl), (hb.cell hlt).trans (n1 4 _ rfl), n2 0 _ rfl, n2 1 _ rfl, n2 2 _ rfl, n2 3 _ rfl, n2 4 _ rfl, ((Below.refl _ w).alloc (Nat.le_refl _) _).alloc (by simp) _⟩
  have hz0 : ∀ W0, ((w.alloc (.cells #[.int .i64 x, vn, vu, vt, vr] 101)).alloc (.cells #[.int .i64 y, un, uu, ut, ur] 101)) = W0 → W0.heap.size = w.heap.size + 2 := by
    rintro W0 rfl; simp
  have HS0 := Lib.hid hS0; have HZ0 := Lib.hid hz0
  clear hS0 hz0 a1 a2 a3 a4 b1 b2 b3 b4 k1 k2 k3 k5 k6 l1 l2 l3 l5 l6
  go_enter Tryz.func148, Tryz.ntmps148
  go_wp2
  generalize hW0 : ((w.alloc (.cells #[.int .i64 x, vn, vu, vt, vr] 101)).alloc (.cells #[.int .i64 y, un, uu, ut, ur] 101)) = W0
  have hS := HS0.out W0 hW0
  have hz := HZ0.out W0 hW0
  clear hW0
  have hS1 : W0.cell? ⟨w.heap.size, 0, none⟩ = some (.int .i64 x) ∧ W0.cell? ⟨w.heap.size, 1, none⟩ = some vn ∧ W0.cell? ⟨w.heap.size, 2, none⟩ = some vu ∧ W0.cell? ⟨w.heap.size, 3, none⟩ = some vt ∧ W0.cell? ⟨w.heap.size, 4, none⟩ = some vr ∧ W0.cell? ⟨w.heap.size + 1, 0, none⟩ = some (.int .i64 y) ∧ W0.cell? ⟨w.heap.size + 1, 1, none⟩ = some un ∧ W0.cell? ⟨w.heap.size + 1, 2, none⟩ = some uu ∧ W0.cell? ⟨w.heap.size + 1, 3, none⟩ = some ut ∧ W0.cell? ⟨w.heap.size + 1, 4, none⟩ = some ur ∧ Below w.heap.size w W0 ∧ w.heap.size + 2 ≤ W0.heap.size := ⟨hS.1, hS.2.1, hS.2.2.1, hS.2.2.2.1, hS.2.2.2.2.1, hS.2.2.2.2.2.1, hS.2.2.2.2.2.2.1, hS.2.2.2.2.2.2.2.1, hS.2.2.2.2.2.2.2.2.1, hS.2.2.2.2.2.2.2.2.2.1, hS.2.2.2.2.2.2.2.2.2.2, by omega⟩
  have KD : ∀ W W' : World, (W.cell? ⟨w.heap.size, 0, none⟩ = some (.int .i64 x) ∧ W.cell? ⟨w.heap.size, 1, none⟩ = some vn ∧ W.cell? ⟨w.heap.size, 2, none⟩ = some vu ∧ W.cell? ⟨w.heap.size, 3, none⟩ = some vt ∧ W.cell? ⟨w.heap.size, 4, none⟩ = some vr ∧ W.cell? ⟨w.heap.size + 1, 0, none⟩ = some (.int .i64 y) ∧ W.cell? ⟨w.heap.size + 1, 1, none⟩ = some un ∧ W.cell? ⟨w.heap.size + 1, 2, none⟩ = some uu ∧ W.cell? ⟨w.heap.size + 1, 3, none⟩ = some ut ∧ W.cell? ⟨w.heap.size + 1, 4, none⟩ = some ur ∧ Below w.heap.size w W ∧ w.heap.size + 2 ≤ W.heap.size) → Below (w.heap.size + 2) W W' → (W'.cell? ⟨w.heap.size, 0, none⟩ = some (.int .i64 x) ∧ W'.cell? ⟨w.heap.size, 1, none⟩ = some vn ∧ W'.cell? ⟨w.heap.size, 2, none⟩ = some vu ∧ W'.cell? ⟨w.heap.size, 3, none⟩ = some vt ∧ W'.cell? ⟨w.heap.size, 4, none⟩ = some vr ∧ W'.cell? ⟨w.heap.size + 1, 0, none⟩ = some (.int .i64 y) ∧ W'.cell? ⟨w.heap.size + 1, 1, none⟩ = some un ∧ W'.cell? ⟨w.heap.size + 1, 2, none⟩ = some uu ∧ W'.cell? ⟨w.heap.size + 1, 3, none⟩ = some ut ∧ W'.cell? ⟨w.heap.size + 1, 4, none⟩ = some ur ∧ Below w.heap.size w W' ∧ w.heap.size + 2 ≤ W'.heap.size) := by
    rintro W W' ⟨a0, a1, a2, a3, a4, b0, b1, b2, b3, b4, hw, hsz⟩ hb
    have hA : w.heap.size < w.heap.size + 2 := by omega
    have hB : w.heap.size + 1 < w.heap.size + 2 := by omega
    exact ⟨(hb.cell hA).trans a0, (hb.cell hA).trans a1, (hb.cell hA).trans a2, (hb.cell hA).trans a3, (hb.cell hA).trans a4, (hb.cell hB).trans b0, (hb.cell hB).trans b1, (hb.cell hB).trans b2, (hb.cell hB).trans b3, (hb.cell hB).trans b4, hw.trans (hb.mono (by omega)), Nat.le_trans hsz hb.size⟩
  have KS := Lib.hid (fun (W W' : World) (h : W.cell? ⟨w.heap.size, 0, none⟩ = some (.int .i64 x) ∧ W.cell? ⟨w.heap.size, 1, none⟩ = some vn ∧ W.cell? ⟨w.heap.size, 2, none⟩ = some vu ∧ W.cell? ⟨w.heap.size, 3, none⟩ = some vt ∧ W.cell? ⟨w.heap.size, 4, none⟩ = some vr ∧ W.cell? ⟨w.heap.size + 1, 0, none⟩ = some (.int .i64 y) ∧ W.cell? ⟨w.heap.size + 1, 1, none⟩ = some un ∧ W.cell? ⟨w.heap.size + 1, 2, none⟩ = some uu ∧ W.cell? ⟨w.heap.size + 1, 3, none⟩ = some ut ∧ W.cell? ⟨w.heap.size + 1, 4, none⟩ = some ur ∧ Below w.heap.size w W ∧ w.heap.size + 2 ≤ W.heap.size) (hb : Below W.heap.size W W') => KD W W' h (hb.mono h.2.2.2.2.2.2.2.2.2.2.2))
  have KA := Lib.hid (fun (W : World) (o : Obj) (h : W.cell? ⟨w.heap.size, 0, none⟩ = some (.int .i64 x) ∧ W.cell? ⟨w.heap.size, 1, none⟩ = some vn ∧ W.cell? ⟨w.heap.size, 2, none⟩ = some vu ∧ W.cell? ⟨w.heap.size, 3, none⟩ = some vt ∧ W.cell? ⟨w.heap.size, 4, none⟩ = some vr ∧ W.cell? ⟨w.heap.size + 1, 0, none⟩ = some (.int .i64 y) ∧ W.cell? ⟨w.heap.size + 1, 1, none⟩ = some un ∧ W.cell? ⟨w.heap.size + 1, 2, none⟩ = some uu ∧ W.cell? ⟨w.heap.size + 1, 3, none⟩ = some ut ∧ W.cell? ⟨w.heap.size + 1, 4, none⟩ = some ur ∧ Below w.heap.size w W ∧ w.heap.size + 2 ≤ W.heap.size) => KD W (W.alloc o) h ((Below.refl _ W).alloc h.2.2.2.2.2.2.2.2.2.2.2 o))
  have KR := Lib.hid (fun (W : World) (h : W.cell? ⟨w.heap.size, 0, none⟩ = some (.int .i64 x) ∧ W.cell? ⟨w.heap.size, 1, none⟩ = some vn ∧ W.cell? ⟨w.heap.size, 2, none⟩ = some vu ∧ W.cell? ⟨w.heap.size, 3, none⟩ = some vt ∧ W.cell? ⟨w.heap.size, 4, none⟩ = some vr ∧ W.cell? ⟨w.heap.size + 1, 0, none⟩ = some (.int .i64 y) ∧ W.cell? ⟨w.heap.size + 1, 1, none⟩ = some un ∧ W.cell? ⟨w.heap.size + 1, 2, none⟩ = some uu ∧ W.cell? ⟨w.heap.size + 1, 3, none⟩ = some ut ∧ W.cell? ⟨w.heap.size + 1, 4, none⟩ = some ur ∧ Below w.heap.size w W ∧ w.heap.size + 2 ≤ W.heap.size) => KD W W.drew h (below_drew1 (Below.refl _ W)))
  have HL1 := Lib.hid (fun (W : World) (h : W.cell? ⟨w.heap.size, 0, none⟩ = some (.int .i64 x) ∧ W.cell? ⟨w.heap.size, 1, none⟩ = some vn ∧ W.cell? ⟨w.heap.size, 2, none⟩ = some vu ∧ W.cell? ⟨w.heap.size, 3, none⟩ = some vt ∧ W.cell? ⟨w.heap.size, 4, none⟩ = some vr ∧ W.cell? ⟨w.heap.size + 1, 0, none⟩ = some (.int .i64 y) ∧ W.cell? ⟨w.heap.size + 1, 1, none⟩ = some un ∧ W.cell? ⟨w.heap.size + 1, 2, none⟩ = some uu ∧ W.cell? ⟨w.heap.size + 1, 3, none⟩ = some ut ∧ W.cell? ⟨w.heap.size + 1, 4, none⟩ = some ur ∧ Below w.heap.size w W ∧ w.heap.size + 2 ≤ W.heap.size) => hL1 W h.2.2.2.2.2.2.2.2.2.2.1)
  have HL2 := Lib.hid (fun (W : World) (h : W.cell? ⟨w.heap.size, 0, none⟩ = some (.int .i64 x) ∧ W.cell? ⟨w.heap.size, 1, none⟩ = some vn ∧ W.cell? ⟨w.heap.size, 2, none⟩ = some vu ∧ W.cell? ⟨w.heap.size, 3, none⟩ = some vt ∧ W.cell? ⟨w.heap.size, 4, none⟩ = some vr ∧ W.cell? ⟨w.heap.size + 1, 0, none⟩ = some (.int .i64 y) ∧ W.cell? ⟨w.heap.size + 1, 1, none⟩ = some un ∧ W.cell? ⟨w.heap.size + 1, 2, none⟩ = some uu ∧ W.cell? ⟨w.heap.size + 1, 3, none⟩ = some ut ∧ W.cell? ⟨w.heap.size + 1, 4, none⟩ = some ur ∧ Below w.heap.size w W ∧ w.heap.size + 2 ≤ W.heap.size) => hL2 W h.2.2.2.2.2.2.2.2.2.2.1)
  have HL3 := Lib.hid (fun (W : World) (h : W.cell? ⟨w.heap.size, 0, none⟩ = some (.int .i64 x) ∧ W.cell? ⟨w.heap.size, 1, none⟩ = some vn ∧ W.cell? ⟨w.heap.size, 2, none⟩ = some vu ∧ W.cell? ⟨w.heap.size, 3, none⟩ = some vt ∧ W.cell? ⟨w.heap.size, 4, none⟩ = some vr ∧ W.cell? ⟨w.heap.size + 1, 0, none⟩ = some (.int .i64 y) ∧ W.cell? ⟨w.heap.size + 1, 1, none⟩ = some un ∧ W.cell? ⟨w.heap.size + 1, 2, none⟩ = some uu ∧ W.cell? ⟨w.heap.size + 1, 3, none⟩ = some ut ∧ W.cell? ⟨w.heap.size + 1, 4, none⟩ = some ur ∧ Below w.heap.size w W ∧ w.heap.size + 2 ≤ W.heap.size) => hL3 W h.2.2.2.2.2.2.2.2.2.2.1)
  have HL4 := Lib.hid (fun (W : World) (h : W.cell? ⟨w.heap.size, 0, none⟩ = some (.int .i64 x) ∧ W.cell? ⟨w.heap.size, 1, none⟩ = some vn ∧ W.cell? ⟨w.heap.size, 2, none⟩ = some vu ∧ W.cell? ⟨w.heap.size, 3, none⟩ = some vt ∧ W.cell? ⟨w.heap.size, 4, none⟩ = some vr ∧ W.cell? ⟨w.heap.size + 1, 0, none⟩ = some (.int .i64 y) ∧ W.cell? ⟨w.heap.size + 1, 1, none⟩ = some un ∧ W.cell? ⟨w.heap.size + 1, 2, none⟩ = some uu ∧ W.cell? ⟨w.heap.size + 1, 3, none⟩ = some ut ∧ W.cell? ⟨w.heap.size + 1, 4, none⟩ = some ur ∧ Below w.heap.size w W ∧ w.heap.size + 2 ≤ W.heap.size) => hL4 W h.2.2.2.2.2.2.2.2.2.2.1)
  have HL0 := Lib.hid hL0; have HO := Lib.hid hO
  clear hS hz KD hL1 hL2 hL3 hL4 hL0 hO HS0 HZ0
  go_region_held3 (fun W' => W'.cell? ⟨w.heap.size, 0, none⟩ = some (.int .i64 x) ∧ W'.cell? ⟨w.heap.size, 1, none⟩ = some vn ∧ W'.cell? ⟨w.heap.size, 2, none⟩ = some vu ∧ W'.cell? ⟨w.heap.size, 3, none⟩ = some vt ∧ W'.cell? ⟨w.heap.size, 4, none⟩ = some vr ∧ W'.cell? ⟨w.heap.size + 1, 0, none⟩ = some (.int .i64 y) ∧ W'.cell? ⟨w.heap.size + 1, 1, none⟩ = some un ∧ W'.cell? ⟨w.heap.size + 1, 2, none⟩ = some uu ∧ W'.cell? ⟨w.heap.size + 1, 3, none⟩ = some ut ∧ W'.cell? ⟨w.heap.size + 1, 4, none⟩ = some ur ∧ Below w.heap.size w W' ∧ w.heap.size + 2 ≤ W'.heap.size) (first | assumption | exact KR.out _ hS1 | exact KA.out _ _ (by assumption)) (first | ((with_reducible refine (HL0.out _).mono ?_); rintro e w2 ⟨rfl, rfl⟩) | ((with_reducible refine (HL1.out _ (by assumption)).mono ?_); rintro e w2 ⟨rfl, hb2⟩; have hS2 := KS.out _ _ (by assumption) hb2) | ((with_reducible refine (HL2.out _ (by assumption)).mono ?_); rintro e w2 ⟨rfl, hb2⟩; have hS2 := KS.out _ _ (by assumption) hb2) | ((with_reducible refine (HL3.out _ (by assumption)).mono ?_); rintro e w2 ⟨rfl, hb2⟩; have hS2 := KS.out _ _ (by assumption) hb2) | ((with_reducible refine (HL4.out _ (by assumption)).mono ?_); rintro e w2 ⟨rfl, hb2⟩; have hS2 := KS.out _ _ (by assumption) hb2) | ((with_reducible refine (HO.out _).mono ?_); rintro e w2 ⟨rfl, rfl⟩))
  rename_i hSe
  go_wp2
  go_ret
  exact ⟨by rw [hR.out]; rfl, hSe.2.2.2.2.2.2.2.2.2.2.1⟩

set_option maxRecDepth 100000 in
set_option maxHeartbeats 4000000 in
theorem rdata_Same (v u : Value) (a b : Dat) (w : World) (hA : DatAt w v a) (hU : DatAt w u b) (hk : DatOK a) (hk2 : DatOK b) :
    Calls Tryz.prog 109 #[v, u] w fun e w' => e = .returned (.bool (compareD a b == 0)) ∧ Below w.heap.size w w' := by
  obtain ⟨vn, vu, vt, vr, rfl, a1, a2, a3, a4⟩ := id hA
  obtain ⟨un, uu, ut, ur, rfl, b1, b2, b3, b4⟩ := id hU
  have hC := fun W (hB : Below w.heap.size w W) => rdata_Compare _ _ a b W (hA.below hB) (hU.below hB) hk hk2
  have hb0 : Below w.heap.size w ((w.alloc (.cells #[.int .i64 a.ty, vn, vu, vt, vr] 101)).alloc (.cells #[.int .i64 b.ty, un, uu, ut, ur] 101)) := ((Below.refl _ w).alloc (Nat.le_refl _) _).alloc (by simp) _
  have hCz := hC _ hb0
  have hB0 := Lib.hid hb0
  generalize compareD a b = r at *
  clear hA hU hC a1 a2 a3 a4 b1 b2 b3 b4 hk hk2 hb0
  go_enter Tryz.func109, Tryz.ntmps109
  go_wp2_with (go_at_call 148; refine hCz.mono ?_; rintro e w2 ⟨rfl, hb2⟩)
  go_ret
  exact ⟨rfl, hB0.out.trans (hb2.mono hB0.out.size)⟩
end Go.Proofs.YtckammgnmgkieaaGreat

/-
  Rows in their own order: what they are, and that there is but one.
-/
namespace Go.Proofs.YtckammgnmgkieaaGreat
set_option maxRecDepth 20000
open Go.RowKit Go.Shelf
open Stb (COrd)

def StrictR (l : List Rc) : Prop := l.Pairwise fun a b => compareR a b < 0
structure CanOf (l c : List Rc) : Prop where
  up : StrictR c
  has : ∀ x ∈ l, ∃ y ∈ c, compareR y x = 0 ∧ y.ttl ≤ x.ttl
  of : ∀ y ∈ c, ∃ x ∈ l, compareR x y = 0 ∧ x.ttl = y.ttl

theorem cR_anti (x y : Rc) : compareR y x = - compareR x y := cord_compareR.anti x y
theorem cR_lt_le {x y z : Rc} (h1 : compareR x y < 0) (h2 : compareR y z ≤ 0) : compareR x z < 0 := by
  have a := cR_anti x z; have b := cR_anti x y
  have t := cord_compareR.trans y z x h2
  have := cord_compareR.trans x y z (by omega) h2
  by_cases c : compareR x z < 0
  · exact c
  · have := t (by omega); omega
theorem cR_le_lt {x y z : Rc} (h1 : compareR x y ≤ 0) (h2 : compareR y z < 0) : compareR x z < 0 := by
  have a := cR_anti x z; have b := cR_anti y z
  have t := cord_compareR.trans z x y
  have := cord_compareR.trans x y z h1 (by omega)
  by_cases c : compareR x z < 0
  · exact c
  · have := t (by omega) h1; omega
theorem cR_eq {x y z : Rc} (h1 : compareR x y = 0) (h2 : compareR y z = 0) : compareR x z = 0 := by
  have a := cR_anti x z; have b := cR_anti y z; have c := cR_anti x y
  have t1 := cord_compareR.trans x y z (by omega) (by omega)
  have t2 := cord_compareR.trans z y x (by omega) (by omega)
  omega
theorem cR_sym {x y : Rc} (h : compareR x y = 0) : compareR y x = 0 := by have := cR_anti x y; omega
theorem minT_le (a b : Nat) : minT a b ≤ a ∧ minT a b ≤ b ∧ (minT a b = a ∨ minT a b = b) := by
  unfold minT; split <;> omega

theorem insR_lt {x : Rc} : ∀ (l : List Rc), StrictR l → ∀ z, compareR z x < 0 → (∀ y ∈ l, compareR z y < 0) → ∀ y ∈ insR l x, compareR z y < 0
  | [], _, z, h, _, y, hy => by simp [insR] at hy; subst hy; exact h
  | a :: r, hs, z, h, h2, y, hy => by
    have p := List.pairwise_cons.1 hs
    simp only [insR] at hy
    split at hy
    · rcases List.mem_cons.1 hy with rfl | hy
      · exact h2 y (by simp)
      · exact insR_lt r p.2 z h (fun y hy => h2 y (by simp [hy])) y hy
    · split at hy
      · rcases List.mem_cons.1 hy with rfl | hy
        · exact h2 a (by simp)
        · exact h2 y (by simp [hy])
      · rcases List.mem_cons.1 hy with rfl | hy
        · exact h
        · exact h2 y hy
theorem insR_strict (x : Rc) : ∀ (l : List Rc), StrictR l → StrictR (insR l x)
  | [], _ => by simp [insR, StrictR]
  | a :: r, hs => by
    have p := List.pairwise_cons.1 hs
    simp only [insR]
    split
    · rename_i c
      exact List.pairwise_cons.2 ⟨insR_lt r p.2 a c p.1, insR_strict x r p.2⟩
    · rename_i c
      split
      · exact List.pairwise_cons.2 ⟨fun y hy => p.1 y hy, p.2⟩
      · rename_i c2
        have hx : compareR x a < 0 := by have := cR_anti x a; omega
        refine List.pairwise_cons.2 ⟨fun y hy => ?_, hs⟩
        rcases List.mem_cons.1 hy with rfl | hy
        · exact hx
        · exact cR_lt_le hx (by have := p.1 y hy; omega)
theorem insR_has (x : Rc) : ∀ (l : List Rc), (∃ y ∈ insR l x, compareR y x = 0 ∧ y.ttl ≤ x.ttl) ∧ ∀ a ∈ l, ∃ y ∈ insR l x, compareR y a = 0 ∧ y.ttl ≤ a.ttl
  | [] => ⟨⟨x, by simp [insR], compareR_self x, Nat.le_refl _⟩, by simp⟩
  | a :: r => by
    obtain ⟨⟨y, hy, h1⟩, h2⟩ := insR_has x r
    simp only [insR]
    split
    · refine ⟨⟨y, by simp [hy], h1⟩, fun b hb => ?_⟩
      rcases List.mem_cons.1 hb with rfl | hb
      · exact ⟨b, by simp, compareR_self b, Nat.le_refl _⟩
      · obtain ⟨z, hz, h⟩ := h2 b hb
        exact ⟨z, by simp [hz], h⟩
    · have m := minT_le a.ttl x.ttl
      split
      · rename_i c
        refine ⟨⟨_, List.mem_cons_self .., c, m.2.1⟩, fun b hb => ?_⟩
        rcases List.mem_cons.1 hb with rfl | hb
        · exact ⟨_, List.mem_cons_self .., compareR_self b, m.1⟩
        · exact ⟨b, by simp [hb], compareR_self b, Nat.le_refl _⟩
      · exact ⟨⟨x, by simp, compareR_self x, Nat.le_refl _⟩, fun b hb => ⟨b, by simp only [List.mem_cons] at hb ⊢; exact Or.inr hb, compareR_self b, Nat.le_refl _⟩⟩
theorem insR_of (x : Rc) : ∀ (l : List Rc), ∀ y ∈ insR l x, ∃ a, (a = x ∨ a ∈ l) ∧ compareR a y = 0 ∧ a.ttl = y.ttl
  | [], y, hy => by simp [insR] at hy; subst hy; exact ⟨y, .inl rfl, compareR_self y, rfl⟩
  | a :: r, y, hy => by
    simp only [insR] at hy
    split at hy
    · rcases List.mem_cons.1 hy with rfl | hy
      · exact ⟨y, .inr (by simp), compareR_self y, rfl⟩
      · obtain ⟨b, hb, h⟩ := insR_of x r y hy
        exact ⟨b, hb.imp id (fun h => by simp [h]), h⟩
    · split at hy
      · rename_i c
        rcases List.mem_cons.1 hy with rfl | hy
        · rcases (minT_le a.ttl x.ttl).2.2 with e | e
          · exact ⟨a, .inr (by simp), compareR_self a, e.symm⟩
          · exact ⟨x, .inl rfl, cR_sym c, e.symm⟩
        · exact ⟨y, .inr (by simp [hy]), compareR_self y, rfl⟩
      · simp only [List.mem_cons] at hy
        exact ⟨y, hy.imp id (fun h => by simpa using h), compareR_self y, rfl⟩
theorem insR_length (x : Rc) : ∀ (l : List Rc), (insR l x).length ≤ l.length + 1 ∧ l.length ≤ (insR l x).length
  | [] => by simp [insR]
  | a :: r => by
    have := insR_length x r
    simp only [insR]
    repeat' split
    all_goals simp only [List.length_cons]; omega
theorem CanOf.step {l c : List Rc} (h : CanOf l c) (x : Rc) : CanOf (l ++ [x]) (insR c x) := by
  refine ⟨insR_strict x c h.up, fun a ha => ?_, fun y hy => ?_⟩
  · rcases List.mem_append.1 ha with ha | ha
    · obtain ⟨y, hy, h1, h2⟩ := h.has a ha
      obtain ⟨z, hz, g1, g2⟩ := (insR_has x c).2 y hy
      exact ⟨z, hz, cR_eq g1 h1, Nat.le_trans g2 h2⟩
    · simp at ha; subst ha
      exact (insR_has a c).1
  · obtain ⟨a, ha, h1, h2⟩ := insR_of x c y hy
    rcases ha with rfl | ha
    · exact ⟨a, by simp, h1, h2⟩
    · obtain ⟨b, hb, g1, g2⟩ := h.of a ha
      exact ⟨b, by simp [hb], cR_eq g1 h1, by omega⟩
theorem canonM_snoc (l : List Rc) (x : Rc) : canonM (l ++ [x]) = insR (canonM l) x := by simp [canonM, List.foldl_append]
theorem list_snoc_ind {α : Type} {P : List α → Prop} (h0 : P []) (hs : ∀ l x, P l → P (l ++ [x])) (l : List α) : P l := by
  have : ∀ l : List α, P l.reverse := by
    intro l
    induction l with
    | nil => exact h0
    | cons x l ih => rw [List.reverse_cons]; exact hs _ _ ih
  have := this l.reverse
  rwa [List.reverse_reverse] at this
theorem canonM_can (l : List Rc) : CanOf l (canonM l) :=
  list_snoc_ind (P := fun l => CanOf l (canonM l)) ⟨List.Pairwise.nil, by simp, by simp [canonM]⟩ (fun l x h => by rw [canonM_snoc]; exact h.step x) l
theorem canonM_length (l : List Rc) : (canonM l).length ≤ l.length :=
  list_snoc_ind (P := fun l => (canonM l).length ≤ l.length) (by simp [canonM]) (fun l x h => by rw [canonM_snoc]; have := insR_length x (canonM l); simp; omega) l

theorem StrictR.one {c : List Rc} : StrictR c → ∀ {y z : Rc}, y ∈ c → z ∈ c → compareR y z = 0 → y = z := by
  intro h
  induction c with
  | nil => intro y z hy; cases hy
  | cons a c ih =>
    intro y z hy hz hc
    have p := List.pairwise_cons.1 h
    rcases List.mem_cons.1 hy with ey | hy'
    · rcases List.mem_cons.1 hz with ez | hz'
      · rw [ey, ez]
      · have := p.1 z hz'; rw [ey] at hc; omega
    · rcases List.mem_cons.1 hz with ez | hz'
      · have := p.1 y hy'; have := cR_anti y z; rw [ez] at hc this; omega
      · exact ih p.2 hy' hz' hc
end Go.Proofs.YtckammgnmgkieaaGreat

/-
  The document's data: small helpers (apart, counts).
-/
namespace Go.Proofs.YtckammgnmgkieaaGreat
set_option maxRecDepth 20000
open Go.RowKit Go.Shelf

set_option maxHeartbeats 2000000 in
theorem ref_apart (a b : Int) (w : World) : Calls Tryz.prog 187 #[.int .i64 a, .int .i64 b] w fun e w' => e = .returned (.int .i64 (cmpI a b)) ∧ w' = w := by
  unfold cmpI
  by_cases h1 : a < b
  · rw [if_pos h1]
    go_enter Tryz.func187, Tryz.ntmps187
    go_wp2
    go_ret
    exact ⟨rfl, rfl⟩
  · rw [if_neg h1]
    by_cases h2 : b < a
    · rw [if_pos h2]
      go_enter Tryz.func187, Tryz.ntmps187
      go_wp2
      go_ret
      exact ⟨rfl, rfl⟩
    · rw [if_neg h2]
      go_enter Tryz.func187, Tryz.ntmps187
      go_wp2
      go_ret
      exact ⟨rfl, rfl⟩

def countsM (t : Int) : Int × Int × Int :=
  if t = 1 then (0, 0, 4) else if t = 28 then (0, 0, 16) else if t = 2 ∨ t = 5 ∨ t = 12 ∨ t = 39 then (1, 0, 0) else if t = 15 then (1, 1, 0) else if t = 6 then (2, 5, 0) else if t = 16 then (0, 0, 0) else (0, 0, -1)
def CountsPost (t : Int) (w : World) (e : Ending) (w' : World) : Prop := e = .returned (.tuple #[.int .i64 (countsM t).1, .int .i64 (countsM t).2.1, .int .i64 (countsM t).2.2]) ∧ w' = w

set_option maxHeartbeats 2000000 in
theorem ref_counts (t : Int) (w : World) : Calls Tryz.prog 194 #[.int .i64 t] w (CountsPost t w) := by
  have lit : ∀ k : Int, t = k → ∀ c, countsM k = c → Calls Tryz.prog 194 #[.int .i64 k] w (fun e w' => e = .returned (.tuple #[.int .i64 c.1, .int .i64 c.2.1, .int .i64 c.2.2]) ∧ w' = w) → Calls Tryz.prog 194 #[.int .i64 t] w (CountsPost t w) := by
    rintro k rfl c rfl h; exact h
  by_cases h1 : t = 1
  · refine lit _ h1 _ rfl ?_
    go_enter Tryz.func194, Tryz.ntmps194
    go_wp2
    go_ret3
    exact ⟨rfl, rfl⟩
  by_cases h2 : t = 28
  · refine lit _ h2 _ rfl ?_
    go_enter Tryz.func194, Tryz.ntmps194
    go_wp2
    go_ret3
    exact ⟨rfl, rfl⟩
  by_cases h3 : t = 2
  · refine lit _ h3 _ rfl ?_
    go_enter Tryz.func194, Tryz.ntmps194
    go_wp2
    go_ret3
    exact ⟨rfl, rfl⟩
  by_cases h4 : t = 5
  · refine lit _ h4 _ rfl ?_
    go_enter Tryz.func194, Tryz.ntmps194
    go_wp2
    go_ret3
    exact ⟨rfl, rfl⟩
  by_cases h5 : t = 12
  · refine lit _ h5 _ rfl ?_
    go_enter Tryz.func194, Tryz.ntmps194
    go_wp2
    go_ret3
    exact ⟨rfl, rfl⟩
  by_cases h6 : t = 39
  · refine lit _ h6 _ rfl ?_
    go_enter Tryz.func194, Tryz.ntmps194
    go_wp2
    go_ret3
    exact ⟨rfl, rfl⟩
  by_cases h7 : t = 15
  · refine lit _ h7 _ rfl ?_
    go_enter Tryz.func194, Tryz.ntmps194
    go_wp2
    go_ret3
    exact ⟨rfl, rfl⟩
  by_cases h8 : t = 6
  · refine lit _ h8 _ rfl ?_
    go_enter Tryz.func194, Tryz.ntmps194
    go_wp2
    go_ret3
    exact ⟨rfl, rfl⟩
  by_cases h9 : t = 16
  · refine lit _ h9 _ rfl ?_
    go_enter Tryz.func194, Tryz.ntmps194
    go_wp2
    go_ret3
    exact ⟨rfl, rfl⟩
  have hc : countsM t = (0, 0, -1) := by
    unfold countsM
    rw [if_neg h1, if_neg h2, if_neg (by omega), if_neg h7, if_neg h8, if_neg h9]
  have HC := Lib.hid hc; clear hc lit
  have e1 : (t == 1) = false := by simpa using h1
  have e2 : (t == 28) = false := by simpa using h2
  have e3 : (t == 2) = false := by simpa using h3
  have e4 : (t == 5) = false := by simpa using h4
  have e5 : (t == 12) = false := by simpa using h5
  have e6 : (t == 39) = false := by simpa using h6
  have e7 : (t == 15) = false := by simpa using h7
  have e8 : (t == 6) = false := by simpa using h8
  have e9 : (t == 16) = false := by simpa using h9
  clear h1 h2 h3 h4 h5 h6 h7 h8 h9
  go_enter Tryz.func194, Tryz.ntmps194
  go_wp2
  go_ret3
  exact ⟨by rw [HC.out]; rfl, rfl⟩
end Go.Proofs.YtckammgnmgkieaaGreat

