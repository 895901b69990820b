/-
  law11.known.
-/
import Derived.Test.YtnpnfajgphpabaaMQ14
import Derived.Test.YtnpnfajgphpabaaMQ05
import Derived.Test.YtnpnfajgphpabaaMQ10
import Derived.Test.YtnpnfajgphpabaaMQ09
namespace Go.Proofs.Ytnpnfajgphpabaa
set_option linter.unusedVariables false
set_option linter.unusedSimpArgs false
open Go.RowKit Go.Shelf Go.Maps Go.WideMaps
set_option maxRecDepth 20000
theorem kidsOf_uniq {ks : List Nm} {p : Nm} {a b : List (List UInt8)} (ha : KidsOf ks p a) (hb : KidsOf ks p b) : a = b := by
  have h : a.map (fun l => [l]) = b.map (fun l => [l]) := by
    refine rising_uniq ?_ ?_ (fun x => ?_)
    · refine List.pairwise_map.2 (ha.rise.imp fun {x y} h => ?_)
      have := cmpR_fork [] x y [] [] (by omega)
      simpa [h] using this
    · refine List.pairwise_map.2 (hb.rise.imp fun {x y} h => ?_)
      have := cmpR_fork [] x y [] [] (by omega)
      simpa [h] using this
    · rw [List.mem_map, List.mem_map]
      exact ⟨fun ⟨l, h1, h2⟩ => ⟨l, (hb.mem l).2 ((ha.mem l).1 h1), h2⟩, fun ⟨l, h1, h2⟩ => ⟨l, (ha.mem l).2 ((hb.mem l).1 h1), h2⟩⟩
  have inj : ∀ (x y : List UInt8), [x] = [y] → x = y := fun x y h => by simpa using h
  exact (List.map_inj_right inj).1 h
def kTree : List Nm := [[], [[98]], [[98], [97]]]
theorem kTree_kids : KidsOf kTree [] [[98]] := ⟨fun l => by simp [kTree], by simp⟩
theorem kTree_deep : DeepAt kTree [[98], [120]] 1 := ⟨by decide, by decide, fun k hk h => by
  have : k = 0 ∨ k = 1 ∨ k = 2 := by simp at hk; omega
  rcases this with rfl | rfl | rfl
  · omega
  · omega
  · revert h; decide⟩
theorem ok_of {xs : Nm} (h : fewN xs = true) : NmOK xs := fewN_ok h
section
attribute [local go_sem] Oper.semAt_some
set_option maxRecDepth 100000 in
set_option maxHeartbeats 16000000 in
theorem law11_known (w : World) : Calls Try.prog 7 #[] w fun e w' => e = .returned (.bool true) ∧ Below w.heap.size w w' := by
  go_enter Try.func7, Try.ntmps7
  go_wp2_with fail
  refine (tree_New_i w).mono ?_
  rintro e w1 ⟨s0, rfl, T0, K0, V0, F0, b1⟩
  obtain ⟨B, hB⟩ : ∃ B, s0.be [] = B := ⟨_, rfl⟩
  have hP := tree_Put_i s0 (.slice (some ⟨w1.heap.size, 0, none⟩) 2 2) (.int .i64 7) [[65], [98]] [[97], [98]] (by decide) (w1.alloc (.cells #[.string ⟨#[65]⟩, .string ⟨#[98]⟩] 9)) (T0.below ((Below.refl _ w1).alloc (Nat.le_refl _) _)) (nm_lit w1 [[65], [98]] [.string ⟨#[65]⟩, .string ⟨#[98]⟩] 2 _ rfl rfl (by decide) rfl) (ok_of (by decide)) ⟨7, rfl⟩ (by rw [K0]; decide)
  rw [hB] at hP ⊢
  have HB := Lib.hid hB; have HK0 := Lib.hid K0; have HV0 := Lib.hid V0; have HF0 := Lib.hid F0; have HB1 := Lib.hid b1
  clear T0 K0 V0 F0 b1 hB
  go_wp2_with fail
  refine hP.mono ?_
  rintro e w2 ⟨⟨x, rfl⟩, s, T, K, V, B2, F, C⟩
  have hK : s.ks = kTree := by rw [K, HK0.out]; decide
  have hV : ∀ q, s.vl q = if q = [[98], [97]] then some (.int .i64 7) else none := fun q => by rw [V, HV0.out]; rfl
  have hb2 : Below w.heap.size w w2 := (HB1.out.alloc HB1.out.size _).trans (C.below (by have := HB1.out.size; simp; omega) HF0.out)
  have HG := Lib.hid (fun (W : World) (hb : Below w2.heap.size w2 W) (v : Value) (n : Nm) (r : Option Value) (hr : s.vl (wayN n) = r) (hv : ∀ v, r = some v → ∃ i, v = .int .i64 i) (hA : NmAt W v n) (hk : NmOK n) => (by
    have h := tree_Get_i s (s.ks.length - 1) v n W (T.below hb) hA hk (by rw [hr]; exact hv)
    rw [B2, HB.out, hr] at h; exact h : Calls Try.prog 16 #[.pointer (some ⟨B, 0, none⟩), v] W (GetPost r (.int .i64 0) W)))
  have HH := Lib.hid (fun (W : World) (hb : Below w2.heap.size w2 W) (v : Value) (n : Nm) (r : Bool) (hr : decide (wayN n ∈ kTree) = r) (hA : NmAt W v n) (hk : NmOK n) => (by
    have h := tree_Has_i s (s.ks.length - 1) v n W (T.below hb) hA hk
    rw [B2, HB.out, hK, hr] at h; exact h : Calls Try.prog 15 #[.pointer (some ⟨B, 0, none⟩), v] W (fun e w' => e = .returned (.bool r) ∧ Below W.heap.size W w')))
  have HL := Lib.hid (fun (W : World) (hb : Below w2.heap.size w2 W) => (by
    have h := tree_Len_i s W (T.below hb) (by rw [hK]; decide)
    rw [B2, HB.out, hK] at h; exact h : Calls Try.prog 13 #[.pointer (some ⟨B, 0, none⟩)] W (fun e w' => e = .returned (.int .i64 3) ∧ w' = W)))
  have HD := Lib.hid (fun (W : World) (hb : Below w2.heap.size w2 W) (v : Value) (hA : NmAt W v [[120], [98]]) => (by
    have h := tree_Deepest_i s (s.ks.length - 1) v [[120], [98]] W (T.below hb) hA (ok_of (by decide))
    rw [B2, HB.out] at h
    refine h.mono ?_
    rintro e w' ⟨d, v', hd, rfl, ho, hb'⟩
    rw [hK] at hd
    obtain rfl : d = 1 := hd.uniq kTree_deep
    obtain ⟨a, c, rfl⟩ := ho.shape
    exact ⟨a, c, rfl, hb'⟩ : Calls Try.prog 19 #[.pointer (some ⟨B, 0, none⟩), v] W (fun e w' => ∃ a c, e = .returned (.slice a 1 c) ∧ Below W.heap.size W w')))
  have HKI := Lib.hid (fun (W : World) (hb : Below w2.heap.size w2 W) => (by
    have h := tree_Kids_i s (s.ks.length - 1) (.slice none 0 0) [] W (T.below hb) (nm_nil W) (ok_of (by decide)) (by rw [hK]; decide)
    rw [B2, HB.out] at h
    refine h.mono ?_
    rintro e w' (⟨_, v, ss, rfl, hs, _, ho, hb'⟩ | ⟨hn, _⟩)
    · rw [hK] at hs
      obtain rfl := kidsOf_uniq hs kTree_kids
      obtain ⟨a, c, rfl⟩ := ho.shape
      exact ⟨a, c, rfl, ho, hb'⟩
    · rw [hK] at hn; exact absurd (by decide) hn : Calls Try.prog 18 #[.pointer (some ⟨B, 0, none⟩), .slice none 0 0] W (fun e w' => ∃ a c, e = .returned (.slice a 1 c) ∧ OwnG 9 strV w' W.heap.size (.slice a 1 c) [[98]] ∧ Below W.heap.size W w')))
  have HN := Lib.hid (fun (W : World) (hb : Below w2.heap.size w2 W) => (by
    have h := tree_Names_i s (s.ks.length - 1) W (T.below hb) (by rw [hK]; decide) (by rw [hK]; decide)
    rw [B2, HB.out] at h
    refine h.mono ?_
    rintro e w' ⟨v, xs, rfl, hx, ho, _, hb'⟩
    have hl : xs.length = 3 := by
      have := congrArg List.length hx
      rw [List.length_map, srtT_len, hK] at this; exact this
    obtain ⟨a, c, rfl⟩ := ho.shape
    rw [hl]
    exact ⟨a, c, rfl, hb'⟩ : Calls Try.prog 12 #[.pointer (some ⟨B, 0, none⟩)] W (fun e w' => ∃ a c, e = .returned (.slice a 3 c) ∧ Below W.heap.size W w')))
  have HB2 := Lib.hid hb2; have HV := Lib.hid hV
  clear T K V B2 F C hK hV hb2 HB HK0 HV0 HF0 HB1 hP
  have hg1 := HG.out (w2.alloc (.cells #[.string ⟨#[97]⟩, .string ⟨#[66]⟩] 9)) ((Below.refl _ w2).alloc (Nat.le_refl _) _) (.slice (some ⟨w2.heap.size, 0, none⟩) 2 2) [[97], [66]] (some (.int .i64 7)) (by rw [HV.out]; rfl) (fun v e => by cases e; exact ⟨_, rfl⟩) (nm_lit w2 [[97], [66]] [.string ⟨#[97]⟩, .string ⟨#[66]⟩] 2 _ rfl rfl (by decide) rfl) (ok_of (by decide))
  unfold GetPost at hg1
  simp only [Option.getD_some, Option.isSome_some] at hg1
  go_wp2_with fail
  refine hg1.mono ?_
  rintro e w3 ⟨rfl, b3⟩
  have q3 : Below w2.heap.size w2 w3 := ((Below.refl _ w2).alloc (Nat.le_refl _) _).trans (b3.mono (by simp))
  have hg2 := HG.out (w3.alloc (.cells #[.string ⟨#[98]⟩] 9)) (q3.alloc q3.size _) (.slice (some ⟨w3.heap.size, 0, none⟩) 1 1) [[98]] none (by rw [HV.out]; rfl) (fun v e => by cases e) (nm_lit w3 [[98]] [.string ⟨#[98]⟩] 1 _ rfl rfl (by decide) rfl) (ok_of (by decide))
  unfold GetPost at hg2
  simp only [Option.getD_none, Option.isSome_none] at hg2
  have HQ3 := Lib.hid q3
  clear b3 q3 hg1
  go_wp2_with fail
  refine hg2.mono ?_
  rintro e w4 ⟨rfl, b4⟩
  have q4 : Below w2.heap.size w2 w4 := (HQ3.out.alloc HQ3.out.size _).trans (b4.mono (by have := HQ3.out.size; simp; omega))
  have hki := HKI.out w4 q4
  have HQ4 := Lib.hid q4
  clear b4 q4 hg2 HQ3
  go_wp2_with fail
  refine hki.mono ?_
  rintro e w5 ⟨ka, kc, rfl, ok, b5⟩
  obtain ⟨g, rfl, hgb, hgl, hcell⟩ := ok.cells (by simp)
  have c0 := hcell 0 (by simp)
  have q5 : Below w2.heap.size w2 w5 := HQ4.out.trans (b5.mono HQ4.out.size)
  have hh := HH.out (w5.alloc (.cells #[.string ⟨#[98]⟩] 9)) (q5.alloc q5.size _) (.slice (some ⟨w5.heap.size, 0, none⟩) 1 1) [[98]] true (by decide) (nm_lit w5 [[98]] [.string ⟨#[98]⟩] 1 _ rfl rfl (by decide) rfl) (ok_of (by decide))
  have HQ5 := Lib.hid q5; have HC0 := Lib.hid c0; have HGL := Lib.hid hgl
  clear b5 q5 hki HQ4 ok hgb hgl hcell c0
  go_wp2_with fail
  refine hh.mono ?_
  rintro e w6 ⟨rfl, b6⟩
  have b56 : Below w5.heap.size w5 w6 := ((Below.refl _ w5).alloc (Nat.le_refl _) _).trans (b6.mono (by simp))
  have q6 : Below w2.heap.size w2 w6 := HQ5.out.trans (b56.mono HQ5.out.size)
  have hl := HL.out w6 q6
  have HQ6 := Lib.hid q6; have HB56 := Lib.hid b56
  clear b6 q6 b56 hh
  go_wp2_with fail
  refine hl.mono ?_
  rintro e w7 ⟨rfl, rfl⟩
  have hd := HD.out (w7.alloc (.cells #[.string ⟨#[120]⟩, .string ⟨#[98]⟩] 9)) (HQ6.out.alloc HQ6.out.size _) (.slice (some ⟨w7.heap.size, 0, none⟩) 2 2) (nm_lit w7 [[120], [98]] [.string ⟨#[120]⟩, .string ⟨#[98]⟩] 2 _ rfl rfl (by decide) rfl)
  clear hl
  go_wp2_with fail
  refine hd.mono ?_
  rintro e w8 ⟨da, dc, rfl, b8⟩
  have b78 : Below w7.heap.size w7 w8 := ((Below.refl _ w7).alloc (Nat.le_refl _) _).trans (b8.mono (by simp))
  have q8 : Below w2.heap.size w2 w8 := HQ6.out.trans (b78.mono HQ6.out.size)
  have c8 : w8.cell? ⟨g, 0, none⟩ = some (.string ⟨#[98]⟩) := ((HB56.out.trans (b78.mono HB56.out.size)).cell (p := ⟨g, 0, none⟩) HGL.out).trans HC0.out
  have hn := HN.out w8 q8
  have HQ8 := Lib.hid q8
  clear b8 b78 q8 hd HB56 HQ6 HQ5
  go_wp2_with fail
  refine hn.mono ?_
  rintro e w9 ⟨na, nc, rfl, b9⟩
  have HB9 := Lib.hid (HB2.out.trans ((HQ8.out.trans (b9.mono HQ8.out.size)).mono HB2.out.size))
  clear b9 hn c8
  go_wp2
  go_ret
  exact ⟨rfl, HB9.out⟩
end
end Go.Proofs.Ytnpnfajgphpabaa

/-
  The laws of trees: the ways put by a list of names; names of an argument as a loop has them.
-/
namespace Go.Proofs.Ytnpnfajgphpabaa
set_option linter.unusedVariables false
set_option linter.unusedSimpArgs false
open Go.RowKit Go.Shelf Go.Maps Go.WideMaps
set_option maxRecDepth 20000
theorem snoc_ind {α : Type} {P : List α → Prop} (h0 : P []) (h1 : ∀ l a, P l → P (l ++ [a])) (l : List α) : P l := by
  rw [← List.reverse_reverse l]
  induction l.reverse with
  | nil => exact h0
  | cons a t ih => rw [List.reverse_cons]; exact h1 _ _ ih
/-- The ways of a new tree behind these names put in turn. -/
def ksOf (l : List Nm) : List Nm := l.foldl (fun ks n => addK ks (wayN n)) [[]]
theorem ksOf_nil : ksOf [] = [[]] := rfl
theorem ksOf_snoc (l : List Nm) (n : Nm) : ksOf (l ++ [n]) = addK (ksOf l) (wayN n) := by unfold ksOf; rw [List.foldl_append]; rfl
theorem ksOf_succ {l : List Nm} {k : Nat} (h : k < l.length) : ksOf (l.take (k + 1)) = addK (ksOf (l.take k)) (wayN l[k]) := by rw [List.take_succ_eq_append_getElem h, ksOf_snoc]
theorem ksOf_len : ∀ (l : List Nm), (∀ n ∈ l, n.length ≤ 20) → (ksOf l).length ≤ 1 + 20 * l.length := by
  refine snoc_ind ?_ ?_
  · intro _; simp [ksOf]
  · intro l n ih h
    rw [ksOf_snoc]
    have h1 := ih (fun x hx => h x (by simp [hx]))
    have h2 := h n (by simp)
    have h3 := addK_len (ksOf l) (wayN n)
    rw [wayN_len] at h3
    rw [List.length_append, List.length_singleton]
    omega
theorem fewN_len20 {n : Nm} (h : fewN n = true) : n.length ≤ 140 := by
  unfold fewN at h; have := of_decide_eq_true h; exact this.1
theorem NmOK.drop {n : Nm} (h : NmOK n) (k : Nat) : NmOK (n.drop k) := ⟨by rw [List.length_drop]; have := h.1; omega, fun x hx => h.2 x (List.mem_of_mem_drop hx)⟩
theorem NmOK.fold {n : Nm} (h : NmOK n) : NmOK (foldN n) := ⟨by rw [foldN_len]; exact h.1, fun x hx => by
  obtain ⟨y, hy, rfl⟩ := List.mem_map.1 hx
  rw [foldL_len]; exact h.2 y hy⟩
/-- The j-th name of an argument, as a loop's region loads it. -/
theorem NmsArg.at {W : World} {a0 : Option Addr} {m c0 : Nat} {ns : List Nm} (h : NmsArg W (.slice a0 m c0) ns) {j : Nat} (hj : j < ns.length) : ∃ g off : Nat, a0 = some ⟨g, off, none⟩ ∧ m = ns.length ∧ g < W.heap.size ∧ ∃ (a : Option Addr) (n c' : Nat), W.cell? ⟨g, off + j, none⟩ = some (.slice a n c') ∧ NmArg W (.slice a n c') ns[j] ∧ n = (ns[j]).length := by
  obtain ⟨g, off, c, a, n, c', e, hg, hc, hn⟩ := h.get hj
  injection e with e1 e2 e3
  exact ⟨g, off, e1, e2, hg, a, n, c', hc, hn, nmc_len hn.1⟩
theorem NmsArg.len' {W : World} {a0 : Option Addr} {m c0 : Nat} {ns : List Nm} (h : NmsArg W (.slice a0 m c0) ns) : m = ns.length := by
  obtain ⟨a, c, e⟩ := h.len
  injection e
theorem NmsArg.max {W : World} {v : Value} {ns : List Nm} (h : NmsArg W v ns) : True := trivial
theorem addK_root {ks : List Nm} (p : Nm) (h : [] ∈ ks) : [] ∈ addK ks p := (mem_addK h).2 (.inl h)
theorem ksOf_root (l : List Nm) : [] ∈ ksOf l := by
  refine snoc_ind (P := fun l => [] ∈ ksOf l) ?_ ?_ l
  · simp [ksOf]
  · intro l n ih; rw [ksOf_snoc]; exact addK_root _ ih
theorem mem_ksOf {l : List Nm} {q : Nm} : q ∈ ksOf l ↔ q = [] ∨ ∃ n ∈ l, q <+: wayN n := by
  refine snoc_ind (P := fun l => q ∈ ksOf l ↔ q = [] ∨ ∃ n ∈ l, q <+: wayN n) ?_ ?_ l
  · simp [ksOf]
  · intro l n ih
    rw [ksOf_snoc, mem_addK (ksOf_root l), ih]
    constructor
    · rintro ((h | ⟨m, h1, h2⟩) | h)
      · exact .inl h
      · exact .inr ⟨m, by simp [h1], h2⟩
      · exact .inr ⟨n, by simp, h⟩
    · rintro (h | ⟨m, h1, h2⟩)
      · exact .inl (.inl h)
      · rcases List.mem_append.1 h1 with h1 | h1
        · exact .inl (.inr ⟨m, h1, h2⟩)
        · rw [List.mem_singleton.1 h1] at h2; exact .inr h2
/-- What the deepest name that a tree has is. -/
theorem wayN_deep (q : Nm) (d : Nat) (hd : d ≤ q.length) : wayN (foldN (q.drop (q.length - d))) = (wayN q).take d := by
  rw [← wayN_take q d hd]
  unfold wayN
  rw [foldN_rev, List.reverse_reverse, foldN_take, foldN_rev, foldN_idem]
theorem wayN_drop (q : Nm) (d : Nat) (hd : d ≤ q.length) : wayN (q.drop (q.length - d)) = (wayN q).take d := by
  rw [← wayN_deep q d hd]; unfold wayN; rw [foldN_idem]
theorem under_deep (q : Nm) (d : Nat) : underN q (foldN (q.drop (q.length - d))) = true := by
  rw [underN_iff]
  refine ⟨(foldN q).take (q.length - d), ?_⟩
  rw [foldN_idem, foldN_drop, List.take_append_drop]
end Go.Proofs.Ytnpnfajgphpabaa

