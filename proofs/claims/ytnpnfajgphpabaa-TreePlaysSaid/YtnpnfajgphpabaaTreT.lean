/-
  The document's rows of names: toponymref24.place.
-/
import Derived.Test.YtnpnfajgphpabaaMQ25
import Derived.Test.YtnpnfajgphpabaaMQ34
namespace Go.Proofs.Ytnpnfajgphpabaa
open Go.RowKit Go.Shelf Go.Maps Go.WideMaps
set_option maxRecDepth 20000
set_option linter.unusedVariables false
set_option linter.unusedSimpArgs false
/-- Names in the document's order, none twice. -/
abbrev SortedN (xs : List Nm) : Prop := xs.Pairwise fun a b => compareN a b = -1
def PlacePost (xs : List Nm) (n : Nm) (w : World) (e : Ending) (w' : World) : Prop :=
  ∃ (k : Nat) (ok : Bool), e = .returned (.tuple #[.int .i64 (k : Int), .bool ok]) ∧ Below w.heap.size w w' ∧ k ≤ xs.length ∧ (ok = true → ∃ h : k < xs.length, compareN xs[k] n = 0) ∧
    (ok = false → (∀ j (h : j < xs.length), j < k → compareN xs[j] n = -1) ∧ ∀ j (h : j < xs.length), k ≤ j → compareN xs[j] n = 1)
theorem sorted_lt {xs : List Nm} {n : Nm} (hs : SortedN xs) {m : Nat} (hm : m < xs.length) (h : compareN xs[m] n = -1) : ∀ j (hj : j < xs.length), j ≤ m → compareN xs[j] n = -1 := by
  intro j hj hjm
  by_cases e : j = m
  · subst e; exact h
  · have h1 := List.pairwise_iff_getElem.1 hs j m hj hm (by omega)
    have h2 := compareN_trans xs[j] xs[m] n (by omega) (by omega)
    rcases compareN_range xs[j] n with c | c | c
    · exact c
    · -- equal to n: then xs[m] <= n <= xs[j]
      have h3 := compareN_trans xs[m] n xs[j] (by omega) (by have := compareN_swap xs[j] n; omega)
      have := compareN_swap xs[j] xs[m]
      omega
    · omega
theorem sorted_gt {xs : List Nm} {n : Nm} (hs : SortedN xs) {m : Nat} (hm : m < xs.length) (h : compareN xs[m] n = 1) : ∀ j (hj : j < xs.length), m ≤ j → compareN xs[j] n = 1 := by
  intro j hj hjm
  by_cases e : m = j
  · subst e; exact h
  · have h1 := List.pairwise_iff_getElem.1 hs m j hm hj (by omega)
    rcases compareN_range xs[j] n with c | c | c
    · have := compareN_trans xs[m] xs[j] n (by omega) (by omega); omega
    · have := compareN_trans xs[m] xs[j] n (by omega) (by omega); omega
    · exact c
theorem slAt_cell {W W' : World} {a : Option Addr} {c : Nat} {xs : List Value} (h : SlAt W (.slice a xs.length c) xs) (hb : Below W.heap.size W W') (j : Nat) (hj : j < xs.length) : ∃ b off : Nat, a = some ⟨b, off, none⟩ ∧ b < W.heap.size ∧ W'.cell? ⟨b, off + j, none⟩ = some xs[j] := by
  obtain ⟨a', c', e, h1, h2, h⟩ := h
  injection e with e1 e2 e3
  subst e1
  rcases h with h | ⟨b, off, rfl, hlt, hc⟩
  · subst h; simp at hj
  · exact ⟨b, off, rfl, hlt, (hb.cell (p := ⟨b, off + j, none⟩) hlt).trans (hc j hj)⟩
section
attribute [local go_sem] Oper.semAt_some
set_option maxRecDepth 100000 in
set_option maxHeartbeats 8000000 in
theorem ref_place (v vn : Value) (xs : List Nm) (n : Nm) (w : World) (hX : NmsAt w v xs) (hs : SortedN xs) (hok : ∀ x ∈ xs, NmOK x) (hl : xs.length ≤ 1048576) (hN : NmAt w vn n) (hk : NmOK n) :
    Calls Try.prog 33 #[v, vn] w (PlacePost xs n w) := by
  obtain ⟨vs, s1, s2, s3⟩ := hX
  obtain ⟨ac, cc, rfl, -⟩ := id s1
  obtain ⟨m, hm⟩ : ∃ m, vs.length = m := ⟨_, rfl⟩
  have HCN := Lib.hid (fun W (hb : Below w.heap.size w W) j (hj : j < vs.length) => slAt_cell s1 hb j hj)
  have HNM := Lib.hid (fun W (hb : Below w.heap.size w W) j (h1 : j < vs.length) (h2 : j < xs.length) => ((s3 j h1).below hb : NmAt W vs[j] xs[j]))
  have HDL := Lib.hid (show xs.length = m by rw [← s2]; exact hm)
  have HVL := Lib.hid hm
  have hm20 : m ≤ 1048576 := by omega
  have HS := Lib.hid hs; have HO := Lib.hid hok; have HN := Lib.hid hN; have HK := Lib.hid hk
  rw [hm]
  clear s1 s3 hs hok hl hN hk hm
  go_enter Try.func33, Try.ntmps33
  go_wp2
  go_loopw [6, 7] (fun va vb w9 => ∃ (wr : World) (a b : Nat), wr = w9 ∧ va = .int .i64 a ∧ vb = .int .i64 b ∧ a ≤ b ∧ b ≤ m ∧ Hid ((∀ j (h : j < xs.length), j < a → compareN xs[j] n = -1) ∧ ∀ j (h : j < xs.length), b ≤ j → compareN xs[j] n = 1) ∧ Hid (Below w.heap.size w wr)) (fun va vb _ => (intOf vb).toNat - (intOf va).toNat)
  case atStart => exact ⟨_, 0, m, rfl, rfl, rfl, Nat.zero_le _, Nat.le_refl _, Lib.hid ⟨fun j h hj => by omega, fun j h hj => by have := HDL.out; omega⟩, Lib.hid (Below.refl _ _)⟩
  case round =>
    obtain ⟨wr, a, b, rfl, rfl, rfl, hab, hbm, HI, HB⟩ := hrel
    by_cases hlt : a < b
    · have hltz : (a : Int) < (b : Int) := by omega
      obtain ⟨q, hq⟩ : ∃ q, (a + b) / 2 = q := ⟨_, rfl⟩
      have hqz : ((a : Int) + (b : Int)).tdiv 2 = (q : Int) := by
        rw [← hq]; rw [Int.tdiv_eq_ediv_of_nonneg (by omega)]; omega
      have hq1 : a ≤ q := by omega
      have hq2 : q < b := by omega
      have hq0 : (0 : Int) ≤ (q : Int) := by omega
      have hqm : (q : Int) < (m : Int) := by omega
      have hk1 : q < vs.length := by have := HVL.out; omega
      have hk2 : q < xs.length := by have := HDL.out; omega
      obtain ⟨g, off, rfl, hg, hcell⟩ := HCN.out wr HB.out q hk1
      have hnm := HNM.out wr HB.out q hk1 hk2
      obtain ⟨y, hy⟩ : ∃ y, xs[q] = y := ⟨_, rfl⟩
      obtain ⟨c, hc⟩ : ∃ c, compareN y n = c := ⟨_, rfl⟩
      have hoy := HO.out _ (List.getElem_mem hk2)
      rw [hy] at hnm hoy
      have hcmp := kn_RCompare vs[q] vn y n c hc wr hnm (HN.out.below HB.out) hoy HK.out
      have HLT := Lib.hid (fun (e : compareN y n = -1) => sorted_lt HS.out hk2 (by rw [hy]; exact e))
      have HGT := Lib.hid (fun (e : compareN y n = 1) => sorted_gt HS.out hk2 (by rw [hy]; exact e))
      have HC := Lib.hid hc
      have HCR := Lib.hid (hc ▸ compareN_range y n)
      have HQ2 : Hid (compareN y n = 0 → ∃ h : q < xs.length, compareN xs[q] n = 0) := Lib.hid (fun e => ⟨hk2, by rw [hy]; exact e⟩)
      obtain ⟨sq, hsq⟩ : ∃ sq, vs[q] = sq := ⟨_, rfl⟩
      rw [hsq] at hcell hcmp
      clear hnm hc hsq hk1 hk2 hq hy hoy
      go_wp2_with fail
      refine hcmp.mono ?_
      rintro e w3 ⟨rfl, hb3⟩
      have HB3 := Lib.hid (HB.out.trans (hb3.mono HB.out.size))
      clear hb3 hcmp hcell
      rcases HCR.out with rfl | rfl | rfl
      · go_wp2
        go_roundw
        case measure => simp [intOf]; omega
        case rel => exact ⟨_, q + 1, b, rfl, by go_num, rfl, by omega, by omega, Lib.hid ⟨fun j h hj => HLT.out HC.out j h (by omega), HI.out.2⟩, HB3⟩
      · go_wp2
        first | go_ret2 | go_ret
        exact ⟨q, true, rfl, HB3.out, by have := HDL.out; omega, fun _ => HQ2.out HC.out, fun h => by cases h⟩
      · go_wp2
        go_roundw
        case measure => simp [intOf]; omega
        case rel => exact ⟨_, a, q, rfl, rfl, rfl, by omega, by omega, Lib.hid ⟨HI.out.1, fun j h hj => HGT.out HC.out j h hj⟩, HB3⟩
    · obtain rfl : b = a := by omega
      go_wp2
      first | go_ret2 | go_ret
      exact ⟨b, false, rfl, HB.out, by have := HDL.out; omega, fun h => by (cases h), fun _ => HI.out⟩
end
end Go.Proofs.Ytnpnfajgphpabaa
