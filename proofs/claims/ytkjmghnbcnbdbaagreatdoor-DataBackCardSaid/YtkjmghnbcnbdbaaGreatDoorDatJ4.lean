/-
  rdata.groups.
-/
import Derived.Test.YtkjmghnbcnbdbaaGreatDoorNumX
import Derived.Test.YtkjmghnbcnbdbaaGreatDoorMQ19
import Derived.Test.YtkjmghnbcnbdbaaGreatDoorMQ06
import Derived.Deep.RegionLaw
import Derived.Deep.RegionHeld3
namespace Go.Proofs.YtkjmghnbcnbdbaaGreatDoor
open Go.RowKit Go.Shelf
set_option maxRecDepth 20000

theorem hexes_snoc (a b : UInt8) : ∀ l : List UInt8, l.length % 2 = 0 → hexes (l ++ [a, b]) = hexes l ++ [hexD (256 * a.toNat + b.toNat)]
  | [], _ => rfl
  | [x], h => by simp at h
  | x :: y :: r, h => by
    have ih := hexes_snoc a b r (by simp at h; omega)
    show hexD _ :: hexes (r ++ [a, b]) = _
    rw [ih]; rfl
theorem hexes_odd (a : UInt8) : ∀ l : List UInt8, l.length % 2 = 0 → hexes (l ++ [a]) = hexes l
  | [], _ => rfl
  | [x], h => by simp at h
  | x :: y :: r, h => by
    have ih := hexes_odd a r (by simp at h; omega)
    show hexD _ :: hexes (r ++ [a]) = _
    rw [ih]; rfl
theorem hexes_len : ∀ l : List UInt8, (hexes l).length = l.length / 2
  | [] => rfl
  | [x] => by simp [hexes]
  | x :: y :: r => by
    have ih := hexes_len r
    show (hexes r).length + 1 = (r.length + 1 + 1) / 2
    rw [ih]; omega
theorem hexD_len (n : Nat) (h : n < 65536) : (hexD n).length ≤ 4 := by
  have s1 : ∀ m, m < 16 → (hexD m).length = 1 := fun m h => by rw [hexD_small h]; rfl
  have st : ∀ m, ¬ m < 16 → (hexD m).length = (hexD (m / 16)).length + 1 := fun m h => by rw [hexD_big h]; simp
  by_cases h1 : n < 16
  · rw [s1 n h1]; omega
  · rw [st n h1]
    by_cases h2 : n / 16 < 16
    · rw [s1 _ h2]; omega
    · rw [st _ h2]
      by_cases h3 : n / 16 / 16 < 16
      · rw [s1 _ h3]; omega
      · rw [st _ h3, s1 _ (by omega)]; omega
theorem hexes_each : ∀ (l : List UInt8), ∀ x ∈ hexes l, x.length ≤ 4
  | [], x, h => by simp [hexes] at h
  | [_], x, h => by simp [hexes] at h
  | a :: b :: r, x, h => by
    have h : x = hexD (256 * a.toNat + b.toNat) ∨ x ∈ hexes r := by simpa [hexes] using h
    rcases h with rfl | h
    · exact hexD_len _ (by have := a.toNat_lt; have := b.toNat_lt; omega)
    · exact hexes_each r x h
theorem or_octets (a b : UInt8) : bits .or .u64 ((a.toNat : Int) * 256) (b.toNat : Int) = ((256 * a.toNat + b.toNat : Nat) : Int) := by
  have h1 := a.toNat_lt
  have h2 := b.toNat_lt
  rw [show ((a.toNat : Int) * 256) = ((256 * a.toNat : Nat) : Int) by omega, u64_or_nat _ _ (by omega) (by omega)]
  congr 1
  exact (Nat.two_pow_add_eq_or_of_lt (i := 8) (by omega) a.toNat).symm

set_option maxHeartbeats 4000000 in
theorem rdata_groups (v : Value) (raw : List UInt8) (w : World) (hA : SlAt w v (raw.map bv)) (hk : raw.length ≤ 1048576) (hZ : TabZ w) :
    Calls Tryz.prog 28 #[v] w fun e w' => e = .returned (.string ⟨(sepBy [58] (hexes raw)).toArray⟩) ∧ Below w.heap.size w w' := by
  obtain ⟨an, cn, rfl, _⟩ := id hA
  have hcell := fun W (hb : Below w.heap.size w W) j (hj : j < (raw.map bv).length) => hA.cell hb j hj
  obtain ⟨n, hn⟩ : ∃ n, raw.length = n := ⟨_, rfl⟩
  have HL := Lib.hid hn
  have hnb : n ≤ 1048576 := by omega
  rw [List.length_map, hn]
  clear hn hk hA
  go_enter Tryz.func28, Tryz.ntmps28
  go_wp2_with fail
  go_loopw [3, 4, 5] (fun u i z wr => ∃ (k : Nat) (done : Nm), i = .int .i64 k ∧ k ≤ n ∧ OwnG 9 strV wr w.heap.size u done ∧ Below w.heap.size w wr ∧ Hid (k % 2 = 0 ∧ done = hexes (raw.take k))) (fun _ i _ _ => n - (intOf i).toNat)
  case atStart => exact ⟨0, [], rfl, Nat.zero_le _, OwnG.nil _ _, Below.refl _ _, Lib.hid ⟨rfl, rfl⟩⟩
  case round =>
    obtain ⟨k, done, rfl, hk0, hown, hB, HR⟩ := hrel
    obtain ⟨au, cu, rfl⟩ := hown.shape
    have hdk : done.length ≤ k := by rw [HR.out.2, hexes_len, List.length_take]; omega
    have HD := Lib.hid hdk; clear hdk
    generalize hdl : done.length = dl at *
    have HDL := Lib.hid hdl; clear hdl
    have hBz := hB.size
    have hkn2 : (0 : Int) ≤ (k : Int) + 1 := by omega
    by_cases hlt : k + 1 < n
    · have hkd : k + 1 < raw.length := by rw [HL.out]; exact hlt
      obtain ⟨g, off, rfl, hg, hc1⟩ := hcell wr hB k (by rw [List.length_map]; omega)
      obtain ⟨g2, off2, e2, _, hc2⟩ := hcell wr hB (k + 1) (by rw [List.length_map]; exact hkd)
      cases e2
      rw [List.getElem_map] at hc1 hc2
      have hltI : (k : Int) + 1 < (n : Int) := by omega
      have hltJ : (k : Int) < (n : Int) := by omega
      have hnat : ((k : Int) + 1).toNat = k + 1 := by omega
      have hHS := Lib.hid (show hexes (raw.take (k + 2)) = hexes (raw.take k) ++ [hexD (256 * (raw[k]'(by omega)).toNat + raw[k + 1].toNat)] from by
        have e : raw.take (k + 2) = raw.take k ++ [raw[k]'(by omega), raw[k + 1]] := by
          rw [List.take_succ_eq_append_getElem hkd, List.take_succ_eq_append_getElem (by omega : k < raw.length), List.append_assoc]; rfl
        rw [e, hexes_snoc _ _ _ (by rw [List.length_take]; have := HR.out.1; omega)])
      have hor := or_octets (raw[k]'(by omega)) raw[k + 1]
      have hcc1 : ((raw[k]'(by omega)).toNat : Int) ≤ 255 := by have := (raw[k]'(by omega)).toNat_lt; omega
      have hcc2 : (raw[k + 1].toNat : Int) ≤ 255 := by have := raw[k + 1].toNat_lt; omega
      have hm : 256 * (raw[k]'(by omega)).toNat + raw[k + 1].toNat < 65536 := by omega
      unfold bv at hc1 hc2
      clear hcell
      generalize (raw[k]'(by omega)) = x1 at *
      generalize raw[k + 1] = x2 at *
      generalize 256 * x1.toNat + x2.toNat = m at *
      have hT := strconv_FormatUint16 m hm wr.drew (hZ.below (below_drew1 hB))
      generalize hexD m = y at *
      obtain ⟨sx, hy0, _, _⟩ := str_of y
      rw [str_name hy0] at hT
      have HC := Lib.hid (show [Value.string sx] = [y].map strV by rw [← hy0]; simp [strV])
      have HR2 := Lib.hid (show (k + 2) % 2 = 0 ∧ done ++ [y] = hexes (raw.take (k + 2)) from ⟨by have := HR.out.1; omega, by rw [hHS.out, HR.out.2]⟩)
      clear hHS hy0 HR
      go_wp2_with fail
      go_region
      have hB1 : Below w.heap.size w wr.drew := below_drew1 hB
      have hown1 : OwnG 9 strV wr.drew w.heap.size (.slice au dl cu) done := hown.drew
      go_wp2_with (first | (go_at_call 63; refine hT.mono ?_; rintro e w2 ⟨rfl, hb2⟩) | (at_builtin; refine wpl_append_g w2 rfl (.tmp 26) (.tmp 29) elemStr rfl strV_one w.heap.size (.slice au dl cu) done rfl (hown1.below hb2) [.string sx] [y] HC.out 1 1 rfl rfl (Nat.le_trans hBz hb2.size) (by have := HD.out; have := HDL.out; unfold maxLen; simp; omega) (by have := HD.out; have := HDL.out; simp; omega) ?_; intro v3 w3 hown3 hg3; have hB3 : Below w.heap.size w w3 := (hB1.trans (hb2.mono hBz)).grown hg3 (Nat.le_trans hBz hb2.size) hown.base_le))
      go_roundw
      case rel => exact ⟨k + 2, done ++ [y], by go_num, by omega, hown3, hB3, HR2⟩
      case measure => simp [intOf]; omega
    · have hltI : ¬ (k : Int) + 1 < (n : Int) := by omega
      have H0 : Hid (done = hexes raw) := Lib.hid (by
        rw [HR.out.2]
        by_cases he : k = n
        · rw [List.take_of_length_le (by rw [HL.out, he]; exact Nat.le_refl _)]
        · have hkd : k < raw.length := by rw [HL.out]; omega
          have e : raw = raw.take k ++ [raw[k]] := by
            conv => lhs; rw [← List.take_append_drop k raw]
            congr 1
            rw [List.drop_eq_getElem_cons hkd, List.drop_of_length_le (by rw [HL.out]; omega)]
          conv => rhs; rw [e]
          rw [hexes_odd _ _ (by rw [List.length_take]; have := HR.out.1; omega)])
      have hJ := join_nm (.slice au dl cu) done ⟨#[58]⟩ wr (HDL.out ▸ hown.nmAt) (by have := HD.out; have := HDL.out; omega) (by
        have := sepBy_len [58] 4 done (fun x hx => by rw [H0.out] at hx; exact hexes_each raw x hx)
        have e : (⟨#[58]⟩ : ByteArray).data.toList = [58] := rfl
        rw [e]
        have h1 := HD.out; have h2 := HDL.out
        simp only [List.length_singleton] at this
        omega)
      clear HR hcell
      go_wp2_with (go_at_call 29; refine hJ.mono ?_; rintro e w2 ⟨rfl, hb2⟩)
      go_ret
      exact ⟨by rw [H0.out]; rfl, hB.trans (hb2.mono hBz)⟩

set_option maxRecDepth 100000 in
set_option maxHeartbeats 8000000 in
theorem text_g (v : Value) (d : Dat) (w : World) (hA : DatAt w v d) (hk : DatFew d) (hZ : TabZ w) (ht : d.ty = 28) :
    Calls Tryz.prog 12 #[v] w fun e w' => e = .returned (.string ⟨(textD d).toArray⟩) ∧ Below w.heap.size w w' := by
  have hM : textD d = sepBy [58] (hexes d.raw) := by unfold textD; rw [ht]; rfl
  obtain ⟨vn, vu, vt, vr, rfl, a1, a2, a3, a4⟩ := hA
  have hCall := fun W (hb : Below w.heap.size w W) => rdata_groups vr d.raw W (a4.below hb) hk.1.2.2.2.2.2.2 (hZ.below hb)
  rw [ht]
  have HM := Lib.hid hM
  clear hM
  have hb0 : Below w.heap.size w (w.alloc (.cells #[.int .i64 28, vn, vu, vt, vr] 27)) := (Below.refl _ w).alloc (Nat.le_refl _) _
  have hbx := block_new w (.cells #[.int .i64 28, vn, vu, vt, vr] 27)
  obtain ⟨c0, c1, c2, c3, c4⟩ := cells5 hbx
  have HC := Lib.hid (hCall _ hb0); have HB0 := Lib.hid hb0
  clear hCall hbx hk hZ hb0 a1 a2 a3 a4 ht
  go_enter Tryz.func12, Tryz.ntmps12
  go_wp2_with (go_at_call 28; refine (HC.out).mono ?_; rintro e w2 ⟨rfl, hb2⟩)
  go_ret
  exact ⟨by rw [HM.out]; rfl, HB0.out.trans (hb2.mono (by simp))⟩
theorem rdata_TextZ (v : Value) (d : Dat) (w : World) (hA : DatAt w v d) (hk : DatFew d) (hT : Tab w) (hZ : TabZ w) :
    Calls Tryz.prog 12 #[v] w fun e w' => e = .returned (.string ⟨(textD d).toArray⟩) ∧ Below w.heap.size w w' := by
  by_cases h28 : d.ty = 28
  · exact text_g v d w hA hk hZ h28
  · exact rdata_Text v d w hA hk hT h28
end Go.Proofs.YtkjmghnbcnbdbaaGreatDoor
