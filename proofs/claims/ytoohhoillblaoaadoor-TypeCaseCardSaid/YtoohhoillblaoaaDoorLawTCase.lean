/-
  TypeCase: a type's word in whichever letters is that type; two types have two words.
-/
import Derived.Test.YtoohhoillblaoaaDoorLawK3
import Derived.Test.YtoohhoillblaoaaDoorLawTAny
import Derived.OpenShut
import Derived.Deep.QuietTactic
import Derived.BigQuiet
namespace Go.Proofs.YtoohhoillblaoaaDoor
open Go.RowKit Go.Shelf
open Go.ChangeShapes
theorem great_up (c : UInt8) (h1 : 65 ≤ (c.toNat : Int)) (h2 : (c.toNat : Int) ≤ 90) : greatU (c + 32) = greatU c ∧ (c.toNat : Int) + 32 = ((c + 32 : UInt8).toNat : Int) := by
  have e : (c + 32 : UInt8).toNat = c.toNat + 32 := by rw [UInt8.toNat_add]; simp; omega
  refine ⟨?_, by rw [e]; omega⟩
  apply UInt8.toNat.inj
  rw [greatU_nat, greatU_nat, e, if_pos (by omega), if_neg (by omega)]; omega

set_option maxRecDepth 100000 in
set_option maxHeartbeats 8000000 in
theorem law3_Case (a : Int) (ha : (Lit.int .u16 a).wf = true) (b : Int) (hb : (Lit.int .u16 b).wf = true) (wh : Int) (hwh : (Lit.int .u16 wh).wf = true) (w : World) (hT : Tab w) :
    Calls Tryd.prog 4 #[.int .u16 a, .int .u16 b, .int .u16 wh] w fun e w' => e = .returned (.bool true) ∧ Below w.heap.size w w' := by
  obtain ⟨ha0, ha1⟩ := bounds_u16 ha
  obtain ⟨hb0, hb1⟩ := bounds_u16 hb
  obtain ⟨hw0, hw1⟩ := bounds_u16 hwh
  clear ha hb hwh
  by_cases hz : (a == 0) = true
  · go_enter Tryd.func4, Tryd.ntmps4
    have b0 := Below.refl w.heap.size w
    go_wp2_with fail
    refine (law3_known _ hT).mono ?_
    rintro e w1 ⟨rfl, d1⟩
    have qw1 := (b0).trans (d1.mono (b0).size)
    have T_w1 := hT.below d1
    clear b0 hT d1
    go_wp2_with fail
    go_ret
    exact ⟨rfl, qw1⟩
  have hz0 : (a == 0) = false := by simpa using hz
  clear hz
  by_cases hy : (b == 0) = true
  · go_enter Tryd.func4, Tryd.ntmps4
    have b0 := Below.refl w.heap.size w
    go_wp2_with fail
    refine (law3_known _ hT).mono ?_
    rintro e w1 ⟨rfl, d1⟩
    have qw1 := (b0).trans (d1.mono (b0).size)
    have T_w1 := hT.below d1
    clear b0 hT d1
    go_wp2_with fail
    go_ret
    exact ⟨rfl, qw1⟩
  have hy0 : (b == 0) = false := by simpa using hy
  clear hy
  have ha2 : a ≠ 0 := by simpa using hz0
  have hb2 : b ≠ 0 := by simpa using hy0
  obtain ⟨n, rfl⟩ : ∃ n : Nat, a = n := ⟨a.toNat, by omega⟩
  obtain ⟨m, rfl⟩ : ∃ m : Nat, b = m := ⟨b.toNat, by omega⟩
  obtain ⟨TA, hA0, hAz, _⟩ := str_of (typeTextM n)
  have hAA : (⟨(typeTextM n).toArray⟩ : ByteArray) = TA := ba_ext (by rw [hA0])
  obtain ⟨TB, hB0, hBz, _⟩ := str_of (typeTextM m)
  have hBB : (⟨(typeTextM m).toArray⟩ : ByteArray) = TB := ba_ext (by rw [hB0])
  have hTa := fun W h => kt_text n _ rfl (by omega) (by omega) W h
  have hTb := fun W h => kt_text m _ rfl (by omega) (by omega) W h
  rw [hAA] at hTa
  rw [hBB] at hTb
  have hAl : TA.size ≤ 35184372088000 := by rw [hAz]; exact text_len n (by omega)
  have hinj := text_inj n m (by omega) (by omega) (by omega) (by omega)
  have hgt := great_text n
  have hpg := parse_great n (by omega) (by omega)
  rw [← hA0] at hgt hpg hinj
  rw [← hB0] at hinj
  have HG := Lib.hid hgt; have HP := Lib.hid hpg; have HI := Lib.hid hinj
  clear hgt hpg hinj hA0 hAz hAA hB0 hBz hBB ha2 hb2
  have hTk := hT
  have hconv := fun W => Lib.run_convert_string_bytes (P := Tryd.prog) W 9 34 5 TA Tryd.underlying9 Tryd.underlying34 Tryd.underlying5
  go_enter Tryd.func4, Tryd.ntmps4
  have b0 := Below.refl w.heap.size w
  go_wp2_with fail
  refine (law3_known _ hT).mono ?_
  rintro e w1 ⟨rfl, d1⟩
  have qw1 := (b0).trans (d1.mono (b0).size)
  have T_w1 := hT.below d1
  clear b0 hT d1
  go_wp2_with fail
  refine (hTa _ T_w1).mono ?_
  rintro e w2 ⟨rfl, d2⟩
  have qw2 := (qw1).trans (d2.mono (qw1).size)
  have T_w2 := T_w1.below d2
  clear qw1 T_w1 d2
  obtain ⟨hrow, hbel⟩ := BRow.of_str w2 TA
  have hTc := T_w2.below hbel
  have hBc := (qw2).trans (hbel.mono (qw2).size)
  have hcw := hconv w2
  clear hconv
  generalize Lib.bytesWorld w2 5 TA = wc at *
  generalize grownCap w2 TA.size 0 5 = cap at *
  have hgw : w.heap.size ≤ w2.heap.size := (qw2).size
  generalize w2.heap.size = g at *
  obtain ⟨z, hzz⟩ : ∃ z, TA.size = z := ⟨_, rfl⟩
  have hlen : TA.data.toList.length = z := by rw [size_data, hzz]
  rw [hzz] at hcw hAl
  have HLEN := Lib.hid hlen; have HZZ := Lib.hid hzz
  clear hlen hzz hbel hTc
  go_wp2_with fail
  go_loopw [8] (fun i wr => ∃ (k : Nat) (l : List UInt8), i = .int .i64 k ∧ k ≤ z ∧ l.length = z ∧ Hid (greatL l = TA.data.toList) ∧ BRow g l wr ∧ Below w.heap.size w wr) (fun i _ => z - (intOf i).toNat)
  case atStart => exact ⟨0, TA.data.toList, rfl, Nat.zero_le _, HLEN.out, Lib.hid HG.out, hrow, hBc⟩
  case round =>
    obtain ⟨k, l, rfl, hk, hl, HL, hr, hB⟩ := hrel
    have HLL := Lib.hid hl; clear hl
    by_cases hlt : k < z
    · have hkl : k < l.length := by rw [HLL.out]; exact hlt
      obtain ⟨hck, hfk⟩ := hr k hkl
      have hset := hr.set k hkl (l[k] + 32)
      have hup := great_up l[k]
      have hls : greatU (l[k] + 32) = greatU l[k] → greatL (l.set k (l[k] + 32)) = TA.data.toList := fun h => by
        rw [← HL.out]; unfold greatL
        rw [List.map_set, h, ← List.map_set, List.set_getElem_self]
      have HLS := Lib.hid hls; have HUP := Lib.hid hup
      have hb2 : Below w.heap.size w (wr.setCell ⟨g, k, none⟩ (bv (l[k] + 32))) := hB.setCell (p := ⟨g, k, none⟩) hgw _
      have HL2 : Hid ((l.set k (l[k] + 32)).length = z) := Lib.hid (by rw [List.length_set]; exact HLL.out)
      have hc255 : (l[k].toNat : Int) ≤ 255 := by have := l[k].toNat_lt; omega
      have hk0 : (0 : Int) ≤ (k : Int) % 16 := by omega
      have hk16 : (k : Int) % 16 < 16 := by omega
      generalize l.set k (l[k] + 32) = l2 at *
      generalize l[k] = c at *
      unfold bv at hck hset hb2
      clear hls hup
      by_cases h1 : 65 ≤ (c.toNat : Int) ∧ (c.toNat : Int) ≤ 90
      · obtain ⟨h1, h2⟩ := h1
        obtain ⟨hg1, hg2⟩ := HUP.out h1 h2
        have HS := Lib.hid (HLS.out hg1)
        rw [← hg2] at hset hb2
        clear hg1 hg2 HUP HLS
        go_wp2
        all_goals
          go_roundw
          case rel => first | exact ⟨k + 1, l2, by go_num, by omega, HL2.out, HS, hset, hb2⟩ | exact ⟨k + 1, l, by go_num, by omega, HLL.out, HL, hr, hB⟩
          case measure => simp [intOf]; omega
      · have h3 : (c.toNat : Int) < 65 ∨ (65 ≤ (c.toNat : Int) ∧ 90 < (c.toNat : Int)) := by omega
        clear h1 hset hb2 HUP HLS
        rcases h3 with h1 | ⟨h1, h2⟩
        all_goals
          go_wp2
          go_roundw
          case rel => exact ⟨k + 1, l, by go_num, by omega, HLL.out, HL, hr, hB⟩
          case measure => simp [intOf]; omega
    · obtain rfl : k = z := by omega
      have hback := hr.back k cap HLL.out.symm
      obtain ⟨S, hS0, hSz, _⟩ := str_of l
      have hSS : (⟨l.toArray⟩ : ByteArray) = S := ba_ext (by rw [hS0])
      rw [hSS] at hback
      have hPs := fun W => kt_parse S n 0 (HP.out _ (by rw [hS0]; exact HL.out)) W (by have := HLL.out; omega)
      clear hr hS0 hSz hSS
      by_cases he : n = m
      · subst he
        have e1 : ((n : Int) == (n : Int)) = true := by simp
        have hTb := hTa
        go_wp2_with fail
        refine (hPs _).mono ?_
        rintro e y1 ⟨rfl, d1⟩
        have B1 := hB.trans (d1.mono hB.size)
        go_wp2_with fail
        refine (hTa _ (hTk.below B1)).mono ?_
        rintro e y2 ⟨rfl, d2⟩
        have B2 := B1.trans (d2.mono B1.size)
        go_wp2_with fail
        refine (hTb _ (hTk.below B2)).mono ?_
        rintro e y3 ⟨rfl, d3⟩
        have B3 := B2.trans (d3.mono B2.size)
        go_wp2_with fail
        go_ret
        exact ⟨rfl, B3⟩
      · have e1 : ((n : Int) == (m : Int)) = false := by simp; omega
        have e2 : (TA.toList == TB.toList) = false := by rw [toList_data, toList_data]; simp only [beq_eq_false_iff_ne, ne_eq]; exact fun h => he (HI.out h)
        clear he
        go_wp2_with fail
        refine (hPs _).mono ?_
        rintro e y1 ⟨rfl, d1⟩
        have B1 := hB.trans (d1.mono hB.size)
        go_wp2_with fail
        refine (hTa _ (hTk.below B1)).mono ?_
        rintro e y2 ⟨rfl, d2⟩
        have B2 := B1.trans (d2.mono B1.size)
        go_wp2_with fail
        refine (hTb _ (hTk.below B2)).mono ?_
        rintro e y3 ⟨rfl, d3⟩
        have B3 := B2.trans (d3.mono B2.size)
        go_wp2_with fail
        go_ret
        exact ⟨rfl, B3⟩
end Go.Proofs.YtoohhoillblaoaaDoor
