/-
  The library's FormatUint at base 16, of a number of two octets: how many noughts end a number, by the table.
-/
import Derived.Test.YtkjmghnbcnbdbaaGreatDoorMQ14
import Derived.Test.YtkjmghnbcnbdbaaGreatDoorMQ19
import Derived.Test.YtkjmghnbcnbdbaaGreatDoorRefY
import Derived.Laws.BitsAllLaws
namespace Go.Proofs.YtkjmghnbcnbdbaaGreatDoor
open Go.RowKit Go.Shelf Go.Sort
set_option maxRecDepth 20000

def tz64 : List Int := [0, 1, 56, 2, 57, 49, 28, 3, 61, 58, 42, 50, 38, 29, 17, 4, 62, 47, 59, 36, 45, 43, 51, 22, 53, 39, 33, 30, 24, 18, 12, 5, 63, 55, 48, 27, 60, 41, 37, 16, 46, 35, 44, 21, 52, 32, 23, 11, 54, 26, 40, 15, 34, 20, 31, 10, 25, 14, 19, 9, 13, 8, 7, 6]
def TabZ (W : World) : Prop := Lib.TabIs Tryz.prog W "math/bits.deBruijn64tab" .u8 tz64
theorem TabZ.below {W W' : World} (h : TabZ W) (hb : Below W.heap.size W W') : TabZ W' := (Lib.tabBelow_of_tabIs h) W' hb
theorem gTabZ : Tryz.prog.globalNamed "math/bits.deBruijn64tab" = some 3 := by kernel_rfl

set_option maxHeartbeats 2000000 in
theorem bits_tz64 (w : World) (hZ : TabZ w) :
    Calls Tryz.prog 144 #[.int .u64 16] w fun e w' => e = .returned (.int .i64 4) ∧ w' = w := by
  have hc : w.cell? ⟨3, 15, none⟩ = some (.int .u8 4) := Lib.TabIs.cell hZ gTabZ 15 (by decide)
  go_enter Tryz.func144, Tryz.ntmps144
  have hx1 : IntKind.u64.wrap (-16) = 18446744073709551600 := by decide
  have hx2 : bits BinOp.and IntKind.u64 16 18446744073709551600 = 16 := by decide +kernel
  have hx3 : IntKind.u64.wrap 4573923408821661840 = 4573923408821661840 := by decide
  go_wp2
  go_ret
  exact ⟨rfl, rfl⟩
theorem bits_tz (w : World) (hZ : TabZ w) :
    Calls Tryz.prog 136 #[.int .u64 16] w fun e w' => e = .returned (.int .i64 4) ∧ w' = w := by
  have h := bits_tz64 w hZ
  go_enter Tryz.func136, Tryz.ntmps136
  go_wp2_with (go_at_call 144; refine h.mono ?_; rintro e w2 ⟨rfl, rfl⟩)
  go_ret
  exact ⟨rfl, rfl⟩
theorem pow_16 (w : World) :
    Calls Tryz.prog 135 #[.int .i64 16] w fun e w' => e = .returned (.bool true) ∧ w' = w := by
  go_enter Tryz.func135, Tryz.ntmps135
  go_wp2
  go_ret
  exact ⟨rfl, rfl⟩

theorem digs36_at : ∀ m : Fin 16, (⟨#[48, 49, 50, 51, 52, 53, 54, 55, 56, 57, 97, 98, 99, 100, 101, 102, 103, 104, 105, 106, 107, 108, 109, 110, 111, 112, 113, 114, 115, 116, 117, 118, 119, 120, 121, 122]⟩ : ByteArray)[m.val]'(by have := m.isLt; show m.val < 36; omega) = hexC m.val := by decide
theorem digs36_is (k : Nat) (hk : k < 16) (h : k < (⟨#[48, 49, 50, 51, 52, 53, 54, 55, 56, 57, 97, 98, 99, 100, 101, 102, 103, 104, 105, 106, 107, 108, 109, 110, 111, 112, 113, 114, 115, 116, 117, 118, 119, 120, 121, 122]⟩ : ByteArray).size) : (⟨#[48, 49, 50, 51, 52, 53, 54, 55, 56, 57, 97, 98, 99, 100, 101, 102, 103, 104, 105, 106, 107, 108, 109, 110, 111, 112, 113, 114, 115, 116, 117, 118, 119, 120, 121, 122]⟩ : ByteArray)[k]'h = hexC k := digs36_at ⟨k, hk⟩
theorem push_cells {cs : Array Value} {n : Nat} {l : List UInt8} (c : UInt8) (hz : cs.size = 65) (hn : 1 ≤ n ∧ n ≤ 65) (h : ∀ j (hj : j < l.length), cs[n + j]? = some (.int .u8 ((l[j]).toNat : Int))) :
    ∀ j (hj : j < (c :: l).length), (cs.setIfInBounds (n - 1) (.int .u8 (c.toNat : Int)))[n - 1 + j]? = some (.int .u8 (((c :: l)[j]).toNat : Int)) := by
  intro j hj
  rw [Array.getElem?_setIfInBounds]
  cases j with
  | zero => rw [if_pos (by omega), if_pos (by omega)]; rfl
  | succ j =>
    rw [if_neg (by omega), show n - 1 + (j + 1) = n + j by omega]
    exact h j (by simpa using hj)
theorem and15_64 (x : Nat) (h : x < 65536) : bits .and .u64 (x : Int) 15 = (x : Int) % 16 := by
  have e : bits .and .u64 (x : Int) ((15 : Nat) : Int) = ((x &&& 15 : Nat) : Int) := u64_and_nat _ _ (by omega) (by omega)
  have e2 : x &&& 15 = x % 16 := Nat.and_two_pow_sub_one_eq_mod x 4
  rw [e2] at e
  exact e
theorem zero65_size : (Tryz.zeroCells174).size = 65 := by kernel_rfl

set_option maxRecDepth 100000 in
set_option maxHeartbeats 8000000 in
theorem formatBits16 (u : Nat) (hu : u < 65536) (w : World) (hZ : TabZ w) :
    Calls Tryz.prog 118 #[.slice none 0 0, .int .u64 (u : Int), .int .i64 16, .bool false, .bool false] w fun e w' => e = .returned (.tuple #[.slice none 0 0, .string ⟨(hexD u).toArray⟩]) ∧ Below w.heap.size w w' := by
  have hu0 : (0 : Int) ≤ (u : Int) := by omega
  have hZ1 : TabZ (w.alloc (.cells Tryz.zeroCells174 174)) := hZ.below ((Below.refl _ w).alloc (Nat.le_refl _) _)
  have hTz := bits_tz _ hZ1
  have hb0 := Lib.hid (block_new w (.cells Tryz.zeroCells174 174))
  have hB0 := Lib.hid ((Below.refl w.heap.size w).alloc (Nat.le_refl _) (.cells Tryz.zeroCells174 174))
  have hwr : IntKind.u64.wrap (15 : Int) = 15 := by decide
  clear hZ1 hZ
  go_enter Tryz.func118, Tryz.ntmps118
  go_wp2_with (first | (go_at_call 135; refine (pow_16 _).mono ?_; rintro e w2 ⟨rfl, rfl⟩) | (go_at_call 136; refine hTz.mono ?_; rintro e w2 ⟨rfl, rfl⟩))
  go_loopw [1, 13] (fun a i wr => ∃ (x n : Nat) (l : List UInt8) (cs : Array Value), a = .int .u64 (x : Int) ∧ i = .int .i64 (n : Int) ∧ x < 65536 ∧ Hid (n + l.length = 65 ∧ l.length ≤ 3 ∧ x * 16 ^ l.length ≤ u ∧ hexD u = hexD x ++ l) ∧ Hid (wr.heap[w.heap.size]? = some (.cells cs 174) ∧ cs.size = 65 ∧ ∀ j (hj : j < l.length), cs[n + j]? = some (.int .u8 ((l[j]).toNat : Int))) ∧ Hid (Below w.heap.size w wr)) (fun a _ _ => (intOf a).toNat)
  case atStart => exact ⟨u, 65, [], _, rfl, rfl, hu, Lib.hid ⟨rfl, by simp, by simp, by simp⟩, Lib.hid ⟨hb0.out, zero65_size, fun j hj => absurd hj (Nat.not_lt_zero j)⟩, hB0⟩
  case round =>
    obtain ⟨x, n, l, cs, rfl, rfl, hx, HL, HC, HB⟩ := hrel
    have hx0 : (0 : Int) ≤ (x : Int) := by omega
    have hn4 : 62 ≤ n ∧ n ≤ 65 := by have := HL.out; omega
    have hn1 : (0 : Int) ≤ (n : Int) - 1 := by omega
    have hn2 : (n : Int) - 1 < 65 := by omega
    have hn3 : ((n : Int) - 1).toNat = n - 1 := by omega
    have hz := HC.out.2.1
    have hce := cell_of_blockM HC.out.1 (n - 1) (cs[n - 1]'(by omega)) (Array.getElem?_eq_getElem (by omega))
    have hfr := frozen_block HC.out.1 (n - 1)
    have hand := and15_64 x hx
    have hbz := block_lt HC.out.1
    by_cases h16 : (16 : Int) ≤ (x : Int)
    · have HN := Lib.hid (show n - 1 + (hexC (x % 16) :: l).length = 65 ∧ (hexC (x % 16) :: l).length ≤ 3 ∧ x / 16 * 16 ^ (hexC (x % 16) :: l).length ≤ u ∧ hexD u = hexD (x / 16) ++ (hexC (x % 16) :: l) from by
        obtain ⟨g1, g2, g3, g4⟩ := HL.out
        refine ⟨by simp; omega, ?_, ?_, by rw [g4, hexD_big (by omega)]; simp⟩
        · by_cases h3 : l.length < 3
          · simp; omega
          · have h5 : (16 : Nat) ^ 3 ≤ 16 ^ l.length := Nat.pow_le_pow_right (by omega) (by omega)
            have h6 : 16 * 16 ^ l.length ≤ x * 16 ^ l.length := Nat.mul_le_mul_right _ (by omega)
            omega
        · have h7 : x / 16 * 16 * 16 ^ l.length ≤ x * 16 ^ l.length := Nat.mul_le_mul_right _ (Nat.div_mul_le_self x 16)
          rw [List.length_cons, Nat.pow_succ, Nat.mul_comm (16 ^ l.length) 16, ← Nat.mul_assoc]
          omega)
      have HM := Lib.hid (show x / 16 < x from by omega)
      have hxi : (x : Int) / 16 = ((x / 16 : Nat) : Int) := by omega
      have HXI := Lib.hid hxi
      clear hxi
      go_wp2
      go_roundw
      case rel =>
        rw [digs36_is (x % 16) (by omega)]
        refine ⟨x / 16, n - 1, hexC (x % 16) :: l, cs.setIfInBounds (n - 1) (.int .u8 ((hexC (x % 16)).toNat : Int)), congrArg (Value.int .u64) HXI.out, congrArg (Value.int .i64) (by omega), by omega, HN, Lib.hid ⟨block_set HC.out.1 (n - 1) _, by rw [Array.size_setIfInBounds]; exact hz, push_cells _ hz (by omega) HC.out.2.2⟩, Lib.hid (HB.out.setCell (p := ⟨w.heap.size, n - 1, none⟩) (Nat.le_refl w.heap.size) _)⟩
      case measure => have := HM.out; simp only [intOf, HXI.out]; omega
    · have hal : Tryz.prog.arrayLen 174 = 65 := by simp [Program.arrayLen, Tryz.underlying174]
      have HD := Lib.hid (show hexD u = hexC x :: l from by rw [HL.out.2.2.2, hexD_small (by omega)]; rfl)
      have hll : l.length + 1 = 65 - (n - 1) := by have := HL.out.1; omega
      have hsl1 : ∀ W, (Instr.sliceAt 174 (.pointer (some ⟨w.heap.size, 0, none⟩)) (some (.int .i64 ((n : Int) - 1))) none none).run Tryz.prog W = .ok (.slice (some ⟨w.heap.size, n - 1, none⟩) (65 - (n - 1)) (65 - (n - 1))) W := fun W => by
        rw [run_sliceAt_array_l W 174 ⟨w.heap.size, 0, none⟩ (by simp [Program.arrayLen, Program.elem, Tryz.underlying174]) .i64 ((n : Int) - 1) (by omega) (by rw [hal]; omega)]
        go_simp
        try omega
      have hp := push_cells (hexC x) hz (by omega) HC.out.2.2
      have hcv : (convert 25 9 (.slice (some ⟨w.heap.size, n - 1, none⟩) (65 - (n - 1)) (65 - (n - 1)))).run Tryz.prog (wr.setCell ⟨w.heap.size, n - 1, none⟩ (.int .u8 ((hexC x).toNat : Int))) = .ok (.string ⟨(hexC x :: l).toArray⟩) (wr.setCell ⟨w.heap.size, n - 1, none⟩ (.int .u8 ((hexC x).toNat : Int))) := by
        have h := run_convert_bytes_back (P := Tryz.prog) (wr.setCell ⟨w.heap.size, n - 1, none⟩ (.int .u8 ((hexC x).toNat : Int))) 25 9 5 ⟨w.heap.size, n - 1, none⟩ (65 - (n - 1)) (hexC x :: l) Tryz.underlying25 Tryz.underlying5 Tryz.underlying9 (fun j hj => by
          rw [Lib.add_plain]
          exact cell_of_blockM (block_set HC.out.1 (n - 1) _) (n - 1 + j) _ (hp j hj))
        rw [List.length_cons, hll] at h
        exact h
      have hxl : x < (⟨#[48, 49, 50, 51, 52, 53, 54, 55, 56, 57, 97, 98, 99, 100, 101, 102, 103, 104, 105, 106, 107, 108, 109, 110, 111, 112, 113, 114, 115, 116, 117, 118, 119, 120, 121, 122]⟩ : ByteArray).size := by show x < 36; omega
      rw [← digs36_is x (by omega) hxl] at hcv
      have hx16 : x < 16 := by omega
      have HE := Lib.hid (HB.out.setCell (p := ⟨w.heap.size, n - 1, none⟩) (Nat.le_refl w.heap.size) (.int .u8 (((⟨#[48, 49, 50, 51, 52, 53, 54, 55, 56, 57, 97, 98, 99, 100, 101, 102, 103, 104, 105, 106, 107, 108, 109, 110, 111, 112, 113, 114, 115, 116, 117, 118, 119, 120, 121, 122]⟩ : ByteArray)[x]'hxl).toNat : Int)))
      clear hp hal
      go_wp2
      go_ret2
      exact ⟨by rw [HD.out, digs36_is x hx16 hxl]; rfl, HE.out⟩
set_option maxRecDepth 100000 in
set_option maxHeartbeats 4000000 in
theorem istrconv_FormatUint16 (u : Nat) (hu : u < 65536) (w : World) (hZ : TabZ w) :
    Calls Tryz.prog 92 #[.int .u64 (u : Int), .int .i64 16] w fun e w' => e = .returned (.string ⟨(hexD u).toArray⟩) ∧ Below w.heap.size w w' := by
  have hu0 : (0 : Int) ≤ (u : Int) := by omega
  have hF := formatBits16 u hu w hZ
  go_enter Tryz.func92, Tryz.ntmps92
  go_wp2_with (go_at_call 118; refine hF.mono ?_; rintro e w2 ⟨rfl, hb⟩)
  go_ret
  exact ⟨rfl, hb⟩
theorem strconv_FormatUint16 (u : Nat) (hu : u < 65536) (w : World) (hZ : TabZ w) :
    Calls Tryz.prog 63 #[.int .u64 (u : Int), .int .i64 16] w fun e w' => e = .returned (.string ⟨(hexD u).toArray⟩) ∧ Below w.heap.size w w' := by
  have h := istrconv_FormatUint16 u hu w hZ
  go_enter Tryz.func63, Tryz.ntmps63
  go_wp2_with (go_at_call 92; refine h.mono ?_; rintro e w2 ⟨rfl, hb⟩)
  go_ret
  exact ⟨rfl, hb⟩
end Go.Proofs.YtkjmghnbcnbdbaaGreatDoor
