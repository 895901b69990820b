/-
  Ten at base 16; decimals; braces shown.
-/
import Derived.Test.YtgalihmmlcnahaaDoorGenD
import Derived.Laws.BitsAllLaws
import Derived.Lib.AppendIntMem
namespace Go.Proofs.YtgalihmmlcnahaaDoor
open Go.RowKit Go.Shelf Go.Sort
set_option maxRecDepth 20000
set_option linter.unusedVariables false
set_option linter.unusedSimpArgs false

def tzG : List Int := [0, 1, 56, 2, 57, 49, 28, 3, 61, 58, 42, 50, 38, 29, 17, 4, 62, 47, 59, 36, 45, 43, 51, 22, 53, 39, 33, 30, 24, 18, 12, 5, 63, 55, 48, 27, 60, 41, 37, 16, 46, 35, 44, 21, 52, 32, 23, 11, 54, 26, 40, 15, 34, 20, 31, 10, 25, 14, 19, 9, 13, 8, 7, 6]
def TabG (W : World) : Prop := Lib.TabIs Tryd.prog W "math/bits.deBruijn64tab" .u8 tzG
theorem TabG.below {W W' : World} (h : TabG W) (hb : Below W.heap.size W W') : TabG W' := (Lib.tabBelow_of_tabIs h) W' hb
theorem gTabG : Tryd.prog.globalNamed "math/bits.deBruijn64tab" = some 6 := by kernel_rfl
def TabP (W : World) : Prop := Lib.TabIs Tryd.prog W "internal/strconv.uint64pow10" .u64 Lib.pow10Tab
theorem TabP.below {W W' : World} (h : TabP W) (hb : Below W.heap.size W W') : TabP W' := (Lib.tabBelow_of_tabIs h) W' hb
set_option maxHeartbeats 2000000 in
theorem bitsG_tz64 (w : World) (hZ : TabG w) :
    Calls Tryd.prog 83 #[.int .u64 16] w fun e w' => e = .returned (.int .i64 4) ∧ w' = w := by
  have hc : w.cell? ⟨6, 15, none⟩ = some (.int .u8 4) := Lib.TabIs.cell hZ gTabG 15 (by decide)
  go_enter Tryd.func83, Tryd.ntmps83
  have hx1 : IntKind.u64.wrap (-16) = 18446744073709551600 := by decide
  have hx2 : bits BinOp.and IntKind.u64 16 18446744073709551600 = 16 := by decide +kernel
  have hx3 : IntKind.u64.wrap 4573923408821661840 = 4573923408821661840 := by decide
  go_wp2
  go_ret
  exact ⟨rfl, rfl⟩
theorem bitsG_tz (w : World) (hZ : TabG w) :
    Calls Tryd.prog 74 #[.int .u64 16] w fun e w' => e = .returned (.int .i64 4) ∧ w' = w := by
  have h := bitsG_tz64 w hZ
  go_enter Tryd.func74, Tryd.ntmps74
  go_wp2_with (go_at_call 83; refine h.mono ?_; rintro e w2 ⟨rfl, rfl⟩)
  go_ret
  exact ⟨rfl, rfl⟩
theorem powG_16 (w : World) :
    Calls Tryd.prog 73 #[.int .i64 16] w fun e w' => e = .returned (.bool true) ∧ w' = w := by
  go_enter Tryd.func73, Tryd.ntmps73
  go_wp2
  go_ret
  exact ⟨rfl, rfl⟩
theorem zeroG65_size : (Tryd.zeroCells116).size = 65 := by kernel_rfl
set_option maxRecDepth 100000 in
set_option maxHeartbeats 8000000 in
theorem formatBitsTen (w : World) (hZ : TabG w) :
    Calls Tryd.prog 56 #[.slice none 0 0, .int .u64 10, .int .i64 16, .bool false, .bool false] w fun e w' => e = .returned (.tuple #[.slice none 0 0, .string ⟨#[97]⟩]) ∧ Below w.heap.size w w' := by
  have hZ1 : TabG (w.alloc (.cells Tryd.zeroCells116 116)) := hZ.below ((Below.refl _ w).alloc (Nat.le_refl _) _)
  have hTz := bitsG_tz _ hZ1
  have HB0 := Lib.hid (knew w (.cells Tryd.zeroCells116 116))
  have HBb := Lib.hid ((Below.refl w.heap.size w).alloc (Nat.le_refl _) (.cells Tryd.zeroCells116 116))
  have hwr : IntKind.u64.wrap (15 : Int) = 15 := by decide
  have hand : bits .and .u64 10 15 = 10 := by decide +kernel
  have hfr := kfrozen HB0.out 64
  have hce := kcell HB0.out 64 ((Tryd.zeroCells116)[64]'(by rw [zeroG65_size]; omega)) (Array.getElem?_eq_getElem (by rw [zeroG65_size]; omega))
  have hal : Tryd.prog.arrayLen 116 = 65 := by simp [Program.arrayLen, Tryd.underlying116]
  have hsl1 : ∀ W, (Instr.sliceAt 116 (.pointer (some ⟨w.heap.size, 0, none⟩)) (some (.int .i64 64)) none none).run Tryd.prog W = .ok (.slice (some ⟨w.heap.size, 64, none⟩) 1 1) W := fun W => by
    rw [run_sliceAt_array_l W 116 ⟨w.heap.size, 0, none⟩ (by simp [Program.arrayLen, Program.elem, Tryd.underlying116]) .i64 64 (by omega) (by rw [hal]; omega)]
    go_simp
  have hk := knew w (.cells ((Tryd.zeroCells116).setIfInBounds 64 (.int .u8 97)) 116)
  have hcv : (convert 57 9 (.slice (some ⟨w.heap.size, 64, none⟩) 1 1)).run Tryd.prog (w.alloc (.cells ((Tryd.zeroCells116).setIfInBounds 64 (.int .u8 97)) 116)) = .ok (.string ⟨#[97]⟩) (w.alloc (.cells ((Tryd.zeroCells116).setIfInBounds 64 (.int .u8 97)) 116)) := by
    refine run_convert_bytes_back (P := Tryd.prog) _ 57 9 5 ⟨w.heap.size, 64, none⟩ 1 [97] Tryd.underlying57 Tryd.underlying5 Tryd.underlying9 (fun j hj => ?_)
    obtain rfl : j = 0 := by simp at hj; exact hj
    rw [Lib.add_plain]
    exact kcell hk 64 (.int .u8 97) (by rw [Array.getElem?_setIfInBounds]; simp [zeroG65_size])
  have hdig : (⟨#[48, 49, 50, 51, 52, 53, 54, 55, 56, 57, 97, 98, 99, 100, 101, 102, 103, 104, 105, 106, 107, 108, 109, 110, 111, 112, 113, 114, 115, 116, 117, 118, 119, 120, 121, 122]⟩ : ByteArray)[10]'(by decide) = 97 := by decide
  have HBz := Lib.hid ((Below.refl w.heap.size w).alloc (Nat.le_refl _) (.cells ((Tryd.zeroCells116).setIfInBounds 64 (.int .u8 97)) 116))
  clear hZ1 hZ hal hk
  go_enter Tryd.func56, Tryd.ntmps56
  go_wp2_with (first | (go_at_call 73; refine (powG_16 _).mono ?_; rintro e w2 ⟨rfl, rfl⟩) | (go_at_call 74; refine hTz.mono ?_; rintro e w2 ⟨rfl, rfl⟩))
  go_loopw [1, 13] (fun a i wr => a = .int .u64 10 ∧ i = .int .i64 65 ∧ wr = w.alloc (.cells Tryd.zeroCells116 116)) (fun _ _ _ => 0)
  case atStart => exact ⟨rfl, rfl, rfl⟩
  case round =>
    obtain ⟨rfl, rfl, rfl⟩ := hrel
    go_wp2
    go_ret2
    exact ⟨rfl, HBz.out⟩
end Go.Proofs.YtgalihmmlcnahaaDoor
