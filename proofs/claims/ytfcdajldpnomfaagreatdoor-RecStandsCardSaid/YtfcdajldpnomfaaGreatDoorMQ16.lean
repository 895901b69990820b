/-
  The library's FormatUint at base 16, of a number of two octets: how many noughts end a number, by the table.
-/
import Derived.Test.YtfcdajldpnomfaaGreatDoorMQ21
import Derived.Test.YtfcdajldpnomfaaGreatDoorMQ32
import Derived.Test.YtfcdajldpnomfaaGreatDoorMQ41
import Derived.Laws.BitsAllLaws
import Derived.Test.YtfcdajldpnomfaaGreatDoorMQ23
import Derived.Deep.RegionLaw
import Derived.Deep.RegionHeld3
namespace Go.Proofs.YtfcdajldpnomfaaGreatDoor
set_option maxRecDepth 20000
open Go.RowKit Go.Shelf Go.Sort
set_option maxRecDepth 20000

def tz64 : List Int := [0, 1, 56, 2, 57, 49, 28, 3, 61, 58, 42, 50, 38, 29, 17, 4, 62, 47, 59, 36, 45, 43, 51, 22, 53, 39, 33, 30, 24, 18, 12, 5, 63, 55, 48, 27, 60, 41, 37, 16, 46, 35, 44, 21, 52, 32, 23, 11, 54, 26, 40, 15, 34, 20, 31, 10, 25, 14, 19, 9, 13, 8, 7, 6]
def TabZ (W : World) : Prop := Lib.TabIs Tryz.prog W "math/bits.deBruijn64tab" .u8 tz64
theorem TabZ.below {W W' : World} (h : TabZ W) (hb : Below W.heap.size W W') : TabZ W' := (Lib.tabBelow_of_tabIs h) W' hb
theorem gTabZ : Tryz.prog.globalNamed "math/bits.deBruijn64tab" = some 2 := by kernel_rfl

set_option maxHeartbeats 2000000 in
theorem bits_tz64 (w : World) (hZ : TabZ w) :
    Calls Tryz.prog 150 #[.int .u64 16] w fun e w' => e = .returned (.int .i64 4) ∧ w' = w := by
  have hc : w.cell? ⟨2, 15, none⟩ = some (.int .u8 4) := Lib.TabIs.cell hZ gTabZ 15 (by decide)
  go_enter Tryz.func150, Tryz.ntmps150
  have hx1 : IntKind.u64.wrap (-16) = 18446744073709551600 := by decide
  have hx2 : bits BinOp.and IntKind.u64 16 18446744073709551600 = 16 := by decide +kernel
  have hx3 : IntKind.u64.wrap 4573923408821661840 = 4573923408821661840 := by decide
  go_wp2
  go_ret
  exact ⟨rfl, rfl⟩
theorem bits_tz (w : World) (hZ : TabZ w) :
    Calls Tryz.prog 140 #[.int .u64 16] w fun e w' => e = .returned (.int .i64 4) ∧ w' = w := by
  have h := bits_tz64 w hZ
  go_enter Tryz.func140, Tryz.ntmps140
  go_wp2_with (go_at_call 150; refine h.mono ?_; rintro e w2 ⟨rfl, rfl⟩)
  go_ret
  exact ⟨rfl, rfl⟩
theorem pow_16 (w : World) :
    Calls Tryz.prog 139 #[.int .i64 16] w fun e w' => e = .returned (.bool true) ∧ w' = w := by
  go_enter Tryz.func139, Tryz.ntmps139
  go_wp2
  go_ret
  exact ⟨rfl, rfl⟩

theorem digs36_at : ∀ m : Fin 16, (⟨#[48, 49, 50, 51, 52, 53, 54, 55, 56, 57, 97, 98, 99, 100, 101, 102, 103, 104, 105, 106, 107, 108, 109, 110, 111, 112, 113, 114, 115, 116, 117, 118, 119, 120, 121, 122]⟩ : ByteArray)[m.val]'(by have := m.isLt; show m.val < 36; omega) = hexC m.val := by decide
theorem digs36_is (k : Nat) (hk : k < 16) (h : k < (⟨#[48, 49, 50, 51, 52, 53, 54, 55, 56, 57, 97, 98, 99, 100, 101, 102, 103, 104, 105, 106, 107, 108, 109, 110, 111, 112, 113, 114, 115, 116, 117, 118, 119, 120, 121, 122]⟩ : ByteArray).size) : (⟨#[48, 49, 50, 51, 52, 53, 54, 55, 56, 57, 97, 98, 99, 100, 101, 102, 103, 104, 105, 106, 107, 108, 109, 110, 111, 112, 113, 114, 115, 116, 117, 118, 119, 120, 121, 122]⟩ : ByteArray)[k]'h = hexC k := digs36_at ⟨k, hk⟩
theorem push_cells {cs : Array Value} {n : Nat} {l : List UInt8} (c : UInt8) (hz : cs.size = 65) (hn : 1 ≤ n ∧ n ≤ 65) (h : ∀ j (hj : j < l.length), cs[n + j]? = some (.int .u8 ((l[j]).toNat : Int))) :
    ∀ j (hj : j < (c :: l).length), (cs.setIfInBounds (n - 1) (.int .u8 (c.toNat : Int)))[n - 1 + j]? = some (.int .u8 (((c :: l)[j]).toNat : Int)) := by
  intro j hj
  rw [Array.getElem?_setIfInBounds]
  cases j with
  | zero => rw [if_pos (by omega), if_pos (by omega)]; rfl
  | succ j =>
    rw [if_neg (by omega), show n - 1 + (j + 1) = n + j by omega]
    exact h j (by simpa using hj)
theorem and15_64 (x : Nat) (h : x < 65536) : bits .and .u64 (x : Int) 15 = (x : Int) % 16 := by
  have e : bits .and .u64 (x : Int) ((15 : Nat) : Int) = ((x &&& 15 : Nat) : Int) := u64_and_nat _ _ (by omega) (by omega)
  have e2 : x &&& 15 = x % 16 := Nat.and_two_pow_sub_one_eq_mod x 4
  rw [e2] at e
  exact e
theorem zero65_size : (Tryz.zeroCells173).size = 65 := by kernel_rfl

set_option maxRecDepth 100000 in
set_option maxHeartbeats 8000000 in
theorem formatBits16 (u : Nat) (hu : u < 65536) (w : World) (hZ : TabZ w) :
    Calls Tryz.prog 118 #[.slice none 0 0, .int .u64 (u : Int), .int .i64 16, .bool false, .bool false] w fun e w' => e = .returned (.tuple #[.slice none 0 0, .string ⟨(hexD u).toArray⟩]) ∧ Below w.heap.size w w' := by
  have hu0 : (0 : Int) ≤ (u : Int) := by omega
  have hZ1 : TabZ (w.alloc (.cells Tryz.zeroCells173 173)) := hZ.below ((Below.refl _ w).alloc (Nat.le_refl _) _)
  have hTz := bits_tz _ hZ1
  have hb0 := Lib.hid (block_new w (.cells Tryz.zeroCells173 173))
  have hB0 := Lib.hid ((Below.refl w.heap.size w).alloc (Nat.le_refl _) (.cells Tryz.zeroCells173 173))
  have hwr : IntKind.u64.wrap (15 : Int) = 15 := by decide
  clear hZ1 hZ
  go_enter Tryz.func118, Tryz.ntmps118
  go_wp2_with (first | (go_at_call 139; refine (pow_16 _).mono ?_; rintro e w2 ⟨rfl, rfl⟩) | (go_at_call 140; refine hTz.mono ?_; rintro e w2 ⟨rfl, rfl⟩))
  go_loopw [1, 13] (fun a i wr => ∃ (x n : Nat) (l : List UInt8) (cs : Array Value), a = .int .u64 (x : Int) ∧ i = .int .i64 (n : Int) ∧ x < 65536 ∧ Hid (n + l.length = 65 ∧ l.length ≤ 3 ∧ x * 16 ^ l.length ≤ u ∧ hexD u = hexD x ++ l) ∧ Hid (wr.heap[w.heap.size]? = some (.cells cs 173) ∧ cs.size = 65 ∧ ∀ j (hj : j < l.length), cs[n + j]? = some (.int .u8 ((l[j]).toNat : Int))) ∧ Hid (Below w.heap.size w wr)) (fun a _ _ => (intOf a).toNat)
  case atStart => exact ⟨u, 65, [], _, rfl, rfl, hu, Lib.hid ⟨rfl, by simp, by simp, by simp⟩, Lib.hid ⟨hb0.out, zero65_size, fun j hj => absurd hj (Nat.not_lt_zero j)⟩, hB0⟩
  case round =>
    obtain ⟨x, n, l, cs, rfl, rfl, hx, HL, HC, HB⟩ := hrel
    have hx0 : (0 : Int) ≤ (x : Int) := by omega
    have hn4 : 62 ≤ n ∧ n ≤ 65 := by have := HL.out; omega
    have hn1 : (0 : Int) ≤ (n : Int) - 1 := by omega
    have hn2 : (n : Int) - 1 < 65 := by omega
    have hn3 : ((n : Int) - 1).toNat = n - 1 := by omega
    have hz := HC.out.2.1
    have hce := cell_of_blockM HC.out.1 (n - 1) (cs[n - 1]'(by omega)) (Array.getElem?_eq_getElem (by omega))
    have hfr := frozen_block HC.out.1 (n - 1)
    have hand := and15_64 x hx
    have hbz := block_lt HC.out.1
    by_cases h16 : (16 : Int) ≤ (x : Int)
    · have HN := Lib.hid (show n - 1 + (hexC (x % 16) :: l).length = 65 ∧ (hexC (x % 16) :: l).length ≤ 3 ∧ x / 16 * 16 ^ (hexC (x % 16) :: l).length ≤ u ∧ hexD u = hexD (x / 16) ++ (hexC (x % 16) :: l) from by
        obtain ⟨g1, g2, g3, g4⟩ := HL.out
        refine ⟨by simp; omega, ?_, ?_, by rw [g4, hexD_big (by omega)]; simp⟩
        · by_cases h3 : l.length < 3
          · simp; omega
          · have h5 : (16 : Nat) ^ 3 ≤ 16 ^ l.length := Nat.pow_le_pow_right (by omega) (by omega)
            have h6 : 16 * 16 ^ l.length ≤ x * 16 ^ l.length := Nat.mul_le_mul_right _ (by omega)
            omega
        · have h7 : x / 16 * 16 * 16 ^ l.length ≤ x * 16 ^ l.length := Nat.mul_le_mul_right _ (Nat.div_mul_le_self x 16)
          rw [List.length_cons, Nat.pow_succ, Nat.mul_comm (16 ^ l.length) 16, ← Nat.mul_assoc]
          omega)
      have HM := Lib.hid (show x / 16 < x from by omega)
      have hxi : (x : Int) / 16 = ((x / 16 : Nat) : Int) := by omega
      have HXI := Lib.hid hxi
      clear hxi
      go_wp2
      go_roundw
      case rel =>
        rw [digs36_is (x % 16) (by omega)]
        refine ⟨x / 16, n - 1, hexC (x % 16) :: l, cs.setIfInBounds (n - 1) (.int .u8 ((hexC (x % 16)).toNat : Int)), congrArg (Value.int .u64) HXI.out, congrArg (Value.int .i64) (by omega), by omega, HN, Lib.hid ⟨block_set HC.out.1 (n - 1) _, by rw [Array.size_setIfInBounds]; exact hz, push_cells _ hz (by omega) HC.out.2.2⟩, Lib.hid (HB.out.setCell (p := ⟨w.heap.size, n - 1, none⟩) (Nat.le_refl w.heap.size) _)⟩
      case measure => have := HM.out; simp only [intOf, HXI.out]; omega
    · have hal : Tryz.prog.arrayLen 173 = 65 := by simp [Program.arrayLen, Tryz.underlying173]
      have HD := Lib.hid (show hexD u = hexC x :: l from by rw [HL.out.2.2.2, hexD_small (by omega)]; rfl)
      have hll : l.length + 1 = 65 - (n - 1) := by have := HL.out.1; omega
      have hsl1 : ∀ W, (Instr.sliceAt 173 (.pointer (some ⟨w.heap.size, 0, none⟩)) (some (.int .i64 ((n : Int) - 1))) none none).run Tryz.prog W = .ok (.slice (some ⟨w.heap.size, n - 1, none⟩) (65 - (n - 1)) (65 - (n - 1))) W := fun W => by
        rw [run_sliceAt_array_l W 173 ⟨w.heap.size, 0, none⟩ (by simp [Program.arrayLen, Program.elem, Tryz.underlying173]) .i64 ((n : Int) - 1) (by omega) (by rw [hal]; omega)]
        go_simp
        try omega
      have hp := push_cells (hexC x) hz (by omega) HC.out.2.2
      have hcv : (convert 27 9 (.slice (some ⟨w.heap.size, n - 1, none⟩) (65 - (n - 1)) (65 - (n - 1)))).run Tryz.prog (wr.setCell ⟨w.heap.size, n - 1, none⟩ (.int .u8 ((hexC x).toNat : Int))) = .ok (.string ⟨(hexC x :: l).toArray⟩) (wr.setCell ⟨w.heap.size, n - 1, none⟩ (.int .u8 ((hexC x).toNat : Int))) := by
        have h := run_convert_bytes_back (P := Tryz.prog) (wr.setCell ⟨w.heap.size, n - 1, none⟩ (.int .u8 ((hexC x).toNat : Int))) 27 9 5 ⟨w.heap.size, n - 1, none⟩ (65 - (n - 1)) (hexC x :: l) Tryz.underlying27 Tryz.underlying5 Tryz.underlying9 (fun j hj => by
          rw [Lib.add_plain]
          exact cell_of_blockM (block_set HC.out.1 (n - 1) _) (n - 1 + j) _ (hp j hj))
        rw [List.length_cons, hll] at h
        exact h
      have hxl : x < (⟨#[48, 49, 50, 51, 52, 53, 54, 55, 56, 57, 97, 98, 99, 100, 101, 102, 103, 104, 105, 106, 107, 108, 109, 110, 111, 112, 113, 114, 115, 116, 117, 118, 119, 120, 121, 122]⟩ : ByteArray).size := by show x < 36; omega
      rw [← digs36_is x (by omega) hxl] at hcv
      have hx16 : x < 16 := by omega
      have HE := Lib.hid (HB.out.setCell (p := ⟨w.heap.size, n - 1, none⟩) (Nat.le_refl w.heap.size) (.int .u8 (((⟨#[48, 49, 50, 51, 52, 53, 54, 55, 56, 57, 97, 98, 99, 100, 101, 102, 103, 104, 105, 106, 107, 108, 109, 110, 111, 112, 113, 114, 115, 116, 117, 118, 119, 120, 121, 122]⟩ : ByteArray)[x]'hxl).toNat : Int)))
      clear hp hal
      go_wp2
      go_ret2
      exact ⟨by rw [HD.out, digs36_is x hx16 hxl]; rfl, HE.out⟩
set_option maxRecDepth 100000 in
set_option maxHeartbeats 4000000 in
theorem istrconv_FormatUint16 (u : Nat) (hu : u < 65536) (w : World) (hZ : TabZ w) :
    Calls Tryz.prog 78 #[.int .u64 (u : Int), .int .i64 16] w fun e w' => e = .returned (.string ⟨(hexD u).toArray⟩) ∧ Below w.heap.size w w' := by
  have hu0 : (0 : Int) ≤ (u : Int) := by omega
  have hF := formatBits16 u hu w hZ
  go_enter Tryz.func78, Tryz.ntmps78
  go_wp2_with (go_at_call 118; refine hF.mono ?_; rintro e w2 ⟨rfl, hb⟩)
  go_ret
  exact ⟨rfl, hb⟩
theorem strconv_FormatUint16 (u : Nat) (hu : u < 65536) (w : World) (hZ : TabZ w) :
    Calls Tryz.prog 37 #[.int .u64 (u : Int), .int .i64 16] w fun e w' => e = .returned (.string ⟨(hexD u).toArray⟩) ∧ Below w.heap.size w w' := by
  have h := istrconv_FormatUint16 u hu w hZ
  go_enter Tryz.func37, Tryz.ntmps37
  go_wp2_with (go_at_call 78; refine h.mono ?_; rintro e w2 ⟨rfl, hb⟩)
  go_ret
  exact ⟨rfl, hb⟩
end Go.Proofs.YtfcdajldpnomfaaGreatDoor

/-
  rdata.Text (but of AAAA). (Written by wip/tools/gen9.py.)
-/
namespace Go.Proofs.YtfcdajldpnomfaaGreatDoor
set_option maxRecDepth 20000
open Go.RowKit Go.Shelf
set_option maxRecDepth 20000

/-- append of a whole slice of strings, inside a drawn region. -/
theorem step_append_s {S : TypeId} {ops : Array Oper} {o : Oper} {a : Act} {K : Act → World → Prop} {Q : Exit → Act → World → Prop} {E : Prop} (W : World) (hgd : o.guard = none) (s x : Operand) (hE : ElemT 9 S 16)
    (ho : o.op = .call { callee := .builtin .append, args := #[s, x], argTypes := #[S, S] })
    (base : Nat) (v : Value) (xs : Nm) (hs : a.eval s = v) (hown : OwnG 9 strV W base v xs)
    (src : Value) (ys : Nm) (hx : a.eval x = src) (hsrc : StrsAt W src ys) (hok : SlOK src)
    (hbase : base ≤ W.heap.size) (hk : xs.length + ys.length ≤ maxLen) (hk2 : (xs.length + ys.length) * 16 ≤ 140737488355328)
    (h : ∀ v' w', OwnG 9 strV w' base v' (xs ++ ys) → W.grownBy w' v.ownBlock → K (a.put o.dst v') w') :
    if Region.wanted o (yielded ops a.tmps) = true then Oper.wp Tryz.prog o a W K Q else E := by
  have hw : Region.wanted o (yielded ops a.tmps) = true := by simp [Region.wanted, hgd]
  rw [if_pos hw]
  obtain ⟨ht, i, z, hi, hz, hz1, hz2, hzc⟩ := hE
  obtain ⟨a0, c0, rfl, _⟩ := id hsrc
  obtain ⟨av, cv, rfl⟩ := hown.shape
  cases a0 with
  | none =>
    obtain ⟨a1, n1, c1, e1, _, e2⟩ := hok
    cases e1
    have e3 := e2 rfl
    subst e3
    obtain ⟨a2, c2, e4, h4⟩ := hsrc
    cases e4
    rcases h4 with e5 | ⟨_, _, e5, _⟩
    · subst e5
      have hrun := run_append_owned_none (P := Tryz.prog) (w := W) base S o.type _ i 1 ht hi (.slice av xs.length cv) _ _ hown
      rw [List.length_nil] at hx
      unfold Oper.wp
      simp [execOp, ho, resolve, invoke, builtin, hs, hx, hrun, Result.andThen]
      exact h _ W (by rw [List.append_nil]; exact hown) ⟨rfl, rfl, rfl, Nat.le_refl _, fun _ _ _ => rfl⟩
    · cases e5
  | some ad =>
    obtain ⟨v', w', hr, h1, h2, _⟩ := run_append_own (P := Tryz.prog) W base S o.type _ i z 1 16 ht hi hz hz1 hz2 hzc (by decide) (.slice av xs.length cv) xs.length (xs.map strV) hown ad ys.length c0 (ys.map strV) (by simp) (strsAt_cells hsrc rfl) (by intro u hu; obtain ⟨y, _, rfl⟩ := List.mem_map.1 hu; rfl) hk hk2 hbase
    unfold Oper.wp
    simp only [execOp, ho, resolve, invoke, builtin, Sem.run_bind, Sem.run_pure, Result.andThen_ok, List.map_toArray, List.map_cons, List.map_nil, hs, hx, hr]
    refine h v' w' ?_ h2
    unfold OwnG
    rw [List.length_append, List.map_append]
    exact h1

/-- Bounds that let data be told. -/
def DatFew (d : Dat) : Prop := DatOK d ∧ d.names.length ≤ 1024 ∧ (∀ n ∈ d.names, n.length ≤ 1024 ∧ ∀ x ∈ n, x.length ≤ 1024) ∧ d.nums.length ≤ 1024 ∧ d.texts.length ≤ 1024
theorem textN_few {n : Nm} (h : n.length ≤ 1024 ∧ ∀ x ∈ n, x.length ≤ 1024) : (textN n).length ≤ 4195328 := by
  by_cases h0 : n = []
  · subst h0; simp [textN]
  · rw [textN_eq h0]
    obtain ⟨h1, h2⟩ := h
    have key : ∀ n : Nm, (∀ x ∈ n, x.length ≤ 1024) → (textF n).length ≤ n.length * 4097 := by
      intro n
      induction n with
      | nil => intro _; simp [textF]
      | cons x r ih =>
        intro h
        have e1 := h x (by simp)
        have e2 := ih (fun y hy => h y (by simp [hy]))
        have e3 := textL_le x
        simp only [textF, List.flatMap_cons, List.length_append, List.length_cons, List.length_nil] at e2 ⊢
        omega
    have := key n h2
    omega
theorem quotedM_few {l : List UInt8} (h : l.length ≤ 1048576) : (quotedM l).length ≤ 4195328 := by
  have := quoteF_le l
  unfold quotedM quoteF at *
  simp only [List.length_cons, List.length_append, List.length_nil]
  omega
theorem parts_few {d : Dat} (h : DatFew d) : ∀ x ∈ d.names.map textN ++ d.nums.map Lib.decDigits, x.length ≤ 4195328 := by
  intro x hx
  rcases List.mem_append.1 hx with hx | hx
  · obtain ⟨n, hn, rfl⟩ := List.mem_map.1 hx
    exact textN_few (h.2.2.1 n hn)
  · obtain ⟨n, hn, rfl⟩ := List.mem_map.1 hx
    have := h.1.2.2.2.2.1 n hn
    have := dec_len n (by omega)
    omega

set_option maxRecDepth 100000 in
set_option maxHeartbeats 8000000 in
theorem text_mx (v : Value) (d : Dat) (w : World) (hA : DatAt w v d) (hk : DatFew d) (hT : Tab w) (ht : d.ty = 15) :
    Calls Tryz.prog 40 #[v] w fun e w' => e = .returned (.string ⟨(textD d).toArray⟩) ∧ Below w.heap.size w w' := by
  have hM : textD d = sepBy [32] ((d.nums.map Lib.decDigits) ++ (d.names.map textN)) := by unfold textD; rw [ht]; rfl
  have hlen := sepBy_len [32] 4195328 ((d.nums.map Lib.decDigits) ++ (d.names.map textN)) (fun x hx => parts_few hk x (by simp only [List.mem_append] at hx ⊢; exact hx.symm))
  have hNum : ∀ W, Below w.heap.size w W → Calls Tryz.prog 87 #[v] W fun e w' => ∃ v', e = .returned v' ∧ OwnG 9 strV w' W.heap.size v' (d.nums.map Lib.decDigits) ∧ Below W.heap.size W w' := fun W hb =>
    rdata_numWords v d W (hA.below hb) hk.1 (hT.below hb)
  have hName : ∀ W, Below w.heap.size w W → Calls Tryz.prog 86 #[v] W fun e w' => ∃ v', e = .returned v' ∧ OwnG 9 strV w' W.heap.size v' (d.names.map textN) ∧ Below W.heap.size W w' := fun W hb =>
    rdata_nameWords v d W (hA.below hb) hk.1
  obtain ⟨vn, vu, vt, vr, rfl, _⟩ := hA
  rw [ht] at hNum hName ⊢
  have hl1 : (d.nums.map Lib.decDigits).length ≤ 1024 := by rw [List.length_map]; exact hk.2.2.2.1
  have hl2 : (d.names.map textN).length ≤ 1024 := by rw [List.length_map]; exact hk.2.1
  obtain ⟨xs, hnu⟩ : ∃ xs, (d.nums.map Lib.decDigits) = xs := ⟨_, rfl⟩
  obtain ⟨ys, hna⟩ : ∃ ys, (d.names.map textN) = ys := ⟨_, rfl⟩
  rw [hnu] at hM hlen hNum hl1
  rw [hna] at hM hlen hName hl2
  have hJ : ∀ W b va, OwnG 9 strV W b va (xs ++ ys) → _ := fun W b va hv => join_nm va (xs ++ ys) ⟨#[32]⟩ W (OwnG.nmAt hv) (by rw [List.length_append]; omega) (by
    have e : (⟨#[32]⟩ : ByteArray).data.toList = [32] := rfl
    rw [e]; refine Nat.le_trans hlen ?_
    rw [List.length_append]
    have : xs.length + ys.length ≤ 2048 := by omega
    exact Nat.le_trans (Nat.mul_le_mul_right _ this) (by decide))
  have HM := Lib.hid hM
  have HJ := Lib.hid hJ
  clear hnu hna hM hlen hJ hk hT
  have hb0 : Below w.heap.size w (w.alloc (.cells #[.int .i64 15, vn, vu, vt, vr] 29)) := (Below.refl _ w).alloc (Nat.le_refl _) _
  have hbx := block_new w (.cells #[.int .i64 15, vn, vu, vt, vr] 29)
  obtain ⟨c0, c1, c2, c3, c4⟩ := cells5 hbx
  have hS0 : ((w.alloc (.cells #[.int .i64 15, vn, vu, vt, vr] 29)).cell? ⟨w.heap.size, 0, none⟩ = some (.int .i64 15) ∧ (w.alloc (.cells #[.int .i64 15, vn, vu, vt, vr] 29)).cell? ⟨w.heap.size, 1, none⟩ = some vn ∧ (w.alloc (.cells #[.int .i64 15, vn, vu, vt, vr] 29)).cell? ⟨w.heap.size, 2, none⟩ = some vu ∧ (w.alloc (.cells #[.int .i64 15, vn, vu, vt, vr] 29)).cell? ⟨w.heap.size, 3, none⟩ = some vt ∧ (w.alloc (.cells #[.int .i64 15, vn, vu, vt, vr] 29)).cell? ⟨w.heap.size, 4, none⟩ = some vr ∧ Below w.heap.size w (w.alloc (.cells #[.int .i64 15, vn, vu, vt, vr] 29)) ∧ w.heap.size + 1 ≤ (w.alloc (.cells #[.int .i64 15, vn, vu, vt, vr] 29)).heap.size) := ⟨c0, c1, c2, c3, c4, hb0, by simp⟩
  have KD : ∀ W W' : World, (W.cell? ⟨w.heap.size, 0, none⟩ = some (.int .i64 15) ∧ W.cell? ⟨w.heap.size, 1, none⟩ = some vn ∧ W.cell? ⟨w.heap.size, 2, none⟩ = some vu ∧ W.cell? ⟨w.heap.size, 3, none⟩ = some vt ∧ W.cell? ⟨w.heap.size, 4, none⟩ = some vr ∧ Below w.heap.size w W ∧ w.heap.size + 1 ≤ W.heap.size) → Below (w.heap.size + 1) W W' → (W'.cell? ⟨w.heap.size, 0, none⟩ = some (.int .i64 15) ∧ W'.cell? ⟨w.heap.size, 1, none⟩ = some vn ∧ W'.cell? ⟨w.heap.size, 2, none⟩ = some vu ∧ W'.cell? ⟨w.heap.size, 3, none⟩ = some vt ∧ W'.cell? ⟨w.heap.size, 4, none⟩ = some vr ∧ Below w.heap.size w W' ∧ w.heap.size + 1 ≤ W'.heap.size) := by
    rintro W W' ⟨a0, a1, a2, a3, a4, hw, hsz⟩ hb
    have hA : w.heap.size < w.heap.size + 1 := by omega
    exact ⟨(hb.cell hA).trans a0, (hb.cell hA).trans a1, (hb.cell hA).trans a2, (hb.cell hA).trans a3, (hb.cell hA).trans a4, hw.trans (hb.mono (by omega)), Nat.le_trans hsz hb.size⟩
  have KS := Lib.hid (fun (W W' : World) (h : (W.cell? ⟨w.heap.size, 0, none⟩ = some (.int .i64 15) ∧ W.cell? ⟨w.heap.size, 1, none⟩ = some vn ∧ W.cell? ⟨w.heap.size, 2, none⟩ = some vu ∧ W.cell? ⟨w.heap.size, 3, none⟩ = some vt ∧ W.cell? ⟨w.heap.size, 4, none⟩ = some vr ∧ Below w.heap.size w W ∧ w.heap.size + 1 ≤ W.heap.size)) (hb : Below W.heap.size W W') => KD W W' h (hb.mono h.2.2.2.2.2.2))
  have KR := Lib.hid (fun (W : World) (h : (W.cell? ⟨w.heap.size, 0, none⟩ = some (.int .i64 15) ∧ W.cell? ⟨w.heap.size, 1, none⟩ = some vn ∧ W.cell? ⟨w.heap.size, 2, none⟩ = some vu ∧ W.cell? ⟨w.heap.size, 3, none⟩ = some vt ∧ W.cell? ⟨w.heap.size, 4, none⟩ = some vr ∧ Below w.heap.size w W ∧ w.heap.size + 1 ≤ W.heap.size)) => KD W W.drew h (below_drew1 (Below.refl _ W)))
  have KG := Lib.hid (fun (W W' : World) (v0 : Value) (zs : Nm) (h : (W.cell? ⟨w.heap.size, 0, none⟩ = some (.int .i64 15) ∧ W.cell? ⟨w.heap.size, 1, none⟩ = some vn ∧ W.cell? ⟨w.heap.size, 2, none⟩ = some vu ∧ W.cell? ⟨w.heap.size, 3, none⟩ = some vt ∧ W.cell? ⟨w.heap.size, 4, none⟩ = some vr ∧ Below w.heap.size w W ∧ w.heap.size + 1 ≤ W.heap.size)) (ho : OwnG 9 strV W (w.heap.size + 1) v0 zs) (hg : W.grownBy W' v0.ownBlock) => KD W W' h ((Below.refl _ W).grown hg h.2.2.2.2.2.2 ho.base_le))
  have KO := Lib.hid (fun (W : World) (v0 : Value) (zs : Nm) (ho : OwnG 9 strV W (w.heap.size + 1) v0 zs) => (ho.drew : OwnG 9 strV W.drew (w.heap.size + 1) v0 zs))
  have HNum := Lib.hid (fun (W : World) (h : (W.cell? ⟨w.heap.size, 0, none⟩ = some (.int .i64 15) ∧ W.cell? ⟨w.heap.size, 1, none⟩ = some vn ∧ W.cell? ⟨w.heap.size, 2, none⟩ = some vu ∧ W.cell? ⟨w.heap.size, 3, none⟩ = some vt ∧ W.cell? ⟨w.heap.size, 4, none⟩ = some vr ∧ Below w.heap.size w W ∧ w.heap.size + 1 ≤ W.heap.size)) => ((hNum W h.2.2.2.2.2.1).mono (by rintro e w' ⟨v', rfl, ho, hb2⟩; obtain ⟨a1, c1, rfl⟩ := ho.shape; exact ⟨a1, c1, rfl, ho.weaken h.2.2.2.2.2.2, hb2⟩) : Calls Tryz.prog 87 #[.agg #[.int .i64 15, vn, vu, vt, vr]] W fun e w' => ∃ a1 c1, e = .returned (.slice a1 xs.length c1) ∧ OwnG 9 strV w' (w.heap.size + 1) (.slice a1 xs.length c1) xs ∧ Below W.heap.size W w'))
  have HName := Lib.hid (fun (W : World) (h : (W.cell? ⟨w.heap.size, 0, none⟩ = some (.int .i64 15) ∧ W.cell? ⟨w.heap.size, 1, none⟩ = some vn ∧ W.cell? ⟨w.heap.size, 2, none⟩ = some vu ∧ W.cell? ⟨w.heap.size, 3, none⟩ = some vt ∧ W.cell? ⟨w.heap.size, 4, none⟩ = some vr ∧ Below w.heap.size w W ∧ w.heap.size + 1 ≤ W.heap.size)) => ((hName W h.2.2.2.2.2.1).mono (by rintro e w' ⟨v', rfl, ho, hb2⟩; obtain ⟨a1, c1, rfl⟩ := ho.shape; exact ⟨a1, c1, rfl, ho.weaken h.2.2.2.2.2.2, hb2⟩) : Calls Tryz.prog 86 #[.agg #[.int .i64 15, vn, vu, vt, vr]] W fun e w' => ∃ a1 c1, e = .returned (.slice a1 ys.length c1) ∧ OwnG 9 strV w' (w.heap.size + 1) (.slice a1 ys.length c1) ys ∧ Below W.heap.size W w'))
  have HS0 := Lib.hid hS0
  clear hNum hName hS0 KD hb0 hbx
  go_enter Tryz.func40, Tryz.ntmps40
  go_wp2_with fail
  generalize (w.alloc (.cells #[.int .i64 15, vn, vu, vt, vr] 29)) = W0 at *
  have hS := HS0.out
  clear HS0
  go_region_held3 (fun W => (W.cell? ⟨w.heap.size, 0, none⟩ = some (.int .i64 15) ∧ W.cell? ⟨w.heap.size, 1, none⟩ = some vn ∧ W.cell? ⟨w.heap.size, 2, none⟩ = some vu ∧ W.cell? ⟨w.heap.size, 3, none⟩ = some vt ∧ W.cell? ⟨w.heap.size, 4, none⟩ = some vr ∧ Below w.heap.size w W ∧ w.heap.size + 1 ≤ W.heap.size)) (first | assumption | exact KR.out _ (by assumption) | exact KG.out _ _ _ _ (by assumption) (by assumption) (by assumption)) (first | ((with_reducible refine (HNum.out _ (by assumption)).mono ?_); rintro e w2 ⟨a1, cc1, rfl, ho1, hb2⟩; have hS2 := KS.out _ _ (by assumption) hb2) | ((with_reducible refine (HName.out _ (by assumption)).mono ?_); rintro e w2 ⟨a2, cc2, rfl, ho2, hb2⟩; have hS2 := KS.out _ _ (by assumption) hb2; have ho1b := OwnG.below (by assumption : OwnG 9 strV _ _ (.slice a1 _ _) xs) hb2) | ((refine step_append_s _ (by rfl) _ _ elemStr (by rfl) (w.heap.size + 1) _ xs (by rfl) (by first | assumption | exact KO.out _ _ _ (by assumption)) _ ys (by rfl) (by first | exact StrsAt.of_own ho2 | exact StrsAt.of_own (KO.out _ _ _ ho2)) ho2.slOK (by go_split_ands; first | assumption | (simp; omega)) (by unfold maxLen; omega) (by omega) ?_; intro v3 w3 ho3 hgrow)) | ((with_reducible refine (HJ.out _ _ _ (by assumption)).mono ?_); rintro e w2 ⟨rfl, hb2⟩; have hS2 := KS.out _ _ (by assumption) hb2))
  all_goals
    rename_i hSe
    go_wp2_with fail
    go_ret
    exact ⟨by rw [HM.out]; rfl, hSe.2.2.2.2.2.1⟩

set_option maxRecDepth 100000 in
set_option maxHeartbeats 8000000 in
theorem text_n2 (v : Value) (d : Dat) (w : World) (hA : DatAt w v d) (hk : DatFew d) (hT : Tab w) (ht : d.ty = 2) :
    Calls Tryz.prog 40 #[v] w fun e w' => e = .returned (.string ⟨(textD d).toArray⟩) ∧ Below w.heap.size w w' := by
  have hM : textD d = sepBy [32] ((d.names.map textN) ++ (d.nums.map Lib.decDigits)) := by unfold textD; rw [ht]; rfl
  have hlen := sepBy_len [32] 4195328 ((d.names.map textN) ++ (d.nums.map Lib.decDigits)) (fun x hx => parts_few hk x (hx))
  have hNum : ∀ W, Below w.heap.size w W → Calls Tryz.prog 87 #[v] W fun e w' => ∃ v', e = .returned v' ∧ OwnG 9 strV w' W.heap.size v' (d.nums.map Lib.decDigits) ∧ Below W.heap.size W w' := fun W hb =>
    rdata_numWords v d W (hA.below hb) hk.1 (hT.below hb)
  have hName : ∀ W, Below w.heap.size w W → Calls Tryz.prog 86 #[v] W fun e w' => ∃ v', e = .returned v' ∧ OwnG 9 strV w' W.heap.size v' (d.names.map textN) ∧ Below W.heap.size W w' := fun W hb =>
    rdata_nameWords v d W (hA.below hb) hk.1
  obtain ⟨vn, vu, vt, vr, rfl, _⟩ := hA
  rw [ht] at hNum hName ⊢
  have hl1 : (d.names.map textN).length ≤ 1024 := by rw [List.length_map]; exact hk.2.1
  have hl2 : (d.nums.map Lib.decDigits).length ≤ 1024 := by rw [List.length_map]; exact hk.2.2.2.1
  obtain ⟨ys, hnu⟩ : ∃ xs, (d.nums.map Lib.decDigits) = xs := ⟨_, rfl⟩
  obtain ⟨xs, hna⟩ : ∃ ys, (d.names.map textN) = ys := ⟨_, rfl⟩
  rw [hnu] at hM hlen hNum hl2
  rw [hna] at hM hlen hName hl1
  have hJ : ∀ W b va, OwnG 9 strV W b va (xs ++ ys) → _ := fun W b va hv => join_nm va (xs ++ ys) ⟨#[32]⟩ W (OwnG.nmAt hv) (by rw [List.length_append]; omega) (by
    have e : (⟨#[32]⟩ : ByteArray).data.toList = [32] := rfl
    rw [e]; refine Nat.le_trans hlen ?_
    rw [List.length_append]
    have : xs.length + ys.length ≤ 2048 := by omega
    exact Nat.le_trans (Nat.mul_le_mul_right _ this) (by decide))
  have HM := Lib.hid hM
  have HJ := Lib.hid hJ
  clear hnu hna hM hlen hJ hk hT
  have hb0 : Below w.heap.size w (w.alloc (.cells #[.int .i64 2, vn, vu, vt, vr] 29)) := (Below.refl _ w).alloc (Nat.le_refl _) _
  have hbx := block_new w (.cells #[.int .i64 2, vn, vu, vt, vr] 29)
  obtain ⟨c0, c1, c2, c3, c4⟩ := cells5 hbx
  have hS0 : ((w.alloc (.cells #[.int .i64 2, vn, vu, vt, vr] 29)).cell? ⟨w.heap.size, 0, none⟩ = some (.int .i64 2) ∧ (w.alloc (.cells #[.int .i64 2, vn, vu, vt, vr] 29)).cell? ⟨w.heap.size, 1, none⟩ = some vn ∧ (w.alloc (.cells #[.int .i64 2, vn, vu, vt, vr] 29)).cell? ⟨w.heap.size, 2, none⟩ = some vu ∧ (w.alloc (.cells #[.int .i64 2, vn, vu, vt, vr] 29)).cell? ⟨w.heap.size, 3, none⟩ = some vt ∧ (w.alloc (.cells #[.int .i64 2, vn, vu, vt, vr] 29)).cell? ⟨w.heap.size, 4, none⟩ = some vr ∧ Below w.heap.size w (w.alloc (.cells #[.int .i64 2, vn, vu, vt, vr] 29)) ∧ w.heap.size + 1 ≤ (w.alloc (.cells #[.int .i64 2, vn, vu, vt, vr] 29)).heap.size) := ⟨c0, c1, c2, c3, c4, hb0, by simp⟩
  have KD : ∀ W W' : World, (W.cell? ⟨w.heap.size, 0, none⟩ = some (.int .i64 2) ∧ W.cell? ⟨w.heap.size, 1, none⟩ = some vn ∧ W.cell? ⟨w.heap.size, 2, none⟩ = some vu ∧ W.cell? ⟨w.heap.size, 3, none⟩ = some vt ∧ W.cell? ⟨w.heap.size, 4, none⟩ = some vr ∧ Below w.heap.size w W ∧ w.heap.size + 1 ≤ W.heap.size) → Below (w.heap.size + 1) W W' → (W'.cell? ⟨w.heap.size, 0, none⟩ = some (.int .i64 2) ∧ W'.cell? ⟨w.heap.size, 1, none⟩ = some vn ∧ W'.cell? ⟨w.heap.size, 2, none⟩ = some vu ∧ W'.cell? ⟨w.heap.size, 3, none⟩ = some vt ∧ W'.cell? ⟨w.heap.size, 4, none⟩ = some vr ∧ Below w.heap.size w W' ∧ w.heap.size + 1 ≤ W'.heap.size) := by
    rintro W W' ⟨a0, a1, a2, a3, a4, hw, hsz⟩ hb
    have hA : w.heap.size < w.heap.size + 1 := by omega
    exact ⟨(hb.cell hA).trans a0, (hb.cell hA).trans a1, (hb.cell hA).trans a2, (hb.cell hA).trans a3, (hb.cell hA).trans a4, hw.trans (hb.mono (by omega)), Nat.le_trans hsz hb.size⟩
  have KS := Lib.hid (fun (W W' : World) (h : (W.cell? ⟨w.heap.size, 0, none⟩ = some (.int .i64 2) ∧ W.cell? ⟨w.heap.size, 1, none⟩ = some vn ∧ W.cell? ⟨w.heap.size, 2, none⟩ = some vu ∧ W.cell? ⟨w.heap.size, 3, none⟩ = some vt ∧ W.cell? ⟨w.heap.size, 4, none⟩ = some vr ∧ Below w.heap.size w W ∧ w.heap.size + 1 ≤ W.heap.size)) (hb : Below W.heap.size W W') => KD W W' h (hb.mono h.2.2.2.2.2.2))
  have KR := Lib.hid (fun (W : World) (h : (W.cell? ⟨w.heap.size, 0, none⟩ = some (.int .i64 2) ∧ W.cell? ⟨w.heap.size, 1, none⟩ = some vn ∧ W.cell? ⟨w.heap.size, 2, none⟩ = some vu ∧ W.cell? ⟨w.heap.size, 3, none⟩ = some vt ∧ W.cell? ⟨w.heap.size, 4, none⟩ = some vr ∧ Below w.heap.size w W ∧ w.heap.size + 1 ≤ W.heap.size)) => KD W W.drew h (below_drew1 (Below.refl _ W)))
  have KG := Lib.hid (fun (W W' : World) (v0 : Value) (zs : Nm) (h : (W.cell? ⟨w.heap.size, 0, none⟩ = some (.int .i64 2) ∧ W.cell? ⟨w.heap.size, 1, none⟩ = some vn ∧ W.cell? ⟨w.heap.size, 2, none⟩ = some vu ∧ W.cell? ⟨w.heap.size, 3, none⟩ = some vt ∧ W.cell? ⟨w.heap.size, 4, none⟩ = some vr ∧ Below w.heap.size w W ∧ w.heap.size + 1 ≤ W.heap.size)) (ho : OwnG 9 strV W (w.heap.size + 1) v0 zs) (hg : W.grownBy W' v0.ownBlock) => KD W W' h ((Below.refl _ W).grown hg h.2.2.2.2.2.2 ho.base_le))
  have KO := Lib.hid (fun (W : World) (v0 : Value) (zs : Nm) (ho : OwnG 9 strV W (w.heap.size + 1) v0 zs) => (ho.drew : OwnG 9 strV W.drew (w.heap.size + 1) v0 zs))
  have HNum := Lib.hid (fun (W : World) (h : (W.cell? ⟨w.heap.size, 0, none⟩ = some (.int .i64 2) ∧ W.cell? ⟨w.heap.size, 1, none⟩ = some vn ∧ W.cell? ⟨w.heap.size, 2, none⟩ = some vu ∧ W.cell? ⟨w.heap.size, 3, none⟩ = some vt ∧ W.cell? ⟨w.heap.size, 4, none⟩ = some vr ∧ Below w.heap.size w W ∧ w.heap.size + 1 ≤ W.heap.size)) => ((hNum W h.2.2.2.2.2.1).mono (by rintro e w' ⟨v', rfl, ho, hb2⟩; obtain ⟨a1, c1, rfl⟩ := ho.shape; exact ⟨a1, c1, rfl, ho.weaken h.2.2.2.2.2.2, hb2⟩) : Calls Tryz.prog 87 #[.agg #[.int .i64 2, vn, vu, vt, vr]] W fun e w' => ∃ a1 c1, e = .returned (.slice a1 ys.length c1) ∧ OwnG 9 strV w' (w.heap.size + 1) (.slice a1 ys.length c1) ys ∧ Below W.heap.size W w'))
  have HName := Lib.hid (fun (W : World) (h : (W.cell? ⟨w.heap.size, 0, none⟩ = some (.int .i64 2) ∧ W.cell? ⟨w.heap.size, 1, none⟩ = some vn ∧ W.cell? ⟨w.heap.size, 2, none⟩ = some vu ∧ W.cell? ⟨w.heap.size, 3, none⟩ = some vt ∧ W.cell? ⟨w.heap.size, 4, none⟩ = some vr ∧ Below w.heap.size w W ∧ w.heap.size + 1 ≤ W.heap.size)) => ((hName W h.2.2.2.2.2.1).mono (by rintro e w' ⟨v', rfl, ho, hb2⟩; obtain ⟨a1, c1, rfl⟩ := ho.shape; exact ⟨a1, c1, rfl, ho.weaken h.2.2.2.2.2.2, hb2⟩) : Calls Tryz.prog 86 #[.agg #[.int .i64 2, vn, vu, vt, vr]] W fun e w' => ∃ a1 c1, e = .returned (.slice a1 xs.length c1) ∧ OwnG 9 strV w' (w.heap.size + 1) (.slice a1 xs.length c1) xs ∧ Below W.heap.size W w'))
  have HS0 := Lib.hid hS0
  clear hNum hName hS0 KD hb0 hbx
  go_enter Tryz.func40, Tryz.ntmps40
  go_wp2_with fail
  generalize (w.alloc (.cells #[.int .i64 2, vn, vu, vt, vr] 29)) = W0 at *
  have hS := HS0.out
  clear HS0
  go_region_held3 (fun W => (W.cell? ⟨w.heap.size, 0, none⟩ = some (.int .i64 2) ∧ W.cell? ⟨w.heap.size, 1, none⟩ = some vn ∧ W.cell? ⟨w.heap.size, 2, none⟩ = some vu ∧ W.cell? ⟨w.heap.size, 3, none⟩ = some vt ∧ W.cell? ⟨w.heap.size, 4, none⟩ = some vr ∧ Below w.heap.size w W ∧ w.heap.size + 1 ≤ W.heap.size)) (first | assumption | exact KR.out _ (by assumption) | exact KG.out _ _ _ _ (by assumption) (by assumption) (by assumption)) (first | ((with_reducible refine (HName.out _ (by assumption)).mono ?_); rintro e w2 ⟨a1, cc1, rfl, ho1, hb2⟩; have hS2 := KS.out _ _ (by assumption) hb2) | ((with_reducible refine (HNum.out _ (by assumption)).mono ?_); rintro e w2 ⟨a2, cc2, rfl, ho2, hb2⟩; have hS2 := KS.out _ _ (by assumption) hb2; have ho1b := OwnG.below (by assumption : OwnG 9 strV _ _ (.slice a1 _ _) xs) hb2) | ((refine step_append_s _ (by rfl) _ _ elemStr (by rfl) (w.heap.size + 1) _ xs (by rfl) (by first | assumption | exact KO.out _ _ _ (by assumption)) _ ys (by rfl) (by first | exact StrsAt.of_own ho2 | exact StrsAt.of_own (KO.out _ _ _ ho2)) ho2.slOK (by go_split_ands; first | assumption | (simp; omega)) (by unfold maxLen; omega) (by omega) ?_; intro v3 w3 ho3 hgrow)) | ((with_reducible refine (HJ.out _ _ _ (by assumption)).mono ?_); rintro e w2 ⟨rfl, hb2⟩; have hS2 := KS.out _ _ (by assumption) hb2))
  all_goals
    rename_i hSe
    go_wp2_with fail
    go_ret
    exact ⟨by rw [HM.out]; rfl, hSe.2.2.2.2.2.1⟩

set_option maxRecDepth 100000 in
set_option maxHeartbeats 8000000 in
theorem text_n5 (v : Value) (d : Dat) (w : World) (hA : DatAt w v d) (hk : DatFew d) (hT : Tab w) (ht : d.ty = 5) :
    Calls Tryz.prog 40 #[v] w fun e w' => e = .returned (.string ⟨(textD d).toArray⟩) ∧ Below w.heap.size w w' := by
  have hM : textD d = sepBy [32] ((d.names.map textN) ++ (d.nums.map Lib.decDigits)) := by unfold textD; rw [ht]; rfl
  have hlen := sepBy_len [32] 4195328 ((d.names.map textN) ++ (d.nums.map Lib.decDigits)) (fun x hx => parts_few hk x (hx))
  have hNum : ∀ W, Below w.heap.size w W → Calls Tryz.prog 87 #[v] W fun e w' => ∃ v', e = .returned v' ∧ OwnG 9 strV w' W.heap.size v' (d.nums.map Lib.decDigits) ∧ Below W.heap.size W w' := fun W hb =>
    rdata_numWords v d W (hA.below hb) hk.1 (hT.below hb)
  have hName : ∀ W, Below w.heap.size w W → Calls Tryz.prog 86 #[v] W fun e w' => ∃ v', e = .returned v' ∧ OwnG 9 strV w' W.heap.size v' (d.names.map textN) ∧ Below W.heap.size W w' := fun W hb =>
    rdata_nameWords v d W (hA.below hb) hk.1
  obtain ⟨vn, vu, vt, vr, rfl, _⟩ := hA
  rw [ht] at hNum hName ⊢
  have hl1 : (d.names.map textN).length ≤ 1024 := by rw [List.length_map]; exact hk.2.1
  have hl2 : (d.nums.map Lib.decDigits).length ≤ 1024 := by rw [List.length_map]; exact hk.2.2.2.1
  obtain ⟨ys, hnu⟩ : ∃ xs, (d.nums.map Lib.decDigits) = xs := ⟨_, rfl⟩
  obtain ⟨xs, hna⟩ : ∃ ys, (d.names.map textN) = ys := ⟨_, rfl⟩
  rw [hnu] at hM hlen hNum hl2
  rw [hna] at hM hlen hName hl1
  have hJ : ∀ W b va, OwnG 9 strV W b va (xs ++ ys) → _ := fun W b va hv => join_nm va (xs ++ ys) ⟨#[32]⟩ W (OwnG.nmAt hv) (by rw [List.length_append]; omega) (by
    have e : (⟨#[32]⟩ : ByteArray).data.toList = [32] := rfl
    rw [e]; refine Nat.le_trans hlen ?_
    rw [List.length_append]
    have : xs.length + ys.length ≤ 2048 := by omega
    exact Nat.le_trans (Nat.mul_le_mul_right _ this) (by decide))
  have HM := Lib.hid hM
  have HJ := Lib.hid hJ
  clear hnu hna hM hlen hJ hk hT
  have hb0 : Below w.heap.size w (w.alloc (.cells #[.int .i64 5, vn, vu, vt, vr] 29)) := (Below.refl _ w).alloc (Nat.le_refl _) _
  have hbx := block_new w (.cells #[.int .i64 5, vn, vu, vt, vr] 29)
  obtain ⟨c0, c1, c2, c3, c4⟩ := cells5 hbx
  have hS0 : ((w.alloc (.cells #[.int .i64 5, vn, vu, vt, vr] 29)).cell? ⟨w.heap.size, 0, none⟩ = some (.int .i64 5) ∧ (w.alloc (.cells #[.int .i64 5, vn, vu, vt, vr] 29)).cell? ⟨w.heap.size, 1, none⟩ = some vn ∧ (w.alloc (.cells #[.int .i64 5, vn, vu, vt, vr] 29)).cell? ⟨w.heap.size, 2, none⟩ = some vu ∧ (w.alloc (.cells #[.int .i64 5, vn, vu, vt, vr] 29)).cell? ⟨w.heap.size, 3, none⟩ = some vt ∧ (w.alloc (.cells #[.int .i64 5, vn, vu, vt, vr] 29)).cell? ⟨w.heap.size, 4, none⟩ = some vr ∧ Below w.heap.size w (w.alloc (.cells #[.int .i64 5, vn, vu, vt, vr] 29)) ∧ w.heap.size + 1 ≤ (w.alloc (.cells #[.int .i64 5, vn, vu, vt, vr] 29)).heap.size) := ⟨c0, c1, c2, c3, c4, hb0, by simp⟩
  have KD : ∀ W W' : World, (W.cell? ⟨w.heap.size, 0, none⟩ = some (.int .i64 5) ∧ W.cell? ⟨w.heap.size, 1, none⟩ = some vn ∧ W.cell? ⟨w.heap.size, 2, none⟩ = some vu ∧ W.cell? ⟨w.heap.size, 3, none⟩ = some vt ∧ W.cell? ⟨w.heap.size, 4, none⟩ = some vr ∧ Below w.heap.size w W ∧ w.heap.size + 1 ≤ W.heap.size) → Below (w.heap.size + 1) W W' → (W'.cell? ⟨w.heap.size, 0, none⟩ = some (.int .i64 5) ∧ W'.cell? ⟨w.heap.size, 1, none⟩ = some vn ∧ W'.cell? ⟨w.heap.size, 2, none⟩ = some vu ∧ W'.cell? ⟨w.heap.size, 3, none⟩ = some vt ∧ W'.cell? ⟨w.heap.size, 4, none⟩ = some vr ∧ Below w.heap.size w W' ∧ w.heap.size + 1 ≤ W'.heap.size) := by
    rintro W W' ⟨a0, a1, a2, a3, a4, hw, hsz⟩ hb
    have hA : w.heap.size < w.heap.size + 1 := by omega
    exact ⟨(hb.cell hA).trans a0, (hb.cell hA).trans a1, (hb.cell hA).trans a2, (hb.cell hA).trans a3, (hb.cell hA).trans a4, hw.trans (hb.mono (by omega)), Nat.le_trans hsz hb.size⟩
  have KS := Lib.hid (fun (W W' : World) (h : (W.cell? ⟨w.heap.size, 0, none⟩ = some (.int .i64 5) ∧ W.cell? ⟨w.heap.size, 1, none⟩ = some vn ∧ W.cell? ⟨w.heap.size, 2, none⟩ = some vu ∧ W.cell? ⟨w.heap.size, 3, none⟩ = some vt ∧ W.cell? ⟨w.heap.size, 4, none⟩ = some vr ∧ Below w.heap.size w W ∧ w.heap.size + 1 ≤ W.heap.size)) (hb : Below W.heap.size W W') => KD W W' h (hb.mono h.2.2.2.2.2.2))
  have KR := Lib.hid (fun (W : World) (h : (W.cell? ⟨w.heap.size, 0, none⟩ = some (.int .i64 5) ∧ W.cell? ⟨w.heap.size, 1, none⟩ = some vn ∧ W.cell? ⟨w.heap.size, 2, none⟩ = some vu ∧ W.cell? ⟨w.heap.size, 3, none⟩ = some vt ∧ W.cell? ⟨w.heap.size, 4, none⟩ = some vr ∧ Below w.heap.size w W ∧ w.heap.size + 1 ≤ W.heap.size)) => KD W W.drew h (below_drew1 (Below.refl _ W)))
  have KG := Lib.hid (fun (W W' : World) (v0 : Value) (zs : Nm) (h : (W.cell? ⟨w.heap.size, 0, none⟩ = some (.int .i64 5) ∧ W.cell? ⟨w.heap.size, 1, none⟩ = some vn ∧ W.cell? ⟨w.heap.size, 2, none⟩ = some vu ∧ W.cell? ⟨w.heap.size, 3, none⟩ = some vt ∧ W.cell? ⟨w.heap.size, 4, none⟩ = some vr ∧ Below w.heap.size w W ∧ w.heap.size + 1 ≤ W.heap.size)) (ho : OwnG 9 strV W (w.heap.size + 1) v0 zs) (hg : W.grownBy W' v0.ownBlock) => KD W W' h ((Below.refl _ W).grown hg h.2.2.2.2.2.2 ho.base_le))
  have KO := Lib.hid (fun (W : World) (v0 : Value) (zs : Nm) (ho : OwnG 9 strV W (w.heap.size + 1) v0 zs) => (ho.drew : OwnG 9 strV W.drew (w.heap.size + 1) v0 zs))
  have HNum := Lib.hid (fun (W : World) (h : (W.cell? ⟨w.heap.size, 0, none⟩ = some (.int .i64 5) ∧ W.cell? ⟨w.heap.size, 1, none⟩ = some vn ∧ W.cell? ⟨w.heap.size, 2, none⟩ = some vu ∧ W.cell? ⟨w.heap.size, 3, none⟩ = some vt ∧ W.cell? ⟨w.heap.size, 4, none⟩ = some vr ∧ Below w.heap.size w W ∧ w.heap.size + 1 ≤ W.heap.size)) => ((hNum W h.2.2.2.2.2.1).mono (by rintro e w' ⟨v', rfl, ho, hb2⟩; obtain ⟨a1, c1, rfl⟩ := ho.shape; exact ⟨a1, c1, rfl, ho.weaken h.2.2.2.2.2.2, hb2⟩) : Calls Tryz.prog 87 #[.agg #[.int .i64 5, vn, vu, vt, vr]] W fun e w' => ∃ a1 c1, e = .returned (.slice a1 ys.length c1) ∧ OwnG 9 strV w' (w.heap.size + 1) (.slice a1 ys.length c1) ys ∧ Below W.heap.size W w'))
  have HName := Lib.hid (fun (W : World) (h : (W.cell? ⟨w.heap.size, 0, none⟩ = some (.int .i64 5) ∧ W.cell? ⟨w.heap.size, 1, none⟩ = some vn ∧ W.cell? ⟨w.heap.size, 2, none⟩ = some vu ∧ W.cell? ⟨w.heap.size, 3, none⟩ = some vt ∧ W.cell? ⟨w.heap.size, 4, none⟩ = some vr ∧ Below w.heap.size w W ∧ w.heap.size + 1 ≤ W.heap.size)) => ((hName W h.2.2.2.2.2.1).mono (by rintro e w' ⟨v', rfl, ho, hb2⟩; obtain ⟨a1, c1, rfl⟩ := ho.shape; exact ⟨a1, c1, rfl, ho.weaken h.2.2.2.2.2.2, hb2⟩) : Calls Tryz.prog 86 #[.agg #[.int .i64 5, vn, vu, vt, vr]] W fun e w' => ∃ a1 c1, e = .returned (.slice a1 xs.length c1) ∧ OwnG 9 strV w' (w.heap.size + 1) (.slice a1 xs.length c1) xs ∧ Below W.heap.size W w'))
  have HS0 := Lib.hid hS0
  clear hNum hName hS0 KD hb0 hbx
  go_enter Tryz.func40, Tryz.ntmps40
  go_wp2_with fail
  generalize (w.alloc (.cells #[.int .i64 5, vn, vu, vt, vr] 29)) = W0 at *
  have hS := HS0.out
  clear HS0
  go_region_held3 (fun W => (W.cell? ⟨w.heap.size, 0, none⟩ = some (.int .i64 5) ∧ W.cell? ⟨w.heap.size, 1, none⟩ = some vn ∧ W.cell? ⟨w.heap.size, 2, none⟩ = some vu ∧ W.cell? ⟨w.heap.size, 3, none⟩ = some vt ∧ W.cell? ⟨w.heap.size, 4, none⟩ = some vr ∧ Below w.heap.size w W ∧ w.heap.size + 1 ≤ W.heap.size)) (first | assumption | exact KR.out _ (by assumption) | exact KG.out _ _ _ _ (by assumption) (by assumption) (by assumption)) (first | ((with_reducible refine (HName.out _ (by assumption)).mono ?_); rintro e w2 ⟨a1, cc1, rfl, ho1, hb2⟩; have hS2 := KS.out _ _ (by assumption) hb2) | ((with_reducible refine (HNum.out _ (by assumption)).mono ?_); rintro e w2 ⟨a2, cc2, rfl, ho2, hb2⟩; have hS2 := KS.out _ _ (by assumption) hb2; have ho1b := OwnG.below (by assumption : OwnG 9 strV _ _ (.slice a1 _ _) xs) hb2) | ((refine step_append_s _ (by rfl) _ _ elemStr (by rfl) (w.heap.size + 1) _ xs (by rfl) (by first | assumption | exact KO.out _ _ _ (by assumption)) _ ys (by rfl) (by first | exact StrsAt.of_own ho2 | exact StrsAt.of_own (KO.out _ _ _ ho2)) ho2.slOK (by go_split_ands; first | assumption | (simp; omega)) (by unfold maxLen; omega) (by omega) ?_; intro v3 w3 ho3 hgrow)) | ((with_reducible refine (HJ.out _ _ _ (by assumption)).mono ?_); rintro e w2 ⟨rfl, hb2⟩; have hS2 := KS.out _ _ (by assumption) hb2))
  all_goals
    rename_i hSe
    go_wp2_with fail
    go_ret
    exact ⟨by rw [HM.out]; rfl, hSe.2.2.2.2.2.1⟩

set_option maxRecDepth 100000 in
set_option maxHeartbeats 8000000 in
theorem text_n12 (v : Value) (d : Dat) (w : World) (hA : DatAt w v d) (hk : DatFew d) (hT : Tab w) (ht : d.ty = 12) :
    Calls Tryz.prog 40 #[v] w fun e w' => e = .returned (.string ⟨(textD d).toArray⟩) ∧ Below w.heap.size w w' := by
  have hM : textD d = sepBy [32] ((d.names.map textN) ++ (d.nums.map Lib.decDigits)) := by unfold textD; rw [ht]; rfl
  have hlen := sepBy_len [32] 4195328 ((d.names.map textN) ++ (d.nums.map Lib.decDigits)) (fun x hx => parts_few hk x (hx))
  have hNum : ∀ W, Below w.heap.size w W → Calls Tryz.prog 87 #[v] W fun e w' => ∃ v', e = .returned v' ∧ OwnG 9 strV w' W.heap.size v' (d.nums.map Lib.decDigits) ∧ Below W.heap.size W w' := fun W hb =>
    rdata_numWords v d W (hA.below hb) hk.1 (hT.below hb)
  have hName : ∀ W, Below w.heap.size w W → Calls Tryz.prog 86 #[v] W fun e w' => ∃ v', e = .returned v' ∧ OwnG 9 strV w' W.heap.size v' (d.names.map textN) ∧ Below W.heap.size W w' := fun W hb =>
    rdata_nameWords v d W (hA.below hb) hk.1
  obtain ⟨vn, vu, vt, vr, rfl, _⟩ := hA
  rw [ht] at hNum hName ⊢
  have hl1 : (d.names.map textN).length ≤ 1024 := by rw [List.length_map]; exact hk.2.1
  have hl2 : (d.nums.map Lib.decDigits).length ≤ 1024 := by rw [List.length_map]; exact hk.2.2.2.1
  obtain ⟨ys, hnu⟩ : ∃ xs, (d.nums.map Lib.decDigits) = xs := ⟨_, rfl⟩
  obtain ⟨xs, hna⟩ : ∃ ys, (d.names.map textN) = ys := ⟨_, rfl⟩
  rw [hnu] at hM hlen hNum hl2
  rw [hna] at hM hlen hName hl1
  have hJ : ∀ W b va, OwnG 9 strV W b va (xs ++ ys) → _ := fun W b va hv => join_nm va (xs ++ ys) ⟨#[32]⟩ W (OwnG.nmAt hv) (by rw [List.length_append]; omega) (by
    have e : (⟨#[32]⟩ : ByteArray).data.toList = [32] := rfl
    rw [e]; refine Nat.le_trans hlen ?_
    rw [List.length_append]
    have : xs.length + ys.length ≤ 2048 := by omega
    exact Nat.le_trans (Nat.mul_le_mul_right _ this) (by decide))
  have HM := Lib.hid hM
  have HJ := Lib.hid hJ
  clear hnu hna hM hlen hJ hk hT
  have hb0 : Below w.heap.size w (w.alloc (.cells #[.int .i64 12, vn, vu, vt, vr] 29)) := (Below.refl _ w).alloc (Nat.le_refl _) _
  have hbx := block_new w (.cells #[.int .i64 12, vn, vu, vt, vr] 29)
  obtain ⟨c0, c1, c2, c3, c4⟩ := cells5 hbx
  have hS0 : ((w.alloc (.cells #[.int .i64 12, vn, vu, vt, vr] 29)).cell? ⟨w.heap.size, 0, none⟩ = some (.int .i64 12) ∧ (w.alloc (.cells #[.int .i64 12, vn, vu, vt, vr] 29)).cell? ⟨w.heap.size, 1, none⟩ = some vn ∧ (w.alloc (.cells #[.int .i64 12, vn, vu, vt, vr] 29)).cell? ⟨w.heap.size, 2, none⟩ = some vu ∧ (w.alloc (.cells #[.int .i64 12, vn, vu, vt, vr] 29)).cell? ⟨w.heap.size, 3, none⟩ = some vt ∧ (w.alloc (.cells #[.int .i64 12, vn, vu, vt, vr] 29)).cell? ⟨w.heap.size, 4, none⟩ = some vr ∧ Below w.heap.size w (w.alloc (.cells #[.int .i64 12, vn, vu, vt, vr] 29)) ∧ w.heap.size + 1 ≤ (w.alloc (.cells #[.int .i64 12, vn, vu, vt, vr] 29)).heap.size) := ⟨c0, c1, c2, c3, c4, hb0, by simp⟩
  have KD : ∀ W W' : World, (W.cell? ⟨w.heap.size, 0, none⟩ = some (.int .i64 12) ∧ W.cell? ⟨w.heap.size, 1, none⟩ = some vn ∧ W.cell? ⟨w.heap.size, 2, none⟩ = some vu ∧ W.cell? ⟨w.heap.size, 3, none⟩ = some vt ∧ W.cell? ⟨w.heap.size, 4, none⟩ = some vr ∧ Below w.heap.size w W ∧ w.heap.size + 1 ≤ W.heap.size) → Below (w.heap.size + 1) W W' → (W'.cell? ⟨w.heap.size, 0, none⟩ = some (.int .i64 12) ∧ W'.cell? ⟨w.heap.size, 1, none⟩ = some vn ∧ W'.cell? ⟨w.heap.size, 2, none⟩ = some vu ∧ W'.cell? ⟨w.heap.size, 3, none⟩ = some vt ∧ W'.cell? ⟨w.heap.size, 4, none⟩ = some vr ∧ Below w.heap.size w W' ∧ w.heap.size + 1 ≤ W'.heap.size) := by
    rintro W W' ⟨a0, a1, a2, a3, a4, hw, hsz⟩ hb
    have hA : w.heap.size < w.heap.size + 1 := by omega
    exact ⟨(hb.cell hA).trans a0, (hb.cell hA).trans a1, (hb.cell hA).trans a2, (hb.cell hA).trans a3, (hb.cell hA).trans a4, hw.trans (hb.mono (by omega)), Nat.le_trans hsz hb.size⟩
  have KS := Lib.hid (fun (W W' : World) (h : (W.cell? ⟨w.heap.size, 0, none⟩ = some (.int .i64 12) ∧ W.cell? ⟨w.heap.size, 1, none⟩ = some vn ∧ W.cell? ⟨w.heap.size, 2, none⟩ = some vu ∧ W.cell? ⟨w.heap.size, 3, none⟩ = some vt ∧ W.cell? ⟨w.heap.size, 4, none⟩ = some vr ∧ Below w.heap.size w W ∧ w.heap.size + 1 ≤ W.heap.size)) (hb : Below W.heap.size W W') => KD W W' h (hb.mono h.2.2.2.2.2.2))
  have KR := Lib.hid (fun (W : World) (h : (W.cell? ⟨w.heap.size, 0, none⟩ = some (.int .i64 12) ∧ W.cell? ⟨w.heap.size, 1, none⟩ = some vn ∧ W.cell? ⟨w.heap.size, 2, none⟩ = some vu ∧ W.cell? ⟨w.heap.size, 3, none⟩ = some vt ∧ W.cell? ⟨w.heap.size, 4, none⟩ = some vr ∧ Below w.heap.size w W ∧ w.heap.size + 1 ≤ W.heap.size)) => KD W W.drew h (below_drew1 (Below.refl _ W)))
  have KG := Lib.hid (fun (W W' : World) (v0 : Value) (zs : Nm) (h : (W.cell? ⟨w.heap.size, 0, none⟩ = some (.int .i64 12) ∧ W.cell? ⟨w.heap.size, 1, none⟩ = some vn ∧ W.cell? ⟨w.heap.size, 2, none⟩ = some vu ∧ W.cell? ⟨w.heap.size, 3, none⟩ = some vt ∧ W.cell? ⟨w.heap.size, 4, none⟩ = some vr ∧ Below w.heap.size w W ∧ w.heap.size + 1 ≤ W.heap.size)) (ho : OwnG 9 strV W (w.heap.size + 1) v0 zs) (hg : W.grownBy W' v0.ownBlock) => KD W W' h ((Below.refl _ W).grown hg h.2.2.2.2.2.2 ho.base_le))
  have KO := Lib.hid (fun (W : World) (v0 : Value) (zs : Nm) (ho : OwnG 9 strV W (w.heap.size + 1) v0 zs) => (ho.drew : OwnG 9 strV W.drew (w.heap.size + 1) v0 zs))
  have HNum := Lib.hid (fun (W : World) (h : (W.cell? ⟨w.heap.size, 0, none⟩ = some (.int .i64 12) ∧ W.cell? ⟨w.heap.size, 1, none⟩ = some vn ∧ W.cell? ⟨w.heap.size, 2, none⟩ = some vu ∧ W.cell? ⟨w.heap.size, 3, none⟩ = some vt ∧ W.cell? ⟨w.heap.size, 4, none⟩ = some vr ∧ Below w.heap.size w W ∧ w.heap.size + 1 ≤ W.heap.size)) => ((hNum W h.2.2.2.2.2.1).mono (by rintro e w' ⟨v', rfl, ho, hb2⟩; obtain ⟨a1, c1, rfl⟩ := ho.shape; exact ⟨a1, c1, rfl, ho.weaken h.2.2.2.2.2.2, hb2⟩) : Calls Tryz.prog 87 #[.agg #[.int .i64 12, vn, vu, vt, vr]] W fun e w' => ∃ a1 c1, e = .returned (.slice a1 ys.length c1) ∧ OwnG 9 strV w' (w.heap.size + 1) (.slice a1 ys.length c1) ys ∧ Below W.heap.size W w'))
  have HName := Lib.hid (fun (W : World) (h : (W.cell? ⟨w.heap.size, 0, none⟩ = some (.int .i64 12) ∧ W.cell? ⟨w.heap.size, 1, none⟩ = some vn ∧ W.cell? ⟨w.heap.size, 2, none⟩ = some vu ∧ W.cell? ⟨w.heap.size, 3, none⟩ = some vt ∧ W.cell? ⟨w.heap.size, 4, none⟩ = some vr ∧ Below w.heap.size w W ∧ w.heap.size + 1 ≤ W.heap.size)) => ((hName W h.2.2.2.2.2.1).mono (by rintro e w' ⟨v', rfl, ho, hb2⟩; obtain ⟨a1, c1, rfl⟩ := ho.shape; exact ⟨a1, c1, rfl, ho.weaken h.2.2.2.2.2.2, hb2⟩) : Calls Tryz.prog 86 #[.agg #[.int .i64 12, vn, vu, vt, vr]] W fun e w' => ∃ a1 c1, e = .returned (.slice a1 xs.length c1) ∧ OwnG 9 strV w' (w.heap.size + 1) (.slice a1 xs.length c1) xs ∧ Below W.heap.size W w'))
  have HS0 := Lib.hid hS0
  clear hNum hName hS0 KD hb0 hbx
  go_enter Tryz.func40, Tryz.ntmps40
  go_wp2_with fail
  generalize (w.alloc (.cells #[.int .i64 12, vn, vu, vt, vr] 29)) = W0 at *
  have hS := HS0.out
  clear HS0
  go_region_held3 (fun W => (W.cell? ⟨w.heap.size, 0, none⟩ = some (.int .i64 12) ∧ W.cell? ⟨w.heap.size, 1, none⟩ = some vn ∧ W.cell? ⟨w.heap.size, 2, none⟩ = some vu ∧ W.cell? ⟨w.heap.size, 3, none⟩ = some vt ∧ W.cell? ⟨w.heap.size, 4, none⟩ = some vr ∧ Below w.heap.size w W ∧ w.heap.size + 1 ≤ W.heap.size)) (first | assumption | exact KR.out _ (by assumption) | exact KG.out _ _ _ _ (by assumption) (by assumption) (by assumption)) (first | ((with_reducible refine (HName.out _ (by assumption)).mono ?_); rintro e w2 ⟨a1, cc1, rfl, ho1, hb2⟩; have hS2 := KS.out _ _ (by assumption) hb2) | ((with_reducible refine (HNum.out _ (by assumption)).mono ?_); rintro e w2 ⟨a2, cc2, rfl, ho2, hb2⟩; have hS2 := KS.out _ _ (by assumption) hb2; have ho1b := OwnG.below (by assumption : OwnG 9 strV _ _ (.slice a1 _ _) xs) hb2) | ((refine step_append_s _ (by rfl) _ _ elemStr (by rfl) (w.heap.size + 1) _ xs (by rfl) (by first | assumption | exact KO.out _ _ _ (by assumption)) _ ys (by rfl) (by first | exact StrsAt.of_own ho2 | exact StrsAt.of_own (KO.out _ _ _ ho2)) ho2.slOK (by go_split_ands; first | assumption | (simp; omega)) (by unfold maxLen; omega) (by omega) ?_; intro v3 w3 ho3 hgrow)) | ((with_reducible refine (HJ.out _ _ _ (by assumption)).mono ?_); rintro e w2 ⟨rfl, hb2⟩; have hS2 := KS.out _ _ (by assumption) hb2))
  all_goals
    rename_i hSe
    go_wp2_with fail
    go_ret
    exact ⟨by rw [HM.out]; rfl, hSe.2.2.2.2.2.1⟩

set_option maxRecDepth 100000 in
set_option maxHeartbeats 8000000 in
theorem text_n39 (v : Value) (d : Dat) (w : World) (hA : DatAt w v d) (hk : DatFew d) (hT : Tab w) (ht : d.ty = 39) :
    Calls Tryz.prog 40 #[v] w fun e w' => e = .returned (.string ⟨(textD d).toArray⟩) ∧ Below w.heap.size w w' := by
  have hM : textD d = sepBy [32] ((d.names.map textN) ++ (d.nums.map Lib.decDigits)) := by unfold textD; rw [ht]; rfl
  have hlen := sepBy_len [32] 4195328 ((d.names.map textN) ++ (d.nums.map Lib.decDigits)) (fun x hx => parts_few hk x (hx))
  have hNum : ∀ W, Below w.heap.size w W → Calls Tryz.prog 87 #[v] W fun e w' => ∃ v', e = .returned v' ∧ OwnG 9 strV w' W.heap.size v' (d.nums.map Lib.decDigits) ∧ Below W.heap.size W w' := fun W hb =>
    rdata_numWords v d W (hA.below hb) hk.1 (hT.below hb)
  have hName : ∀ W, Below w.heap.size w W → Calls Tryz.prog 86 #[v] W fun e w' => ∃ v', e = .returned v' ∧ OwnG 9 strV w' W.heap.size v' (d.names.map textN) ∧ Below W.heap.size W w' := fun W hb =>
    rdata_nameWords v d W (hA.below hb) hk.1
  obtain ⟨vn, vu, vt, vr, rfl, _⟩ := hA
  rw [ht] at hNum hName ⊢
  have hl1 : (d.names.map textN).length ≤ 1024 := by rw [List.length_map]; exact hk.2.1
  have hl2 : (d.nums.map Lib.decDigits).length ≤ 1024 := by rw [List.length_map]; exact hk.2.2.2.1
  obtain ⟨ys, hnu⟩ : ∃ xs, (d.nums.map Lib.decDigits) = xs := ⟨_, rfl⟩
  obtain ⟨xs, hna⟩ : ∃ ys, (d.names.map textN) = ys := ⟨_, rfl⟩
  rw [hnu] at hM hlen hNum hl2
  rw [hna] at hM hlen hName hl1
  have hJ : ∀ W b va, OwnG 9 strV W b va (xs ++ ys) → _ := fun W b va hv => join_nm va (xs ++ ys) ⟨#[32]⟩ W (OwnG.nmAt hv) (by rw [List.length_append]; omega) (by
    have e : (⟨#[32]⟩ : ByteArray).data.toList = [32] := rfl
    rw [e]; refine Nat.le_trans hlen ?_
    rw [List.length_append]
    have : xs.length + ys.length ≤ 2048 := by omega
    exact Nat.le_trans (Nat.mul_le_mul_right _ this) (by decide))
  have HM := Lib.hid hM
  have HJ := Lib.hid hJ
  clear hnu hna hM hlen hJ hk hT
  have hb0 : Below w.heap.size w (w.alloc (.cells #[.int .i64 39, vn, vu, vt, vr] 29)) := (Below.refl _ w).alloc (Nat.le_refl _) _
  have hbx := block_new w (.cells #[.int .i64 39, vn, vu, vt, vr] 29)
  obtain ⟨c0, c1, c2, c3, c4⟩ := cells5 hbx
  have hS0 : ((w.alloc (.cells #[.int .i64 39, vn, vu, vt, vr] 29)).cell? ⟨w.heap.size, 0, none⟩ = some (.int .i64 39) ∧ (w.alloc (.cells #[.int .i64 39, vn, vu, vt, vr] 29)).cell? ⟨w.heap.size, 1, none⟩ = some vn ∧ (w.alloc (.cells #[.int .i64 39, vn, vu, vt, vr] 29)).cell? ⟨w.heap.size, 2, none⟩ = some vu ∧ (w.alloc (.cells #[.int .i64 39, vn, vu, vt, vr] 29)).cell? ⟨w.heap.size, 3, none⟩ = some vt ∧ (w.alloc (.cells #[.int .i64 39, vn, vu, vt, vr] 29)).cell? ⟨w.heap.size, 4, none⟩ = some vr ∧ Below w.heap.size w (w.alloc (.cells #[.int .i64 39, vn, vu, vt, vr] 29)) ∧ w.heap.size + 1 ≤ (w.alloc (.cells #[.int .i64 39, vn, vu, vt, vr] 29)).heap.size) := ⟨c0, c1, c2, c3, c4, hb0, by simp⟩
  have KD : ∀ W W' : World, (W.cell? ⟨w.heap.size, 0, none⟩ = some (.int .i64 39) ∧ W.cell? ⟨w.heap.size, 1, none⟩ = some vn ∧ W.cell? ⟨w.heap.size, 2, none⟩ = some vu ∧ W.cell? ⟨w.heap.size, 3, none⟩ = some vt ∧ W.cell? ⟨w.heap.size, 4, none⟩ = some vr ∧ Below w.heap.size w W ∧ w.heap.size + 1 ≤ W.heap.size) → Below (w.heap.size + 1) W W' → (W'.cell? ⟨w.heap.size, 0, none⟩ = some (.int .i64 39) ∧ W'.cell? ⟨w.heap.size, 1, none⟩ = some vn ∧ W'.cell? ⟨w.heap.size, 2, none⟩ = some vu ∧ W'.cell? ⟨w.heap.size, 3, none⟩ = some vt ∧ W'.cell? ⟨w.heap.size, 4, none⟩ = some vr ∧ Below w.heap.size w W' ∧ w.heap.size + 1 ≤ W'.heap.size) := by
    rintro W W' ⟨a0, a1, a2, a3, a4, hw, hsz⟩ hb
    have hA : w.heap.size < w.heap.size + 1 := by omega
    exact ⟨(hb.cell hA).trans a0, (hb.cell hA).trans a1, (hb.cell hA).trans a2, (hb.cell hA).trans a3, (hb.cell hA).trans a4, hw.trans (hb.mono (by omega)), Nat.le_trans hsz hb.size⟩
  have KS := Lib.hid (fun (W W' : World) (h : (W.cell? ⟨w.heap.size, 0, none⟩ = some (.int .i64 39) ∧ W.cell? ⟨w.heap.size, 1, none⟩ = some vn ∧ W.cell? ⟨w.heap.size, 2, none⟩ = some vu ∧ W.cell? ⟨w.heap.size, 3, none⟩ = some vt ∧ W.cell? ⟨w.heap.size, 4, none⟩ = some vr ∧ Below w.heap.size w W ∧ w.heap.size + 1 ≤ W.heap.size)) (hb : Below W.heap.size W W') => KD W W' h (hb.mono h.2.2.2.2.2.2))
  have KR := Lib.hid (fun (W : World) (h : (W.cell? ⟨w.heap.size, 0, none⟩ = some (.int .i64 39) ∧ W.cell? ⟨w.heap.size, 1, none⟩ = some vn ∧ W.cell? ⟨w.heap.size, 2, none⟩ = some vu ∧ W.cell? ⟨w.heap.size, 3, none⟩ = some vt ∧ W.cell? ⟨w.heap.size, 4, none⟩ = some vr ∧ Below w.heap.size w W ∧ w.heap.size + 1 ≤ W.heap.size)) => KD W W.drew h (below_drew1 (Below.refl _ W)))
  have KG := Lib.hid (fun (W W' : World) (v0 : Value) (zs : Nm) (h : (W.cell? ⟨w.heap.size, 0, none⟩ = some (.int .i64 39) ∧ W.cell? ⟨w.heap.size, 1, none⟩ = some vn ∧ W.cell? ⟨w.heap.size, 2, none⟩ = some vu ∧ W.cell? ⟨w.heap.size, 3, none⟩ = some vt ∧ W.cell? ⟨w.heap.size, 4, none⟩ = some vr ∧ Below w.heap.size w W ∧ w.heap.size + 1 ≤ W.heap.size)) (ho : OwnG 9 strV W (w.heap.size + 1) v0 zs) (hg : W.grownBy W' v0.ownBlock) => KD W W' h ((Below.refl _ W).grown hg h.2.2.2.2.2.2 ho.base_le))
  have KO := Lib.hid (fun (W : World) (v0 : Value) (zs : Nm) (ho : OwnG 9 strV W (w.heap.size + 1) v0 zs) => (ho.drew : OwnG 9 strV W.drew (w.heap.size + 1) v0 zs))
  have HNum := Lib.hid (fun (W : World) (h : (W.cell? ⟨w.heap.size, 0, none⟩ = some (.int .i64 39) ∧ W.cell? ⟨w.heap.size, 1, none⟩ = some vn ∧ W.cell? ⟨w.heap.size, 2, none⟩ = some vu ∧ W.cell? ⟨w.heap.size, 3, none⟩ = some vt ∧ W.cell? ⟨w.heap.size, 4, none⟩ = some vr ∧ Below w.heap.size w W ∧ w.heap.size + 1 ≤ W.heap.size)) => ((hNum W h.2.2.2.2.2.1).mono (by rintro e w' ⟨v', rfl, ho, hb2⟩; obtain ⟨a1, c1, rfl⟩ := ho.shape; exact ⟨a1, c1, rfl, ho.weaken h.2.2.2.2.2.2, hb2⟩) : Calls Tryz.prog 87 #[.agg #[.int .i64 39, vn, vu, vt, vr]] W fun e w' => ∃ a1 c1, e = .returned (.slice a1 ys.length c1) ∧ OwnG 9 strV w' (w.heap.size + 1) (.slice a1 ys.length c1) ys ∧ Below W.heap.size W w'))
  have HName := Lib.hid (fun (W : World) (h : (W.cell? ⟨w.heap.size, 0, none⟩ = some (.int .i64 39) ∧ W.cell? ⟨w.heap.size, 1, none⟩ = some vn ∧ W.cell? ⟨w.heap.size, 2, none⟩ = some vu ∧ W.cell? ⟨w.heap.size, 3, none⟩ = some vt ∧ W.cell? ⟨w.heap.size, 4, none⟩ = some vr ∧ Below w.heap.size w W ∧ w.heap.size + 1 ≤ W.heap.size)) => ((hName W h.2.2.2.2.2.1).mono (by rintro e w' ⟨v', rfl, ho, hb2⟩; obtain ⟨a1, c1, rfl⟩ := ho.shape; exact ⟨a1, c1, rfl, ho.weaken h.2.2.2.2.2.2, hb2⟩) : Calls Tryz.prog 86 #[.agg #[.int .i64 39, vn, vu, vt, vr]] W fun e w' => ∃ a1 c1, e = .returned (.slice a1 xs.length c1) ∧ OwnG 9 strV w' (w.heap.size + 1) (.slice a1 xs.length c1) xs ∧ Below W.heap.size W w'))
  have HS0 := Lib.hid hS0
  clear hNum hName hS0 KD hb0 hbx
  go_enter Tryz.func40, Tryz.ntmps40
  go_wp2_with fail
  generalize (w.alloc (.cells #[.int .i64 39, vn, vu, vt, vr] 29)) = W0 at *
  have hS := HS0.out
  clear HS0
  go_region_held3 (fun W => (W.cell? ⟨w.heap.size, 0, none⟩ = some (.int .i64 39) ∧ W.cell? ⟨w.heap.size, 1, none⟩ = some vn ∧ W.cell? ⟨w.heap.size, 2, none⟩ = some vu ∧ W.cell? ⟨w.heap.size, 3, none⟩ = some vt ∧ W.cell? ⟨w.heap.size, 4, none⟩ = some vr ∧ Below w.heap.size w W ∧ w.heap.size + 1 ≤ W.heap.size)) (first | assumption | exact KR.out _ (by assumption) | exact KG.out _ _ _ _ (by assumption) (by assumption) (by assumption)) (first | ((with_reducible refine (HName.out _ (by assumption)).mono ?_); rintro e w2 ⟨a1, cc1, rfl, ho1, hb2⟩; have hS2 := KS.out _ _ (by assumption) hb2) | ((with_reducible refine (HNum.out _ (by assumption)).mono ?_); rintro e w2 ⟨a2, cc2, rfl, ho2, hb2⟩; have hS2 := KS.out _ _ (by assumption) hb2; have ho1b := OwnG.below (by assumption : OwnG 9 strV _ _ (.slice a1 _ _) xs) hb2) | ((refine step_append_s _ (by rfl) _ _ elemStr (by rfl) (w.heap.size + 1) _ xs (by rfl) (by first | assumption | exact KO.out _ _ _ (by assumption)) _ ys (by rfl) (by first | exact StrsAt.of_own ho2 | exact StrsAt.of_own (KO.out _ _ _ ho2)) ho2.slOK (by go_split_ands; first | assumption | (simp; omega)) (by unfold maxLen; omega) (by omega) ?_; intro v3 w3 ho3 hgrow)) | ((with_reducible refine (HJ.out _ _ _ (by assumption)).mono ?_); rintro e w2 ⟨rfl, hb2⟩; have hS2 := KS.out _ _ (by assumption) hb2))
  all_goals
    rename_i hSe
    go_wp2_with fail
    go_ret
    exact ⟨by rw [HM.out]; rfl, hSe.2.2.2.2.2.1⟩

set_option maxRecDepth 100000 in
set_option maxHeartbeats 8000000 in
theorem text_n6 (v : Value) (d : Dat) (w : World) (hA : DatAt w v d) (hk : DatFew d) (hT : Tab w) (ht : d.ty = 6) :
    Calls Tryz.prog 40 #[v] w fun e w' => e = .returned (.string ⟨(textD d).toArray⟩) ∧ Below w.heap.size w w' := by
  have hM : textD d = sepBy [32] ((d.names.map textN) ++ (d.nums.map Lib.decDigits)) := by unfold textD; rw [ht]; rfl
  have hlen := sepBy_len [32] 4195328 ((d.names.map textN) ++ (d.nums.map Lib.decDigits)) (fun x hx => parts_few hk x (hx))
  have hNum : ∀ W, Below w.heap.size w W → Calls Tryz.prog 87 #[v] W fun e w' => ∃ v', e = .returned v' ∧ OwnG 9 strV w' W.heap.size v' (d.nums.map Lib.decDigits) ∧ Below W.heap.size W w' := fun W hb =>
    rdata_numWords v d W (hA.below hb) hk.1 (hT.below hb)
  have hName : ∀ W, Below w.heap.size w W → Calls Tryz.prog 86 #[v] W fun e w' => ∃ v', e = .returned v' ∧ OwnG 9 strV w' W.heap.size v' (d.names.map textN) ∧ Below W.heap.size W w' := fun W hb =>
    rdata_nameWords v d W (hA.below hb) hk.1
  obtain ⟨vn, vu, vt, vr, rfl, _⟩ := hA
  rw [ht] at hNum hName ⊢
  have hl1 : (d.names.map textN).length ≤ 1024 := by rw [List.length_map]; exact hk.2.1
  have hl2 : (d.nums.map Lib.decDigits).length ≤ 1024 := by rw [List.length_map]; exact hk.2.2.2.1
  obtain ⟨ys, hnu⟩ : ∃ xs, (d.nums.map Lib.decDigits) = xs := ⟨_, rfl⟩
  obtain ⟨xs, hna⟩ : ∃ ys, (d.names.map textN) = ys := ⟨_, rfl⟩
  rw [hnu] at hM hlen hNum hl2
  rw [hna] at hM hlen hName hl1
  have hJ : ∀ W b va, OwnG 9 strV W b va (xs ++ ys) → _ := fun W b va hv => join_nm va (xs ++ ys) ⟨#[32]⟩ W (OwnG.nmAt hv) (by rw [List.length_append]; omega) (by
    have e : (⟨#[32]⟩ : ByteArray).data.toList = [32] := rfl
    rw [e]; refine Nat.le_trans hlen ?_
    rw [List.length_append]
    have : xs.length + ys.length ≤ 2048 := by omega
    exact Nat.le_trans (Nat.mul_le_mul_right _ this) (by decide))
  have HM := Lib.hid hM
  have HJ := Lib.hid hJ
  clear hnu hna hM hlen hJ hk hT
  have hb0 : Below w.heap.size w (w.alloc (.cells #[.int .i64 6, vn, vu, vt, vr] 29)) := (Below.refl _ w).alloc (Nat.le_refl _) _
  have hbx := block_new w (.cells #[.int .i64 6, vn, vu, vt, vr] 29)
  obtain ⟨c0, c1, c2, c3, c4⟩ := cells5 hbx
  have hS0 : ((w.alloc (.cells #[.int .i64 6, vn, vu, vt, vr] 29)).cell? ⟨w.heap.size, 0, none⟩ = some (.int .i64 6) ∧ (w.alloc (.cells #[.int .i64 6, vn, vu, vt, vr] 29)).cell? ⟨w.heap.size, 1, none⟩ = some vn ∧ (w.alloc (.cells #[.int .i64 6, vn, vu, vt, vr] 29)).cell? ⟨w.heap.size, 2, none⟩ = some vu ∧ (w.alloc (.cells #[.int .i64 6, vn, vu, vt, vr] 29)).cell? ⟨w.heap.size, 3, none⟩ = some vt ∧ (w.alloc (.cells #[.int .i64 6, vn, vu, vt, vr] 29)).cell? ⟨w.heap.size, 4, none⟩ = some vr ∧ Below w.heap.size w (w.alloc (.cells #[.int .i64 6, vn, vu, vt, vr] 29)) ∧ w.heap.size + 1 ≤ (w.alloc (.cells #[.int .i64 6, vn, vu, vt, vr] 29)).heap.size) := ⟨c0, c1, c2, c3, c4, hb0, by simp⟩
  have KD : ∀ W W' : World, (W.cell? ⟨w.heap.size, 0, none⟩ = some (.int .i64 6) ∧ W.cell? ⟨w.heap.size, 1, none⟩ = some vn ∧ W.cell? ⟨w.heap.size, 2, none⟩ = some vu ∧ W.cell? ⟨w.heap.size, 3, none⟩ = some vt ∧ W.cell? ⟨w.heap.size, 4, none⟩ = some vr ∧ Below w.heap.size w W ∧ w.heap.size + 1 ≤ W.heap.size) → Below (w.heap.size + 1) W W' → (W'.cell? ⟨w.heap.size, 0, none⟩ = some (.int .i64 6) ∧ W'.cell? ⟨w.heap.size, 1, none⟩ = some vn ∧ W'.cell? ⟨w.heap.size, 2, none⟩ = some vu ∧ W'.cell? ⟨w.heap.size, 3, none⟩ = some vt ∧ W'.cell? ⟨w.heap.size, 4, none⟩ = some vr ∧ Below w.heap.size w W' ∧ w.heap.size + 1 ≤ W'.heap.size) := by
    rintro W W' ⟨a0, a1, a2, a3, a4, hw, hsz⟩ hb
    have hA : w.heap.size < w.heap.size + 1 := by omega
    exact ⟨(hb.cell hA).trans a0, (hb.cell hA).trans a1, (hb.cell hA).trans a2, (hb.cell hA).trans a3, (hb.cell hA).trans a4, hw.trans (hb.mono (by omega)), Nat.le_trans hsz hb.size⟩
  have KS := Lib.hid (fun (W W' : World) (h : (W.cell? ⟨w.heap.size, 0, none⟩ = some (.int .i64 6) ∧ W.cell? ⟨w.heap.size, 1, none⟩ = some vn ∧ W.cell? ⟨w.heap.size, 2, none⟩ = some vu ∧ W.cell? ⟨w.heap.size, 3, none⟩ = some vt ∧ W.cell? ⟨w.heap.size, 4, none⟩ = some vr ∧ Below w.heap.size w W ∧ w.heap.size + 1 ≤ W.heap.size)) (hb : Below W.heap.size W W') => KD W W' h (hb.mono h.2.2.2.2.2.2))
  have KR := Lib.hid (fun (W : World) (h : (W.cell? ⟨w.heap.size, 0, none⟩ = some (.int .i64 6) ∧ W.cell? ⟨w.heap.size, 1, none⟩ = some vn ∧ W.cell? ⟨w.heap.size, 2, none⟩ = some vu ∧ W.cell? ⟨w.heap.size, 3, none⟩ = some vt ∧ W.cell? ⟨w.heap.size, 4, none⟩ = some vr ∧ Below w.heap.size w W ∧ w.heap.size + 1 ≤ W.heap.size)) => KD W W.drew h (below_drew1 (Below.refl _ W)))
  have KG := Lib.hid (fun (W W' : World) (v0 : Value) (zs : Nm) (h : (W.cell? ⟨w.heap.size, 0, none⟩ = some (.int .i64 6) ∧ W.cell? ⟨w.heap.size, 1, none⟩ = some vn ∧ W.cell? ⟨w.heap.size, 2, none⟩ = some vu ∧ W.cell? ⟨w.heap.size, 3, none⟩ = some vt ∧ W.cell? ⟨w.heap.size, 4, none⟩ = some vr ∧ Below w.heap.size w W ∧ w.heap.size + 1 ≤ W.heap.size)) (ho : OwnG 9 strV W (w.heap.size + 1) v0 zs) (hg : W.grownBy W' v0.ownBlock) => KD W W' h ((Below.refl _ W).grown hg h.2.2.2.2.2.2 ho.base_le))
  have KO := Lib.hid (fun (W : World) (v0 : Value) (zs : Nm) (ho : OwnG 9 strV W (w.heap.size + 1) v0 zs) => (ho.drew : OwnG 9 strV W.drew (w.heap.size + 1) v0 zs))
  have HNum := Lib.hid (fun (W : World) (h : (W.cell? ⟨w.heap.size, 0, none⟩ = some (.int .i64 6) ∧ W.cell? ⟨w.heap.size, 1, none⟩ = some vn ∧ W.cell? ⟨w.heap.size, 2, none⟩ = some vu ∧ W.cell? ⟨w.heap.size, 3, none⟩ = some vt ∧ W.cell? ⟨w.heap.size, 4, none⟩ = some vr ∧ Below w.heap.size w W ∧ w.heap.size + 1 ≤ W.heap.size)) => ((hNum W h.2.2.2.2.2.1).mono (by rintro e w' ⟨v', rfl, ho, hb2⟩; obtain ⟨a1, c1, rfl⟩ := ho.shape; exact ⟨a1, c1, rfl, ho.weaken h.2.2.2.2.2.2, hb2⟩) : Calls Tryz.prog 87 #[.agg #[.int .i64 6, vn, vu, vt, vr]] W fun e w' => ∃ a1 c1, e = .returned (.slice a1 ys.length c1) ∧ OwnG 9 strV w' (w.heap.size + 1) (.slice a1 ys.length c1) ys ∧ Below W.heap.size W w'))
  have HName := Lib.hid (fun (W : World) (h : (W.cell? ⟨w.heap.size, 0, none⟩ = some (.int .i64 6) ∧ W.cell? ⟨w.heap.size, 1, none⟩ = some vn ∧ W.cell? ⟨w.heap.size, 2, none⟩ = some vu ∧ W.cell? ⟨w.heap.size, 3, none⟩ = some vt ∧ W.cell? ⟨w.heap.size, 4, none⟩ = some vr ∧ Below w.heap.size w W ∧ w.heap.size + 1 ≤ W.heap.size)) => ((hName W h.2.2.2.2.2.1).mono (by rintro e w' ⟨v', rfl, ho, hb2⟩; obtain ⟨a1, c1, rfl⟩ := ho.shape; exact ⟨a1, c1, rfl, ho.weaken h.2.2.2.2.2.2, hb2⟩) : Calls Tryz.prog 86 #[.agg #[.int .i64 6, vn, vu, vt, vr]] W fun e w' => ∃ a1 c1, e = .returned (.slice a1 xs.length c1) ∧ OwnG 9 strV w' (w.heap.size + 1) (.slice a1 xs.length c1) xs ∧ Below W.heap.size W w'))
  have HS0 := Lib.hid hS0
  clear hNum hName hS0 KD hb0 hbx
  go_enter Tryz.func40, Tryz.ntmps40
  go_wp2_with fail
  generalize (w.alloc (.cells #[.int .i64 6, vn, vu, vt, vr] 29)) = W0 at *
  have hS := HS0.out
  clear HS0
  go_region_held3 (fun W => (W.cell? ⟨w.heap.size, 0, none⟩ = some (.int .i64 6) ∧ W.cell? ⟨w.heap.size, 1, none⟩ = some vn ∧ W.cell? ⟨w.heap.size, 2, none⟩ = some vu ∧ W.cell? ⟨w.heap.size, 3, none⟩ = some vt ∧ W.cell? ⟨w.heap.size, 4, none⟩ = some vr ∧ Below w.heap.size w W ∧ w.heap.size + 1 ≤ W.heap.size)) (first | assumption | exact KR.out _ (by assumption) | exact KG.out _ _ _ _ (by assumption) (by assumption) (by assumption)) (first | ((with_reducible refine (HName.out _ (by assumption)).mono ?_); rintro e w2 ⟨a1, cc1, rfl, ho1, hb2⟩; have hS2 := KS.out _ _ (by assumption) hb2) | ((with_reducible refine (HNum.out _ (by assumption)).mono ?_); rintro e w2 ⟨a2, cc2, rfl, ho2, hb2⟩; have hS2 := KS.out _ _ (by assumption) hb2; have ho1b := OwnG.below (by assumption : OwnG 9 strV _ _ (.slice a1 _ _) xs) hb2) | ((refine step_append_s _ (by rfl) _ _ elemStr (by rfl) (w.heap.size + 1) _ xs (by rfl) (by first | assumption | exact KO.out _ _ _ (by assumption)) _ ys (by rfl) (by first | exact StrsAt.of_own ho2 | exact StrsAt.of_own (KO.out _ _ _ ho2)) ho2.slOK (by go_split_ands; first | assumption | (simp; omega)) (by unfold maxLen; omega) (by omega) ?_; intro v3 w3 ho3 hgrow)) | ((with_reducible refine (HJ.out _ _ _ (by assumption)).mono ?_); rintro e w2 ⟨rfl, hb2⟩; have hS2 := KS.out _ _ (by assumption) hb2))
  all_goals
    rename_i hSe
    go_wp2_with fail
    go_ret
    exact ⟨by rw [HM.out]; rfl, hSe.2.2.2.2.2.1⟩

set_option maxRecDepth 100000 in
set_option maxHeartbeats 8000000 in
theorem text_a (v : Value) (d : Dat) (w : World) (hA : DatAt w v d) (hk : DatFew d) (hT : Tab w) (ht : d.ty = 1) :
    Calls Tryz.prog 40 #[v] w fun e w' => e = .returned (.string ⟨(textD d).toArray⟩) ∧ Below w.heap.size w w' := by
  have hM : textD d = sepBy [46] (d.raw.map fun c => Lib.decDigits c.toNat) := by unfold textD; rw [ht]; rfl
  obtain ⟨vn, vu, vt, vr, rfl, a1, a2, a3, a4⟩ := hA
  have hCall := fun W (hb : Below w.heap.size w W) => rdata_dotted vr d.raw W (a4.below hb) hk.1.2.2.2.2.2.2 (hT.below hb)
  rw [ht]
  have HM := Lib.hid hM
  clear hM
  have hb0 : Below w.heap.size w (w.alloc (.cells #[.int .i64 1, vn, vu, vt, vr] 29)) := (Below.refl _ w).alloc (Nat.le_refl _) _
  have hbx := block_new w (.cells #[.int .i64 1, vn, vu, vt, vr] 29)
  obtain ⟨c0, c1, c2, c3, c4⟩ := cells5 hbx
  have HC := Lib.hid (hCall _ hb0); have HB0 := Lib.hid hb0
  clear hCall hbx hk hT hb0 a1 a2 a3 a4 ht
  go_enter Tryz.func40, Tryz.ntmps40
  go_wp2_with (go_at_call 83; refine (HC.out).mono ?_; rintro e w2 ⟨rfl, hb2⟩)
  go_ret
  exact ⟨by rw [HM.out]; rfl, HB0.out.trans (hb2.mono (by simp))⟩

set_option maxRecDepth 100000 in
set_option maxHeartbeats 8000000 in
theorem text_other (v : Value) (d : Dat) (w : World) (hA : DatAt w v d) (hk : DatFew d) (hT : Tab w) (ht : d.ty ≠ 1 ∧ d.ty ≠ 28 ∧ d.ty ≠ 2 ∧ d.ty ≠ 5 ∧ d.ty ≠ 12 ∧ d.ty ≠ 39 ∧ d.ty ≠ 6 ∧ d.ty ≠ 15 ∧ d.ty ≠ 16) :
    Calls Tryz.prog 40 #[v] w fun e w' => e = .returned (.string ⟨(textD d).toArray⟩) ∧ Below w.heap.size w w' := by
  have hM : textD d = octetWordsM d.raw := by
    obtain ⟨h1, h2, h3, h4, h5, h6, h7, h8, h9⟩ := ht
    unfold textD
    rw [if_neg h1, if_neg h2, if_neg (by simp [*]), if_neg h8, if_neg h9]
  obtain ⟨vn, vu, vt, vr, rfl, a1, a2, a3, a4⟩ := hA
  have hCall := fun W (hb : Below w.heap.size w W) => rdata_octetWords vr d.raw W (a4.below hb) hk.1.2.2.2.2.2.2 (hT.below hb)
  have n1 : (d.ty == 1) = false := by simp; omega
  have n28 : (d.ty == 28) = false := by simp; omega
  have n2 : (d.ty == 2) = false := by simp; omega
  have n5 : (d.ty == 5) = false := by simp; omega
  have n12 : (d.ty == 12) = false := by simp; omega
  have n39 : (d.ty == 39) = false := by simp; omega
  have n6 : (d.ty == 6) = false := by simp; omega
  have n15 : (d.ty == 15) = false := by simp; omega
  have n16 : (d.ty == 16) = false := by simp; omega
  have HM := Lib.hid hM
  clear hM
  generalize d.ty = x at *
  have hb0 : Below w.heap.size w (w.alloc (.cells #[.int .i64 x, vn, vu, vt, vr] 29)) := (Below.refl _ w).alloc (Nat.le_refl _) _
  have hbx := block_new w (.cells #[.int .i64 x, vn, vu, vt, vr] 29)
  obtain ⟨c0, c1, c2, c3, c4⟩ := cells5 hbx
  have HC := Lib.hid (hCall _ hb0); have HB0 := Lib.hid hb0
  clear hCall hbx hk hT hb0 a1 a2 a3 a4 ht
  go_enter Tryz.func40, Tryz.ntmps40
  go_wp2_with (go_at_call 89; refine (HC.out).mono ?_; rintro e w2 ⟨rfl, hb2⟩)
  go_ret
  exact ⟨by rw [HM.out]; rfl, HB0.out.trans (hb2.mono (by simp))⟩

set_option maxRecDepth 100000 in
set_option maxHeartbeats 8000000 in
theorem text_txt (v : Value) (d : Dat) (w : World) (hA : DatAt w v d) (hk : DatFew d) (ht : d.ty = 16) :
    Calls Tryz.prog 40 #[v] w fun e w' => e = .returned (.string ⟨(textD d).toArray⟩) ∧ Below w.heap.size w w' := by
  have hM : textD d = sepBy [32] (d.texts.map quotedM) := by unfold textD; rw [ht]; rfl
  have hlen := sepBy_len [32] 4195328 (d.texts.map quotedM) (fun x hx => by
    obtain ⟨n, hn, rfl⟩ := List.mem_map.1 hx
    exact quotedM_few (hk.1.2.2.2.2.2.1.2 n hn))
  have hCall := fun W (hb : Below w.heap.size w W) => rdata_textWords v d W (hA.below hb) hk.1
  obtain ⟨vn, vu, vt, vr, rfl, a1, a2, a3, a4⟩ := hA
  rw [ht] at hCall ⊢
  have hl1 : (d.texts.map quotedM).length ≤ 1024 := by rw [List.length_map]; exact hk.2.2.2.2
  generalize d.texts.map quotedM = xs at *
  have hJ : ∀ W b va, OwnG 9 strV W b va xs → _ := fun W b va hv => join_nm va xs ⟨#[32]⟩ W (OwnG.nmAt hv) (by omega) (by
    have e : (⟨#[32]⟩ : ByteArray).data.toList = [32] := rfl
    rw [e]; refine Nat.le_trans hlen ?_
    exact Nat.le_trans (Nat.mul_le_mul_right _ hl1) (by decide))
  have HM := Lib.hid hM
  have HJ := Lib.hid hJ
  have hb0 : Below w.heap.size w (w.alloc (.cells #[.int .i64 16, vn, vu, vt, vr] 29)) := (Below.refl _ w).alloc (Nat.le_refl _) _
  have hbx := block_new w (.cells #[.int .i64 16, vn, vu, vt, vr] 29)
  obtain ⟨c0, c1, c2, c3, c4⟩ := cells5 hbx
  have HC := Lib.hid (hCall _ hb0); have HB0 := Lib.hid hb0
  clear hCall hbx hk hb0 a1 a2 a3 a4 ht hJ hM hlen
  go_enter Tryz.func40, Tryz.ntmps40
  go_wp2_with (first | (go_at_call 88; refine (HC.out).mono ?_; rintro e w2 ⟨v2, rfl, ho2, hb2⟩) | (go_at_call 85; refine (HJ.out _ _ _ ho2).mono ?_; rintro e w3 ⟨rfl, hb3⟩))
  go_ret
  exact ⟨by rw [HM.out]; rfl, (HB0.out.trans (hb2.mono (by simp))).trans (hb3.mono (by have := hb2.size; simp at this; omega))⟩

theorem rdata_Text (v : Value) (d : Dat) (w : World) (hA : DatAt w v d) (hk : DatFew d) (hT : Tab w) (h28 : d.ty ≠ 28) :
    Calls Tryz.prog 40 #[v] w fun e w' => e = .returned (.string ⟨(textD d).toArray⟩) ∧ Below w.heap.size w w' := by
  by_cases h1 : d.ty = 1
  · exact text_a v d w hA hk hT h1
  by_cases h2 : d.ty = 2
  · exact text_n2 v d w hA hk hT h2
  by_cases h5 : d.ty = 5
  · exact text_n5 v d w hA hk hT h5
  by_cases h12 : d.ty = 12
  · exact text_n12 v d w hA hk hT h12
  by_cases h39 : d.ty = 39
  · exact text_n39 v d w hA hk hT h39
  by_cases h6 : d.ty = 6
  · exact text_n6 v d w hA hk hT h6
  by_cases h15 : d.ty = 15
  · exact text_mx v d w hA hk hT h15
  by_cases h16 : d.ty = 16
  · exact text_txt v d w hA hk h16
  exact text_other v d w hA hk hT ⟨h1, h28, h2, h5, h12, h39, h6, h15, h16⟩
end Go.Proofs.YtfcdajldpnomfaaGreatDoor

/-
  rdata.groups.
-/
namespace Go.Proofs.YtfcdajldpnomfaaGreatDoor
set_option maxRecDepth 20000
open Go.RowKit Go.Shelf
set_option maxRecDepth 20000

theorem hexes_snoc (a b : UInt8) : ∀ l : List UInt8, l.length % 2 = 0 → hexes (l ++ [a, b]) = hexes l ++ [hexD (256 * a.toNat + b.toNat)]
  | [], _ => rfl
  | [x], h => by simp at h
  | x :: y :: r, h => by
    have ih := hexes_snoc a b r (by simp at h; omega)
    show hexD _ :: hexes (r ++ [a, b]) = _
    rw [ih]; rfl
theorem hexes_odd (a : UInt8) : ∀ l : List UInt8, l.length % 2 = 0 → hexes (l ++ [a]) = hexes l
  | [], _ => rfl
  | [x], h => by simp at h
  | x :: y :: r, h => by
    have ih := hexes_odd a r (by simp at h; omega)
    show hexD _ :: hexes (r ++ [a]) = _
    rw [ih]; rfl
theorem hexes_len : ∀ l : List UInt8, (hexes l).length = l.length / 2
  | [] => rfl
  | [x] => by simp [hexes]
  | x :: y :: r => by
    have ih := hexes_len r
    show (hexes r).length + 1 = (r.length + 1 + 1) / 2
    rw [ih]; omega
theorem hexD_len (n : Nat) (h : n < 65536) : (hexD n).length ≤ 4 := by
  have s1 : ∀ m, m < 16 → (hexD m).length = 1 := fun m h => by rw [hexD_small h]; rfl
  have st : ∀ m, ¬ m < 16 → (hexD m).length = (hexD (m / 16)).length + 1 := fun m h => by rw [hexD_big h]; simp
  by_cases h1 : n < 16
  · rw [s1 n h1]; omega
  · rw [st n h1]
    by_cases h2 : n / 16 < 16
    · rw [s1 _ h2]; omega
    · rw [st _ h2]
      by_cases h3 : n / 16 / 16 < 16
      · rw [s1 _ h3]; omega
      · rw [st _ h3, s1 _ (by omega)]; omega
theorem hexes_each : ∀ (l : List UInt8), ∀ x ∈ hexes l, x.length ≤ 4
  | [], x, h => by simp [hexes] at h
  | [_], x, h => by simp [hexes] at h
  | a :: b :: r, x, h => by
    have h : x = hexD (256 * a.toNat + b.toNat) ∨ x ∈ hexes r := by simpa [hexes] using h
    rcases h with rfl | h
    · exact hexD_len _ (by have := a.toNat_lt; have := b.toNat_lt; omega)
    · exact hexes_each r x h
theorem or_octets (a b : UInt8) : bits .or .u64 ((a.toNat : Int) * 256) (b.toNat : Int) = ((256 * a.toNat + b.toNat : Nat) : Int) := by
  have h1 := a.toNat_lt
  have h2 := b.toNat_lt
  rw [show ((a.toNat : Int) * 256) = ((256 * a.toNat : Nat) : Int) by omega, u64_or_nat _ _ (by omega) (by omega)]
  congr 1
  exact (Nat.two_pow_add_eq_or_of_lt (i := 8) (by omega) a.toNat).symm

set_option maxHeartbeats 4000000 in
theorem rdata_groups (v : Value) (raw : List UInt8) (w : World) (hA : SlAt w v (raw.map bv)) (hk : raw.length ≤ 1048576) (hZ : TabZ w) :
    Calls Tryz.prog 84 #[v] w fun e w' => e = .returned (.string ⟨(sepBy [58] (hexes raw)).toArray⟩) ∧ Below w.heap.size w w' := by
  obtain ⟨an, cn, rfl, _⟩ := id hA
  have hcell := fun W (hb : Below w.heap.size w W) j (hj : j < (raw.map bv).length) => hA.cell hb j hj
  obtain ⟨n, hn⟩ : ∃ n, raw.length = n := ⟨_, rfl⟩
  have HL := Lib.hid hn
  have hnb : n ≤ 1048576 := by omega
  rw [List.length_map, hn]
  clear hn hk hA
  go_enter Tryz.func84, Tryz.ntmps84
  go_wp2_with fail
  go_loopw [3, 4, 5] (fun u i z wr => ∃ (k : Nat) (done : Nm), i = .int .i64 k ∧ k ≤ n ∧ OwnG 9 strV wr w.heap.size u done ∧ Below w.heap.size w wr ∧ Hid (k % 2 = 0 ∧ done = hexes (raw.take k))) (fun _ i _ _ => n - (intOf i).toNat)
  case atStart => exact ⟨0, [], rfl, Nat.zero_le _, OwnG.nil _ _, Below.refl _ _, Lib.hid ⟨rfl, rfl⟩⟩
  case round =>
    obtain ⟨k, done, rfl, hk0, hown, hB, HR⟩ := hrel
    obtain ⟨au, cu, rfl⟩ := hown.shape
    have hdk : done.length ≤ k := by rw [HR.out.2, hexes_len, List.length_take]; omega
    have HD := Lib.hid hdk; clear hdk
    generalize hdl : done.length = dl at *
    have HDL := Lib.hid hdl; clear hdl
    have hBz := hB.size
    have hkn2 : (0 : Int) ≤ (k : Int) + 1 := by omega
    by_cases hlt : k + 1 < n
    · have hkd : k + 1 < raw.length := by rw [HL.out]; exact hlt
      obtain ⟨g, off, rfl, hg, hc1⟩ := hcell wr hB k (by rw [List.length_map]; omega)
      obtain ⟨g2, off2, e2, _, hc2⟩ := hcell wr hB (k + 1) (by rw [List.length_map]; exact hkd)
      cases e2
      rw [List.getElem_map] at hc1 hc2
      have hltI : (k : Int) + 1 < (n : Int) := by omega
      have hltJ : (k : Int) < (n : Int) := by omega
      have hnat : ((k : Int) + 1).toNat = k + 1 := by omega
      have hHS := Lib.hid (show hexes (raw.take (k + 2)) = hexes (raw.take k) ++ [hexD (256 * (raw[k]'(by omega)).toNat + raw[k + 1].toNat)] from by
        have e : raw.take (k + 2) = raw.take k ++ [raw[k]'(by omega), raw[k + 1]] := by
          rw [List.take_succ_eq_append_getElem hkd, List.take_succ_eq_append_getElem (by omega : k < raw.length), List.append_assoc]; rfl
        rw [e, hexes_snoc _ _ _ (by rw [List.length_take]; have := HR.out.1; omega)])
      have hor := or_octets (raw[k]'(by omega)) raw[k + 1]
      have hcc1 : ((raw[k]'(by omega)).toNat : Int) ≤ 255 := by have := (raw[k]'(by omega)).toNat_lt; omega
      have hcc2 : (raw[k + 1].toNat : Int) ≤ 255 := by have := raw[k + 1].toNat_lt; omega
      have hm : 256 * (raw[k]'(by omega)).toNat + raw[k + 1].toNat < 65536 := by omega
      unfold bv at hc1 hc2
      clear hcell
      generalize (raw[k]'(by omega)) = x1 at *
      generalize raw[k + 1] = x2 at *
      generalize 256 * x1.toNat + x2.toNat = m at *
      have hT := strconv_FormatUint16 m hm wr.drew (hZ.below (below_drew1 hB))
      generalize hexD m = y at *
      obtain ⟨sx, hy0, _, _⟩ := str_of y
      rw [str_name hy0] at hT
      have HC := Lib.hid (show [Value.string sx] = [y].map strV by rw [← hy0]; simp [strV])
      have HR2 := Lib.hid (show (k + 2) % 2 = 0 ∧ done ++ [y] = hexes (raw.take (k + 2)) from ⟨by have := HR.out.1; omega, by rw [hHS.out, HR.out.2]⟩)
      clear hHS hy0 HR
      go_wp2_with fail
      go_region
      have hB1 : Below w.heap.size w wr.drew := below_drew1 hB
      have hown1 : OwnG 9 strV wr.drew w.heap.size (.slice au dl cu) done := hown.drew
      go_wp2_with (first | (go_at_call 37; refine hT.mono ?_; rintro e w2 ⟨rfl, hb2⟩) | (at_builtin; refine wpl_append_g w2 rfl (.tmp 26) (.tmp 29) elemStr rfl strV_one w.heap.size (.slice au dl cu) done rfl (hown1.below hb2) [.string sx] [y] HC.out 1 1 rfl rfl (Nat.le_trans hBz hb2.size) (by have := HD.out; have := HDL.out; unfold maxLen; simp; omega) (by have := HD.out; have := HDL.out; simp; omega) ?_; intro v3 w3 hown3 hg3; have hB3 : Below w.heap.size w w3 := (hB1.trans (hb2.mono hBz)).grown hg3 (Nat.le_trans hBz hb2.size) hown.base_le))
      go_roundw
      case rel => exact ⟨k + 2, done ++ [y], by go_num, by omega, hown3, hB3, HR2⟩
      case measure => simp [intOf]; omega
    · have hltI : ¬ (k : Int) + 1 < (n : Int) := by omega
      have H0 : Hid (done = hexes raw) := Lib.hid (by
        rw [HR.out.2]
        by_cases he : k = n
        · rw [List.take_of_length_le (by rw [HL.out, he]; exact Nat.le_refl _)]
        · have hkd : k < raw.length := by rw [HL.out]; omega
          have e : raw = raw.take k ++ [raw[k]] := by
            conv => lhs; rw [← List.take_append_drop k raw]
            congr 1
            rw [List.drop_eq_getElem_cons hkd, List.drop_of_length_le (by rw [HL.out]; omega)]
          conv => rhs; rw [e]
          rw [hexes_odd _ _ (by rw [List.length_take]; have := HR.out.1; omega)])
      have hJ := join_nm (.slice au dl cu) done ⟨#[58]⟩ wr (HDL.out ▸ hown.nmAt) (by have := HD.out; have := HDL.out; omega) (by
        have := sepBy_len [58] 4 done (fun x hx => by rw [H0.out] at hx; exact hexes_each raw x hx)
        have e : (⟨#[58]⟩ : ByteArray).data.toList = [58] := rfl
        rw [e]
        have h1 := HD.out; have h2 := HDL.out
        simp only [List.length_singleton] at this
        omega)
      clear HR hcell
      go_wp2_with (go_at_call 85; refine hJ.mono ?_; rintro e w2 ⟨rfl, hb2⟩)
      go_ret
      exact ⟨by rw [H0.out]; rfl, hB.trans (hb2.mono hBz)⟩

set_option maxRecDepth 100000 in
set_option maxHeartbeats 8000000 in
theorem text_g (v : Value) (d : Dat) (w : World) (hA : DatAt w v d) (hk : DatFew d) (hZ : TabZ w) (ht : d.ty = 28) :
    Calls Tryz.prog 40 #[v] w fun e w' => e = .returned (.string ⟨(textD d).toArray⟩) ∧ Below w.heap.size w w' := by
  have hM : textD d = sepBy [58] (hexes d.raw) := by unfold textD; rw [ht]; rfl
  obtain ⟨vn, vu, vt, vr, rfl, a1, a2, a3, a4⟩ := hA
  have hCall := fun W (hb : Below w.heap.size w W) => rdata_groups vr d.raw W (a4.below hb) hk.1.2.2.2.2.2.2 (hZ.below hb)
  rw [ht]
  have HM := Lib.hid hM
  clear hM
  have hb0 : Below w.heap.size w (w.alloc (.cells #[.int .i64 28, vn, vu, vt, vr] 29)) := (Below.refl _ w).alloc (Nat.le_refl _) _
  have hbx := block_new w (.cells #[.int .i64 28, vn, vu, vt, vr] 29)
  obtain ⟨c0, c1, c2, c3, c4⟩ := cells5 hbx
  have HC := Lib.hid (hCall _ hb0); have HB0 := Lib.hid hb0
  clear hCall hbx hk hZ hb0 a1 a2 a3 a4 ht
  go_enter Tryz.func40, Tryz.ntmps40
  go_wp2_with (go_at_call 84; refine (HC.out).mono ?_; rintro e w2 ⟨rfl, hb2⟩)
  go_ret
  exact ⟨by rw [HM.out]; rfl, HB0.out.trans (hb2.mono (by simp))⟩
theorem rdata_TextZ (v : Value) (d : Dat) (w : World) (hA : DatAt w v d) (hk : DatFew d) (hT : Tab w) (hZ : TabZ w) :
    Calls Tryz.prog 40 #[v] w fun e w' => e = .returned (.string ⟨(textD d).toArray⟩) ∧ Below w.heap.size w w' := by
  by_cases h28 : d.ty = 28
  · exact text_g v d w hA hk hZ h28
  · exact rdata_Text v d w hA hk hT h28
end Go.Proofs.YtfcdajldpnomfaaGreatDoor

