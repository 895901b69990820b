/-
  TextOne.
-/
import Derived.Test.YtbnkecmhmcligaaDoorRepO
namespace Go.Proofs.YtbnkecmhmcligaaDoor
open Go.RowKit Go.Shelf
set_option maxRecDepth 20000
set_option linter.unusedVariables false
set_option linter.unusedSimpArgs false
theorem kEB (W W' : World) (cs : List Value) (x : Ft) (h : EB W cs x) (k : KeepO W W') : EB W' cs x := h.keep k
theorem kFB (W W' : World) (cs : List Value) (x : Fw) (h : FB W cs x) (k : KeepO W W') : FB W' cs x := h.keep k
theorem kSB (W W' : World) (cs : List Value) (x : Sn) (h : SB W cs x) (k : KeepO W W') : SB W' cs x := h.keep k
theorem elem_flt : ElemK 1 33 28 8 := ⟨Tryd.underlying28, _, _, rfl, rfl, rfl, rfl, rfl⟩
theorem elem_fl : ElemK 3 41 23 40 := ⟨Tryd.underlying23, _, _, rfl, rfl, rfl, rfl, rfl⟩
theorem elem_sn : ElemK 4 44 25 64 := ⟨Tryd.underlying25, _, _, rfl, rfl, rfl, rfl, rfl⟩
theorem OneS.stepE {w : World} {RB k b c : Nat} {er : Int} {x : Option Addr} {n d : Nat} {vf vs : Value} {wr : World} (h : OneS w RB k b c er (.slice x n d) vf vs wr) :
    ∃ css, OwnC 1 33 wr w.heap.size (.slice x n d) css ∧ css.length = k ∧ k = n ∧ ∀ (W3 w5 : World) (v' : Value) (B1 : Nat), Below wr.heap.size wr W3 → W3.heap[B1]? = some (.cells #[strV [122], .int .i64 (k : Int), .int .i64 2] 32) → OwnC 1 33 w5 w.heap.size v' (css ++ [[.pointer (some ⟨B1, 0, none⟩)]]) → W3.grownBy w5 (Value.slice x n d).ownBlock →
      w5.heap[RB]? = some (.cells #[.slice x n d, vf, .slice none 0 0, vs, .int .i64 er] 30) ∧ OneS w RB (k + 1) b c er v' vf vs (w5.setCell ⟨RB, 0, none⟩ v') := by
  obtain ⟨hrb, ⟨css, o1, o2, o3, o4⟩, hf, hs, hbw, hle⟩ := h
  obtain ⟨_, _, e⟩ := OwnK.shape o1
  injection e with _ e _
  have o2' := o2
  rw [esL_len] at o2'
  refine ⟨css, o1, o2', by omega, fun W3 w5 v' B1 hb hB ho hg => ?_⟩
  have o1' := OwnK.below o1 hb
  have r3 := (hb.block RB (kblock_lt hrb)).trans hrb
  have r5 : w5.heap[RB]? = some (.cells #[.slice x n d, vf, .slice none 0 0, vs, .int .i64 er] 30) := (hg.block RB (kblock_lt r3) (OwnK.ne_block o1' r3 (by decide))).trans r3
  refine ⟨r5, ?_⟩
  have bad : BadT 30 := .inl rfl
  refine ⟨by have := kset r5 0 v'; simpa using this, ?_, ?_, ?_, ?_, hle⟩
  · rw [esL_succ]
    exact RowO.set kEB (RowO.snoc kEB o1' o2 o3 (fun j a b => (o4 j a b).keep (KeepO.of_below hb)) (cs := [.pointer (some ⟨B1, 0, none⟩)]) (x := ⟨[122], (k : Int), 2⟩) rfl ⟨B1, rfl, hB⟩ (.inr (.inl rfl)) ho hg) r5 (by decide) bad 0 v'
  · exact RowO.set kFB (RowO.other kFB (RowO.below kFB hf hb) o1' (by decide) (.inr (.inl rfl)) hg) r5 (by decide) bad 0 v'
  · exact RowO.set kSB (RowO.other kSB (RowO.below kSB hs hb) o1' (by decide) (.inr (.inl rfl)) hg) r5 (by decide) bad 0 v'
  · exact (((hbw.trans (hb.mono hbw.size)).grown hg (Nat.le_trans hbw.size hb.size) (OwnK.base_le o1')).setCell (p := ⟨RB, 0, none⟩) hle v')
theorem OneS.stepF {w : World} {RB k b c : Nat} {er : Int} {x : Option Addr} {n d : Nat} {ve vs : Value} {wr : World} (h : OneS w RB b k c er ve (.slice x n d) vs wr) :
    ∃ css, OwnC 3 41 wr w.heap.size (.slice x n d) css ∧ css.length = k ∧ k = n ∧ ∀ (W3 w5 : World) (v' : Value) (B1 : Nat), Below wr.heap.size wr W3 → W3.heap[B1]? = some (.cells #[strV [97]] 9) → OwnC 3 41 w5 w.heap.size v' (css ++ [[.int .i64 (1 + (k : Int)), .slice (some ⟨B1, 0, none⟩) 1 1, .int .i64 (1 + (k : Int))]]) → W3.grownBy w5 (Value.slice x n d).ownBlock →
      w5.heap[RB]? = some (.cells #[ve, .slice x n d, .slice none 0 0, vs, .int .i64 er] 30) ∧ OneS w RB b (k + 1) c er ve v' vs (w5.setCell ⟨RB, 1, none⟩ v') := by
  obtain ⟨hrb, he, ⟨css, o1, o2, o3, o4⟩, hs, hbw, hle⟩ := h
  obtain ⟨_, _, e⟩ := OwnK.shape o1
  injection e with _ e _
  have o2' := o2
  rw [fsL_len] at o2'
  refine ⟨css, o1, o2', by omega, fun W3 w5 v' B1 hb hB ho hg => ?_⟩
  have o1' := OwnK.below o1 hb
  have r3 := (hb.block RB (kblock_lt hrb)).trans hrb
  have r5 : w5.heap[RB]? = some (.cells #[ve, .slice x n d, .slice none 0 0, vs, .int .i64 er] 30) := (hg.block RB (kblock_lt r3) (OwnK.ne_block o1' r3 (by decide))).trans r3
  refine ⟨r5, ?_⟩
  have bad : BadT 30 := .inl rfl
  refine ⟨by have := kset r5 1 v'; simpa using this, ?_, ?_, ?_, ?_, hle⟩
  · exact RowO.set kEB (RowO.other kEB (RowO.below kEB he hb) o1' (by decide) (.inr (.inr (.inl rfl))) hg) r5 (by decide) bad 1 v'
  · rw [fsL_succ]
    exact RowO.set kFB (RowO.snoc kFB o1' o2 o3 (fun j a b => (o4 j a b).keep (KeepO.of_below hb)) (cs := [.int .i64 (1 + (k : Int)), .slice (some ⟨B1, 0, none⟩) 1 1, .int .i64 (1 + (k : Int))]) (x := ⟨1 + (k : Int), [[97]], 1 + (k : Int)⟩) rfl ⟨_, rfl, B1, rfl, hB⟩ (.inr (.inr (.inl rfl))) ho hg) r5 (by decide) bad 1 v'
  · exact RowO.set kSB (RowO.other kSB (RowO.below kSB hs hb) o1' (by decide) (.inr (.inr (.inl rfl))) hg) r5 (by decide) bad 1 v'
  · exact (((hbw.trans (hb.mono hbw.size)).grown hg (Nat.le_trans hbw.size hb.size) (OwnK.base_le o1')).setCell (p := ⟨RB, 1, none⟩) hle v')
theorem OneS.stepS {w : World} {RB k b c : Nat} {er : Int} {x : Option Addr} {n d : Nat} {ve vf : Value} {wr : World} (h : OneS w RB b c k er ve vf (.slice x n d) wr) :
    ∃ css, OwnC 4 44 wr w.heap.size (.slice x n d) css ∧ css.length = k ∧ k = n ∧ ∀ (W3 w5 : World) (v' : Value) (B1 B2 : Nat), Below wr.heap.size wr W3 → W3.heap[B1]? = some (.cells #[strV [98]] 9) → W3.heap[B2]? = some (.cells #[.int .i64 (k : Int)] 3) → OwnC 4 44 w5 w.heap.size v' (css ++ [[.int .i64 (5 + ((k % 5 : Nat) : Int)), .slice (some ⟨B1, 0, none⟩) 1 1, .int .i64 1, .slice (some ⟨B2, 0, none⟩) 1 1]]) → W3.grownBy w5 (Value.slice x n d).ownBlock →
      w5.heap[RB]? = some (.cells #[ve, vf, .slice none 0 0, .slice x n d, .int .i64 er] 30) ∧ OneS w RB b c (k + 1) er ve vf v' (w5.setCell ⟨RB, 3, none⟩ v') := by
  obtain ⟨hrb, he, hf, ⟨css, o1, o2, o3, o4⟩, hbw, hle⟩ := h
  obtain ⟨_, _, e⟩ := OwnK.shape o1
  injection e with _ e _
  have o2' := o2
  rw [ssL_len] at o2'
  refine ⟨css, o1, o2', by omega, fun W3 w5 v' B1 B2 hb hB hB2 ho hg => ?_⟩
  have o1' := OwnK.below o1 hb
  have r3 := (hb.block RB (kblock_lt hrb)).trans hrb
  have r5 : w5.heap[RB]? = some (.cells #[ve, vf, .slice none 0 0, .slice x n d, .int .i64 er] 30) := (hg.block RB (kblock_lt r3) (OwnK.ne_block o1' r3 (by decide))).trans r3
  refine ⟨r5, ?_⟩
  have bad : BadT 30 := .inl rfl
  refine ⟨by have := kset r5 3 v'; simpa using this, ?_, ?_, ?_, ?_, hle⟩
  · exact RowO.set kEB (RowO.other kEB (RowO.below kEB he hb) o1' (by decide) (.inr (.inr (.inr rfl))) hg) r5 (by decide) bad 3 v'
  · exact RowO.set kFB (RowO.other kFB (RowO.below kFB hf hb) o1' (by decide) (.inr (.inr (.inr rfl))) hg) r5 (by decide) bad 3 v'
  · rw [ssL_succ]
    exact RowO.set kSB (RowO.snoc kSB o1' o2 o3 (fun j a b => (o4 j a b).keep (KeepO.of_below hb)) (cs := [.int .i64 (5 + ((k % 5 : Nat) : Int)), .slice (some ⟨B1, 0, none⟩) 1 1, .int .i64 1, .slice (some ⟨B2, 0, none⟩) 1 1]) (x := ⟨5 + ((k % 5 : Nat) : Int), [[98]], 1, [(k : Int)]⟩) rfl ⟨_, B2, rfl, ⟨B1, rfl, hB⟩, hB2⟩ (.inr (.inr (.inr rfl))) ho hg) r5 (by decide) bad 3 v'
  · exact (((hbw.trans (hb.mono hbw.size)).grown hg (Nat.le_trans hbw.size hb.size) (OwnK.base_le o1')).setCell (p := ⟨RB, 3, none⟩) hle v')
theorem OneS.lenE {w : World} {RB a b c : Nat} {er : Int} {x : Option Addr} {n d : Nat} {vf vs : Value} {W : World} (h : OneS w RB a b c er (.slice x n d) vf vs W) : n = a := by
  obtain ⟨css, o1, o2, _⟩ := h.e
  obtain ⟨_, _, e⟩ := OwnK.shape o1
  injection e with _ e _
  rw [esL_len] at o2; omega
theorem OneS.lenF {w : World} {RB a b c : Nat} {er : Int} {x : Option Addr} {n d : Nat} {ve vs : Value} {W : World} (h : OneS w RB a b c er ve (.slice x n d) vs W) : n = b := by
  obtain ⟨css, o1, o2, _⟩ := h.f
  obtain ⟨_, _, e⟩ := OwnK.shape o1
  injection e with _ e _
  rw [fsL_len] at o2; omega
theorem OneS.lenS {w : World} {RB a b c : Nat} {er : Int} {x : Option Addr} {n d : Nat} {ve vf : Value} {W : World} (h : OneS w RB a b c er ve vf (.slice x n d) W) : n = c := by
  obtain ⟨css, o1, o2, _⟩ := h.s
  obtain ⟨_, _, e⟩ := OwnK.shape o1
  injection e with _ e _
  rw [ssL_len] at o2; omega
theorem OneS.setE {w : World} {RB a b c : Nat} {er : Int} {ve vf vs : Value} {W : World} (h : OneS w RB a b c er ve vf vs W) (e2 : Int) : OneS w RB a b c e2 ve vf vs (W.setCell ⟨RB, 4, none⟩ (.int .i64 e2)) := by
  have bad : BadT 30 := .inl rfl
  exact ⟨by have := kset h.rb 4 (.int .i64 e2); simpa using this, RowO.set kEB h.e h.rb (by decide) bad 4 _, RowO.set kFB h.f h.rb (by decide) bad 4 _, RowO.set kSB h.s h.rb (by decide) bad 4 _, h.below.setCell (p := ⟨RB, 4, none⟩) h.lt _, h.lt⟩
theorem OneS.rp {w : World} {RB a b c : Nat} {er : Int} {ve vf vs : Value} {W : World} (h : OneS w RB a b c er ve vf vs W) : RpAt W ve vf (.slice none 0 0) vs (oneR a b c er) :=
  ⟨h.e.rows (fun _ _ => EB.at), h.f.rows (fun _ _ => FB.at), RowsAt.nil _ _, h.s.rows (fun _ _ => SB.at)⟩
theorem wordO_len (a b c : Nat) (s : Bool) (i : Nat) : (wordO a b c s i).length = 5 := by
  unfold wordO; split
  · rfl
  · split
    · rfl
    · split <;> rfl
theorem word_at {W : World} {v : Value} {xs : Nm} (h : StrsAt W v xs) {n : Nat} (hn : xs.length = n) : ∃ a c, v = .slice a n c ∧ ∀ i (hi : i < xs.length), ∃ g off, a = some ⟨g, off, none⟩ ∧ W.cell? ⟨g, off + i, none⟩ = some (strV xs[i]) := by
  obtain ⟨a, c, rfl, hx⟩ := h
  refine ⟨a, c, by rw [hn], fun i hi => ?_⟩
  rcases hx with hx | ⟨b, off, rfl, hb, hc⟩
  · subst hx; simp at hi
  · exact ⟨b, off, rfl, hc i hi⟩
theorem word5 (x y r : List UInt8) (hx : x = y ++ r) (hy : y.length = 5) : ∃ s : ByteArray, strV x = .string s ∧ s.extract 0 5 = ⟨y.toArray⟩ ∧ (5 : Int) ≤ (s.size : Int) := by
  subst hx
  refine ⟨⟨(y ++ r).toArray⟩, rfl, ?_, ?_⟩
  · apply ByteArray.ext
    simp [ByteArray.extract, ByteArray.copySlice, ← hy]
  · show (5 : Int) ≤ (((y ++ r).toArray.size : Nat) : Int)
    simp; omega
section
set_option maxRecDepth 100000 in
set_option maxHeartbeats 16000000 in
theorem law25_One (a b c : Int) (s : Bool) (w : World) (ha : (Lit.int .u8 a).wf = true) (hb : (Lit.int .u8 b).wf = true) (hc : (Lit.int .u8 c).wf = true) (hT : Tab w) :
    Calls Tryd.prog 4 #[.int .u8 a, .int .u8 b, .int .u8 c, .bool s] w fun e w' => e = .returned (.bool true) ∧ Below w.heap.size w w' := by
  have e1 : IntKind.u8.min = 0 := by decide
  have e2 : IntKind.u8.max = 255 := by decide
  simp [Lit.wf] at ha hb hc
  obtain ⟨an, rfl⟩ : ∃ n : Nat, a = (n : Int) := ⟨a.toNat, by omega⟩
  obtain ⟨bn, rfl⟩ : ∃ n : Nat, b = (n : Int) := ⟨b.toNat, by omega⟩
  obtain ⟨cn, rfl⟩ : ∃ n : Nat, c = (n : Int) := ⟨c.toNat, by omega⟩
  obtain ⟨na, hna⟩ : ∃ n, an % 10 = n := ⟨_, rfl⟩
  obtain ⟨nb, hnb⟩ : ∃ n, bn % 10 = n := ⟨_, rfl⟩
  obtain ⟨nc, hnc⟩ : ∃ n, cn % 10 = n := ⟨_, rfl⟩
  have ra : (an : Int).tmod 10 = (na : Int) := by rw [← hna]; exact (Int.ofNat_tmod an 10).symm
  have rb : (bn : Int).tmod 10 = (nb : Int) := by rw [← hnb]; exact (Int.ofNat_tmod bn 10).symm
  have rc : (cn : Int).tmod 10 = (nc : Int) := by rw [← hnc]; exact (Int.ofNat_tmod cn 10).symm
  have la : na ≤ 9 := by omega
  have lb : nb ≤ 9 := by omega
  have lc : nc ≤ 9 := by omega
  have ha2 : an ≤ 255 := by omega
  have hb2 : bn ≤ 255 := by omega
  have hc2 : cn ≤ 255 := by omega
  have HT := Lib.hid hT
  clear hT ha hb hc e1 e2 hna hnb hnc
  have hkn := law25_known w HT.out
  go_enter Tryd.func4, Tryd.ntmps4
  go_wp2_with fail
  refine hkn.mono ?_
  rintro e w1 ⟨rfl, hb1⟩
  clear hkn
  have hS0 : OneS w w1.heap.size 0 0 0 0 (.slice none 0 0) (.slice none 0 0) (.slice none 0 0) (w1.alloc (.cells #[.slice none 0 0, .slice none 0 0, .slice none 0 0, .slice none 0 0, .int .i64 0] 30)) :=
    ⟨knew _ _, RowO.nil _ _, RowO.nil _ _, RowO.nil _ _, hb1.alloc hb1.size _, hb1.size⟩
  obtain ⟨RB, hRB⟩ : ∃ n, w1.heap.size = n := ⟨_, rfl⟩
  rw [hRB] at hS0
  have HS0 := Lib.hid hS0
  clear hS0 hb1
  go_wp2
  clear hRB
  go_loopw [10] (fun vi wr => ∃ (k : Nat) (x : Option Addr) (n d : Nat), vi = .int .i64 k ∧ k ≤ na ∧ Hid (OneS w RB k 0 0 0 (.slice x n d) (.slice none 0 0) (.slice none 0 0) wr)) (fun vi _ => na - (intOf vi).toNat)
  case atStart => exact ⟨0, none, 0, 0, by go_num, by omega, HS0⟩
  case round =>
    obtain ⟨k, x, n, d, rfl, hk, HS⟩ := hrel
    by_cases hlt : k < na
    · have hltz : (k : Int) < (na : Int) := by omega
      have hrb := HS.out.rb
      obtain ⟨css, o1, o2, rfl, hst⟩ := HS.out.stepE
      have c0 := kcell hrb 0 _ rfl
      obtain ⟨w2, hw2⟩ : ∃ w2, wr.alloc (.cells #[.string ⟨#[122]⟩, .int .i64 (k : Int), .int .i64 2] 32) = w2 := ⟨_, rfl⟩
      have hz2 : w2.heap.size = wr.heap.size + 1 := by rw [← hw2]; simp
      obtain ⟨w3, hw3⟩ : ∃ w3, w2.alloc (.cells #[.pointer (some ⟨wr.heap.size, 0, none⟩)] 33) = w3 := ⟨_, rfl⟩
      have hb2 : Below wr.heap.size wr w2 := by rw [← hw2]; exact (Below.refl _ wr).alloc (Nat.le_refl _) _
      have hb3 : Below wr.heap.size wr w3 := by rw [← hw3]; exact hb2.alloc hb2.size _
      have x1 : w3.heap[wr.heap.size]? = some (.cells #[strV [122], .int .i64 (k : Int), .int .i64 2] 32) := by
        rw [← hw3, alloc_get, if_neg (by omega), ← hw2]; exact knew _ _
      have x2 : w3.heap[wr.heap.size + 1]? = some (.cells #[.pointer (some ⟨wr.heap.size, 0, none⟩)] 33) := by rw [← hw3, ← hz2]; exact knew _ _
      have hsrc : SlK w3 (.slice (some ⟨wr.heap.size + 1, 0, none⟩) 1 1) [[.pointer (some ⟨wr.heap.size, 0, none⟩)]] := slK_blk (css := [[.pointer (some ⟨wr.heap.size, 0, none⟩)]]) x2
      have hst3 := fun w5 v' => hst w3 w5 v' wr.heap.size hb3 x1
      have c03 : w3.cell? ⟨RB, 0, none⟩ = some (.slice x k d) := (hb3.cell (p := ⟨RB, 0, none⟩) (kblock_lt hrb)).trans c0
      have HO := Lib.hid (OwnK.below o1 hb3); have HST := Lib.hid hst3; have HSRC := Lib.hid hsrc; have HO2 := Lib.hid o2; have HSZ := Lib.hid (show w.heap.size ≤ w3.heap.size from Nat.le_trans HS.out.below.size hb3.size)
      clear o1 hst3 hst hsrc hb2 hb3 x1 x2 hrb o2
      go_wp2_with (at_builtin; refine wpl_append_slk w3 rfl (.tmp 27) (.tmp 31) elem_flt (by decide) rfl w.heap.size _ css rfl HO.out (.slice (some ⟨wr.heap.size + 1, 0, none⟩) 1 1) [[.pointer (some ⟨wr.heap.size, 0, none⟩)]] rfl HSRC.out (by simp) (by simp [Value.oneCell']) HSZ.out (by have := HO2.out; unfold maxLen; simp; omega) (by have := HO2.out; simp; omega) ?_; intro v5 w5 ho5 hg5; obtain ⟨x5, d5, e5⟩ := OwnK.shape ho5; generalize List.length _ = n5 at e5; subst e5; obtain ⟨r5, hS5⟩ := HST.out w5 _ ho5 hg5; have c5 := kcell r5 0 _ rfl; have f5 := kfrozen r5 0; have HS5 := Lib.hid hS5; clear ho5 hg5 r5 hS5)
      go_roundw
      case measure => simp [intOf]; omega
      case rel => exact ⟨k + 1, _, _, _, by go_num, by omega, HS5⟩
    · obtain rfl : na = k := by omega
      have hne := HS.out.lenE
      subst hne
      have HSa := Lib.hid HS.out
      clear HS HS0 hlt hk
      go_wp2
      go_loopw [11] (fun vi wr => ∃ (k : Nat) (y : Option Addr) (m f : Nat), vi = .int .i64 k ∧ k ≤ nb ∧ Hid (OneS w RB n k 0 0 (.slice x n d) (.slice y m f) (.slice none 0 0) wr)) (fun vi _ => nb - (intOf vi).toNat)
      case atStart => exact ⟨0, none, 0, 0, by go_num, by omega, HSa⟩
      case round =>
        clear HSa
        rename World => wz
        obtain ⟨k, y, m, f, rfl, hk, HS⟩ := hrel
        by_cases hlt : k < nb
        · have hltz : (k : Int) < (nb : Int) := by omega
          have hm9 : (k : Int).tmod 9 = (k : Int) := Int.tmod_eq_of_lt (by omega) (by omega)
          have hrb := HS.out.rb
          obtain ⟨css, o1, o2, rfl, hst⟩ := HS.out.stepF
          have c0 := kcell hrb 1 _ rfl
          obtain ⟨w2, hw2⟩ : ∃ w2, wz.alloc (.cells #[.string ⟨#[97]⟩] 9) = w2 := ⟨_, rfl⟩
          have hz2 : w2.heap.size = wz.heap.size + 1 := by rw [← hw2]; simp
          obtain ⟨w3, hw3⟩ : ∃ w3, w2.alloc (.cells #[.int .i64 (1 + (k : Int)), .slice (some ⟨wz.heap.size, 0, none⟩) 1 1, .int .i64 (1 + (k : Int))] 41) = w3 := ⟨_, rfl⟩
          have hb2 : Below wz.heap.size wz w2 := by rw [← hw2]; exact (Below.refl _ wz).alloc (Nat.le_refl _) _
          have hb3 : Below wz.heap.size wz w3 := by rw [← hw3]; exact hb2.alloc hb2.size _
          have x1 : w3.heap[wz.heap.size]? = some (.cells #[strV [97]] 9) := by
            rw [← hw3, alloc_get, if_neg (by omega), ← hw2]; exact knew _ _
          have x2 : w3.heap[wz.heap.size + 1]? = some (.cells #[.int .i64 (1 + (k : Int)), .slice (some ⟨wz.heap.size, 0, none⟩) 1 1, .int .i64 (1 + (k : Int))] 41) := by rw [← hw3, ← hz2]; exact knew _ _
          have hsrc : SlK w3 (.slice (some ⟨wz.heap.size + 1, 0, none⟩) 1 1) [[.int .i64 (1 + (k : Int)), .slice (some ⟨wz.heap.size, 0, none⟩) 1 1, .int .i64 (1 + (k : Int))]] := slK_blk (css := [[.int .i64 (1 + (k : Int)), .slice (some ⟨wz.heap.size, 0, none⟩) 1 1, .int .i64 (1 + (k : Int))]]) x2
          have hst3 := fun w5 v' => hst w3 w5 v' wz.heap.size hb3 x1
          have HO := Lib.hid (OwnK.below o1 hb3); have HST := Lib.hid hst3; have HSRC := Lib.hid hsrc; have HO2 := Lib.hid o2; have HSZ := Lib.hid (show w.heap.size ≤ w3.heap.size from Nat.le_trans HS.out.below.size hb3.size)
          clear o1 hst3 hst hsrc hb2 hb3 x1 x2 hrb o2
          go_wp2_with (at_builtin; refine wpl_append_slk w3 rfl (.tmp 42) (.tmp 50) elem_fl (by decide) rfl w.heap.size _ css rfl HO.out (.slice (some ⟨wz.heap.size + 1, 0, none⟩) 1 1) [[.int .i64 (1 + (k : Int)), .slice (some ⟨wz.heap.size, 0, none⟩) 1 1, .int .i64 (1 + (k : Int))]] rfl HSRC.out (by simp) (by simp [Value.oneCell']) HSZ.out (by have := HO2.out; unfold maxLen; simp; omega) (by have := HO2.out; simp; omega) ?_; intro v5 w5 ho5 hg5; obtain ⟨x5, d5, e5⟩ := OwnK.shape ho5; generalize List.length _ = n5 at e5; subst e5; obtain ⟨r5, hS5⟩ := HST.out w5 _ ho5 hg5; have c5 := kcell r5 1 _ rfl; have f5 := kfrozen r5 1; have HS5 := Lib.hid hS5; clear ho5 hg5 r5 hS5)
          go_roundw
          case measure => simp [intOf]; omega
          case rel => exact ⟨k + 1, _, _, _, by go_num, by omega, HS5⟩
        · obtain rfl : nb = k := by omega
          have hne := HS.out.lenF
          subst hne
          have HSa := Lib.hid HS.out
          clear HS hlt hk
          go_wp2
          go_loopw [12] (fun vi wr => ∃ (k : Nat) (z : Option Addr) (q g : Nat), vi = .int .i64 k ∧ k ≤ nc ∧ Hid (OneS w RB n m k 0 (.slice x n d) (.slice y m f) (.slice z q g) wr)) (fun vi _ => nc - (intOf vi).toNat)
          case atStart => exact ⟨0, none, 0, 0, by go_num, by omega, HSa⟩
          case round =>
            clear HSa
            rename World => wy
            obtain ⟨k, z, q, g, rfl, hk, HS⟩ := hrel
            by_cases hlt : k < nc
            · have hltz : (k : Int) < (nc : Int) := by omega
              obtain ⟨k5, hk5⟩ : ∃ k5, k % 5 = k5 := ⟨_, rfl⟩
              have hm5 : (k : Int).tmod 5 = (k5 : Int) := by rw [← hk5]; exact (Int.ofNat_tmod k 5).symm
              have hk5b : k5 ≤ 4 := by omega
              have hrb := HS.out.rb
              obtain ⟨css, o1, o2, rfl, hst⟩ := HS.out.stepS
              rw [hk5] at hst
              have c0 := kcell hrb 3 _ rfl
              obtain ⟨w2, hw2⟩ : ∃ w2, wy.alloc (.cells #[.string ⟨#[98]⟩] 9) = w2 := ⟨_, rfl⟩
              have hz2 : w2.heap.size = wy.heap.size + 1 := by rw [← hw2]; simp
              obtain ⟨w4, hw4⟩ : ∃ w4, w2.alloc (.cells #[.int .i64 (k : Int)] 3) = w4 := ⟨_, rfl⟩
              have hz4 : w4.heap.size = wy.heap.size + 2 := by rw [← hw4]; simp [hz2]
              obtain ⟨w3, hw3⟩ : ∃ w3, w4.alloc (.cells #[.int .i64 (5 + (k5 : Int)), .slice (some ⟨wy.heap.size, 0, none⟩) 1 1, .int .i64 1, .slice (some ⟨wy.heap.size + 1, 0, none⟩) 1 1] 44) = w3 := ⟨_, rfl⟩
              have hb2 : Below wy.heap.size wy w2 := by rw [← hw2]; exact (Below.refl _ wy).alloc (Nat.le_refl _) _
              have hb4 : Below wy.heap.size wy w4 := by rw [← hw4]; exact hb2.alloc hb2.size _
              have hb3 : Below wy.heap.size wy w3 := by rw [← hw3]; exact hb4.alloc hb4.size _
              have x1 : w3.heap[wy.heap.size]? = some (.cells #[strV [98]] 9) := by
                rw [← hw3, alloc_get, if_neg (by omega), ← hw4, alloc_get, if_neg (by omega), ← hw2]; exact knew _ _
              have x3 : w3.heap[wy.heap.size + 1]? = some (.cells #[.int .i64 (k : Int)] 3) := by
                rw [← hw3, alloc_get, if_neg (by omega), ← hw4, ← hz2]; exact knew _ _
              have x2 : w3.heap[wy.heap.size + 2]? = some (.cells #[.int .i64 (5 + (k5 : Int)), .slice (some ⟨wy.heap.size, 0, none⟩) 1 1, .int .i64 1, .slice (some ⟨wy.heap.size + 1, 0, none⟩) 1 1] 44) := by rw [← hw3, ← hz4]; exact knew _ _
              have hsrc : SlK w3 (.slice (some ⟨wy.heap.size + 2, 0, none⟩) 1 1) [[.int .i64 (5 + (k5 : Int)), .slice (some ⟨wy.heap.size, 0, none⟩) 1 1, .int .i64 1, .slice (some ⟨wy.heap.size + 1, 0, none⟩) 1 1]] := slK_blk (css := [[.int .i64 (5 + (k5 : Int)), .slice (some ⟨wy.heap.size, 0, none⟩) 1 1, .int .i64 1, .slice (some ⟨wy.heap.size + 1, 0, none⟩) 1 1]]) x2
              have hst3 := fun w5 v' => hst w3 w5 v' wy.heap.size (wy.heap.size + 1) hb3 x1 x3
              have HO := Lib.hid (OwnK.below o1 hb3); have HST := Lib.hid hst3; have HSRC := Lib.hid hsrc; have HO2 := Lib.hid o2; have HSZ := Lib.hid (show w.heap.size ≤ w3.heap.size from Nat.le_trans HS.out.below.size hb3.size)
              clear o1 hst3 hst hsrc hb2 hb3 hb4 x1 x2 x3 hrb o2 hk5
              go_wp2_with (at_builtin; refine wpl_append_slk w3 rfl (.tmp 61) (.tmp 69) elem_sn (by decide) rfl w.heap.size _ css rfl HO.out (.slice (some ⟨wy.heap.size + 2, 0, none⟩) 1 1) [[.int .i64 (5 + (k5 : Int)), .slice (some ⟨wy.heap.size, 0, none⟩) 1 1, .int .i64 1, .slice (some ⟨wy.heap.size + 1, 0, none⟩) 1 1]] rfl HSRC.out (by simp) (by simp [Value.oneCell']) HSZ.out (by have := HO2.out; unfold maxLen; simp; omega) (by have := HO2.out; simp; omega) ?_; intro v5 w5 ho5 hg5; obtain ⟨x5, d5, e5⟩ := OwnK.shape ho5; generalize List.length _ = n5 at e5; subst e5; obtain ⟨r5, hS5⟩ := HST.out w5 _ ho5 hg5; have c5 := kcell r5 3 _ rfl; have f5 := kfrozen r5 3; have HS5 := Lib.hid hS5; clear ho5 hg5 r5 hS5)
              go_roundw
              case measure => simp [intOf]; omega
              case rel => exact ⟨k + 1, _, _, _, by go_num, by omega, HS5⟩
            · obtain rfl : nc = k := by omega
              have hne := HS.out.lenS
              subst hne
              have HSa := Lib.hid HS.out
              clear HS hlt hk
              cases s
              · skip
                have HSb := HSa
                have hrb := HSb.out.rb
                have d0 := kcell hrb 0 _ rfl; have d1 := kcell hrb 1 _ rfl; have d2 := kcell hrb 2 _ rfl; have d3 := kcell hrb 3 _ rfl; have d4 := kcell hrb 4 _ rfl
                have hL := text_Lines _ _ _ _ (oneR n m q 0) wy HSb.out.rp (oneR_ok la lb lc (by omega)) (HT.out.below HSb.out.below) 0 rfl
                clear hrb HSa
                go_wp2_with fail
                refine hL.mono ?_
                rintro e w9 ⟨v9, rfl, ho9, hb9⟩
                obtain ⟨al, cl, rfl, hcl⟩ := word_at (StrsAt.of_own ho9) (oneR_len n m q false)
                have HCL := Lib.hid hcl
                have rb9 := (hb9.block RB (kblock_lt HSb.out.rb)).trans HSb.out.rb
                have g0 := kcell rb9 0 _ rfl; have g1 := kcell rb9 1 _ rfl; have g3 := kcell rb9 3 _ rfl
                have HB9 := Lib.hid (HSb.out.below.trans (hb9.mono HSb.out.below.size))
                obtain ⟨N, hN⟩ : ∃ N, lenO n m q false = N := ⟨_, rfl⟩
                have hN2 : n + m + q = N := hN
                have HNL := Lib.hid ((oneR_len n m q false).trans hN)
                rw [hN]
                have hN3 : (n : Int) + (m : Int) + (q : Int) = (N : Int) := by omega
                have hnn : ((N : Int) != (N : Int)) = false := by simp
                clear hcl ho9 hb9 rb9 d0 d1 d2 d3 d4 hL hN HSb
                go_wp2
                go_loopw [15] (fun vi w8 => ∃ (i : Nat), vi = .int .i64 i ∧ i ≤ N ∧ w9 = w8) (fun vi _ => N - (intOf vi).toNat)
                case atStart => exact ⟨0, by go_num, by omega, rfl⟩
                case round =>
                  obtain ⟨i, rfl, hi, rfl⟩ := hrel
                  by_cases hlt : i < N
                  · have hltz : (i : Int) < (N : Int) := by omega
                    have hiz : (0 : Int) ≤ (i : Int) := by omega
                    have hil : i < (linesM (oneR n m q (errO false))).length := by rw [HNL.out]; exact hlt
                    obtain ⟨gl, ol, rfl, hc⟩ := HCL.out i hil
                    obtain ⟨rest, hr⟩ := oneR_word n m q false i hil
                    obtain ⟨wd, hwd⟩ : ∃ wd, wordO n m q false i = wd := ⟨_, rfl⟩
                    have h5l := wordO_len n m q false i
                    rw [hwd] at hr h5l
                    obtain ⟨sl, hsl, hex, h5⟩ := word5 _ _ rest hr h5l
                    replace hc := hc.trans (congrArg some hsl)
                    have h5' : ¬ ((sl.size : Int) < 5) := by omega
                    unfold wordO at hwd
                    clear hil hr hsl h5l
                    rw [if_neg (fun h => by cases h.1)] at hwd
                    by_cases h1 : n + m ≤ i
                    · rw [if_pos h1] at hwd
                      have hz1 : (n : Int) + (m : Int) ≤ (i : Int) := by omega
                      subst hwd
                      go_wp2
                      go_roundw
                      case measure => simp [intOf]; omega
                      case rel => exact ⟨i + 1, by go_num, by omega, trivial⟩
                    rw [if_neg h1] at hwd
                    have hz1 : ¬ ((n : Int) + (m : Int) ≤ (i : Int)) := by omega
                    have hz1' : (i : Int) < (n : Int) + (m : Int) := by omega
                    by_cases h2 : n ≤ i
                    · rw [if_pos h2] at hwd
                      have hz2 : (n : Int) ≤ (i : Int) := by omega
                      subst hwd
                      go_wp2
                      go_roundw
                      case measure => simp [intOf]; omega
                      case rel => exact ⟨i + 1, by go_num, by omega, trivial⟩
                    rw [if_neg h2] at hwd
                    have hz2 : ¬ ((n : Int) ≤ (i : Int)) := by omega
                    have hz2' : (i : Int) < (n : Int) := by omega
                    subst hwd
                    go_wp2
                    go_roundw
                    case measure => simp [intOf]; omega
                    case rel => exact ⟨i + 1, by go_num, by omega, trivial⟩
                  · obtain rfl : N = i := by omega
                    go_wp2
                    go_ret
                    exact ⟨rfl, HB9.out⟩
              · skip
                have c4 := kcell HSa.out.rb 4 _ rfl
                have f4 := kfrozen HSa.out.rb 4
                obtain ⟨wx, hwx⟩ : ∃ wx, wy.setCell ⟨RB, 4, none⟩ (.int .i64 11) = wx := ⟨_, rfl⟩
                have HSb : Hid (OneS w RB n m q 11 (.slice x n d) (.slice y m f) (.slice z q g) wx) := Lib.hid (by rw [← hwx]; exact HSa.out.setE 11)
                have hrb := HSb.out.rb
                have d0 := kcell hrb 0 _ rfl; have d1 := kcell hrb 1 _ rfl; have d2 := kcell hrb 2 _ rfl; have d3 := kcell hrb 3 _ rfl; have d4 := kcell hrb 4 _ rfl
                have hL := text_Lines _ _ _ _ (oneR n m q 11) wx HSb.out.rp (oneR_ok la lb lc (by omega)) (HT.out.below HSb.out.below) 11 rfl
                clear hrb HSa
                go_wp2_with fail
                refine hL.mono ?_
                rintro e w9 ⟨v9, rfl, ho9, hb9⟩
                obtain ⟨al, cl, rfl, hcl⟩ := word_at (StrsAt.of_own ho9) (oneR_len n m q true)
                have HCL := Lib.hid hcl
                have rb9 := (hb9.block RB (kblock_lt HSb.out.rb)).trans HSb.out.rb
                have g0 := kcell rb9 0 _ rfl; have g1 := kcell rb9 1 _ rfl; have g3 := kcell rb9 3 _ rfl
                have HB9 := Lib.hid (HSb.out.below.trans (hb9.mono HSb.out.below.size))
                obtain ⟨N, hN⟩ : ∃ N, lenO n m q true = N := ⟨_, rfl⟩
                have hN2 : n + m + q + 1 = N := hN
                have HNL := Lib.hid ((oneR_len n m q true).trans hN)
                rw [hN]
                have hN3 : (n : Int) + (m : Int) + (q : Int) + 1 = (N : Int) := by omega
                have hnn : ((N : Int) != (N : Int)) = false := by simp
                clear hcl ho9 hb9 rb9 d0 d1 d2 d3 d4 hL hN HSb hwx c4 f4
                go_wp2
                go_loopw [15] (fun vi w8 => ∃ (i : Nat), vi = .int .i64 i ∧ i ≤ N ∧ w9 = w8) (fun vi _ => N - (intOf vi).toNat)
                case atStart => exact ⟨0, by go_num, by omega, rfl⟩
                case round =>
                  obtain ⟨i, rfl, hi, rfl⟩ := hrel
                  by_cases hlt : i < N
                  · have hltz : (i : Int) < (N : Int) := by omega
                    have hiz : (0 : Int) ≤ (i : Int) := by omega
                    have hil : i < (linesM (oneR n m q (errO true))).length := by rw [HNL.out]; exact hlt
                    obtain ⟨gl, ol, rfl, hc⟩ := HCL.out i hil
                    obtain ⟨rest, hr⟩ := oneR_word n m q true i hil
                    obtain ⟨wd, hwd⟩ : ∃ wd, wordO n m q true i = wd := ⟨_, rfl⟩
                    have h5l := wordO_len n m q true i
                    rw [hwd] at hr h5l
                    obtain ⟨sl, hsl, hex, h5⟩ := word5 _ _ rest hr h5l
                    replace hc := hc.trans (congrArg some hsl)
                    have h5' : ¬ ((sl.size : Int) < 5) := by omega
                    unfold wordO at hwd
                    clear hil hr hsl h5l
                    by_cases h0 : i = n + m + q
                    · rw [if_pos ⟨rfl, h0⟩] at hwd
                      have hq : ((i : Int) == (N : Int) - 1) = true := by simp; omega
                      clear h0
                      subst hwd
                      go_wp2
                      go_roundw
                      case measure => simp [intOf]; omega
                      case rel => exact ⟨i + 1, by go_num, by omega, trivial⟩
                    rw [if_neg (fun h => h0 h.2)] at hwd
                    have hq : ((i : Int) == (N : Int) - 1) = false := by simp; omega
                    have hq2 : ¬ ((i : Int) = (N : Int) - 1) := by omega
                    by_cases h1 : n + m ≤ i
                    · rw [if_pos h1] at hwd
                      have hz1 : (n : Int) + (m : Int) ≤ (i : Int) := by omega
                      subst hwd
                      go_wp2
                      go_roundw
                      case measure => simp [intOf]; omega
                      case rel => exact ⟨i + 1, by go_num, by omega, trivial⟩
                    rw [if_neg h1] at hwd
                    have hz1 : ¬ ((n : Int) + (m : Int) ≤ (i : Int)) := by omega
                    have hz1' : (i : Int) < (n : Int) + (m : Int) := by omega
                    by_cases h2 : n ≤ i
                    · rw [if_pos h2] at hwd
                      have hz2 : (n : Int) ≤ (i : Int) := by omega
                      subst hwd
                      go_wp2
                      go_roundw
                      case measure => simp [intOf]; omega
                      case rel => exact ⟨i + 1, by go_num, by omega, trivial⟩
                    rw [if_neg h2] at hwd
                    have hz2 : ¬ ((n : Int) ≤ (i : Int)) := by omega
                    have hz2' : (i : Int) < (n : Int) := by omega
                    subst hwd
                    go_wp2
                    go_roundw
                    case measure => simp [intOf]; omega
                    case rel => exact ⟨i + 1, by go_num, by omega, trivial⟩
                  · obtain rfl : N = i := by omega
                    go_wp2
                    go_ret
                    exact ⟨rfl, HB9.out⟩
end
end Go.Proofs.YtbnkecmhmcligaaDoor
