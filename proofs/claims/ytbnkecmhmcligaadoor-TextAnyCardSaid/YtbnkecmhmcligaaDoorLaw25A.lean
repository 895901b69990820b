/-
  TextAny.
-/
import Derived.Test.YtbnkecmhmcligaaDoorRepO
import Derived.Test.YtbnkecmhmcligaaDoorRepF
import Derived.Test.YtbnkecmhmcligaaDoorRepL
import Derived.Deep.RegionHeld3
namespace Go.Proofs.YtbnkecmhmcligaaDoor
open Go.RowKit Go.Shelf
set_option maxRecDepth 20000
set_option linter.unusedVariables false
set_option linter.unusedSimpArgs false
theorem aEB (W W' : World) (cs : List Value) (x : Ft) (h : EB W cs x) (k : KeepO W W') : EB W' cs x := h.keep k
theorem elem_fltA : ElemK 1 33 28 8 := ⟨Tryd.underlying28, _, _, rfl, rfl, rfl, rfl, rfl⟩
/-- What the law has made so far: the report's block, the faults' pointers. -/
structure AnyS (w : World) (RB : Nat) (l : List Ft) (er : Int) (ve vf vd vs : Value) (W : World) : Prop where
  rb : W.heap[RB]? = some (.cells #[ve, vf, vd, vs, .int .i64 er] 30)
  e : RowO 1 33 EB w.heap.size W ve l
  below : Below w.heap.size w W
  lt : w.heap.size ≤ RB
theorem AnyS.step {w : World} {RB : Nat} {l : List Ft} {f : Ft} {er : Int} {x : Option Addr} {n d : Nat} {vf vd vs : Value} {wr : World} (h : AnyS w RB l er (.slice x n d) vf vd vs wr) :
    ∃ css, OwnC 1 33 wr w.heap.size (.slice x n d) css ∧ css.length = l.length ∧ n = l.length ∧ ∀ (W3 w5 : World) (v' : Value) (B1 : Nat), Below wr.heap.size wr W3 → W3.heap[B1]? = some (.cells #[strV f.path, .int .i64 f.line, .int .i64 f.err] 32) → OwnC 1 33 w5 w.heap.size v' (css ++ [[.pointer (some ⟨B1, 0, none⟩)]]) → W3.grownBy w5 (Value.slice x n d).ownBlock →
      w5.heap[RB]? = some (.cells #[.slice x n d, vf, vd, vs, .int .i64 er] 30) ∧ AnyS w RB (l ++ [f]) er v' vf vd vs (w5.setCell ⟨RB, 0, none⟩ v') := by
  obtain ⟨hrb, ⟨css, o1, o2, o3, o4⟩, hbw, hle⟩ := h
  obtain ⟨_, _, e⟩ := OwnK.shape o1
  injection e with _ e _
  refine ⟨css, o1, o2, by omega, fun W3 w5 v' B1 hb hB ho hg => ?_⟩
  have o1' := OwnK.below o1 hb
  have r3 := (hb.block RB (kblock_lt hrb)).trans hrb
  have r5 : w5.heap[RB]? = some (.cells #[.slice x n d, vf, vd, vs, .int .i64 er] 30) := (hg.block RB (kblock_lt r3) (OwnK.ne_block o1' r3 (by decide))).trans r3
  refine ⟨r5, ?_⟩
  have bad : BadT 30 := .inl rfl
  refine ⟨by have := kset r5 0 v'; simpa using this, ?_, ?_, hle⟩
  · exact RowO.set aEB (RowO.snoc aEB o1' o2 o3 (fun j a b => (o4 j a b).keep (KeepO.of_below hb)) (cs := [.pointer (some ⟨B1, 0, none⟩)]) (x := f) rfl ⟨B1, rfl, hB⟩ (.inr (.inl rfl)) ho hg) r5 (by decide) bad 0 v'
  · exact (((hbw.trans (hb.mono hbw.size)).grown hg (Nat.le_trans hbw.size hb.size) (OwnK.base_le o1')).setCell (p := ⟨RB, 0, none⟩) hle v')
def flat10 (xs : List (List UInt8)) : List UInt8 := xs.flatMap fun s => s ++ [10]
theorem flat10_len : ∀ xs : List (List UInt8), (∀ x ∈ xs, x.length ≤ 10000000) → (flat10 xs).length ≤ xs.length * 10000001
  | [], _ => by simp [flat10]
  | x :: r, h => by
    have := flat10_len r (fun y hy => h y (by simp [hy]))
    have h1 := h x (by simp)
    unfold flat10 at *
    simp only [List.flatMap_cons, List.length_append, List.length_cons, List.length_nil] at *
    rw [Nat.succ_mul]; omega
theorem flat10_succ {xs : List (List UInt8)} {k : Nat} (h : k < xs.length) : flat10 (xs.take (k + 1)) = flat10 (xs.take k) ++ xs[k] ++ [10] := by
  unfold flat10; rw [List.take_succ_eq_append_getElem h, List.flatMap_append]; simp
theorem linesM_each (r : Rp) (hk : RpOK r) : ∀ x ∈ linesM r, x.length ≤ 10000000 := by
  intro x hx
  unfold linesM at hx
  simp only [List.mem_append, List.mem_map] at hx
  rcases hx with (((⟨f, hf, rfl⟩ | ⟨f, hf, rfl⟩) | ⟨f, hf, rfl⟩) | ⟨f, hf, rfl⟩) | hx
  · exact eRow_len (hk.errs f hf)
  · exact fRow_len (hk.flaws f hf)
  · exact dRow_len (hk.edges f hf)
  · exact sRow_len (hk.seen f hf)
  · unfold lastW at hx
    split at hx
    · cases hx
    · rw [List.mem_singleton.1 hx]; unfold stopW; have := wR_len r.err.toNat; simp only [List.length_append, List.length_cons, List.length_nil]; omega
theorem strs_in {W : World} {v : Value} {xs : Nm} (h : StrsAt W v xs) {n : Nat} (hn : xs.length = n) : ∃ a c, v = .slice a n c ∧ ∀ W', Below W.heap.size W W' → ∀ i (hi : i < xs.length), ∃ g off, a = some ⟨g, off, none⟩ ∧ W'.cell? ⟨g, off + i, none⟩ = some (strV xs[i]) := by
  obtain ⟨a, c, rfl, hx⟩ := h
  refine ⟨a, c, by rw [hn], fun W' hb i hi => ?_⟩
  rcases hx with hx | ⟨b, off, rfl, hbl, hc⟩
  · subst hx; simp at hi
  · exact ⟨b, off, rfl, (hb.cell (p := ⟨b, off + i, none⟩) hbl).trans (hc i hi)⟩
section
set_option maxRecDepth 100000 in
set_option maxHeartbeats 64000000 in
theorem law25_Any (ve vf vd vs : Value) (le : List Ft) (lf : List Fw) (ld : List Ed) (ls : List Sn) (er : Int) (w : World) (hE : RowsAt FvAt w ve le) (hF : RowsAt FwAt w vf lf) (hD : RowsAt EdAt w vd ld) (hS : RowsAt SnAt w vs ls) (hM : RpMax ⟨[], lf, ld, ls, er⟩) (hT : Tab w) :
    Calls Tryd.prog 3 #[ve, vf, vd, vs, .int .i64 er] w fun e w' => e = .returned (.bool true) ∧ Below w.heap.size w w' := by
  obtain ⟨ae, ce, rfl, -⟩ := hE.shape
  obtain ⟨ne, hne⟩ : ∃ n, le.length = n := ⟨_, rfl⟩
  obtain ⟨af, cf, rfl, -⟩ := hF.shape
  obtain ⟨ad, cd, rfl, -⟩ := hD.shape
  obtain ⟨asx, csx, rfl, -⟩ := hS.shape
  rw [hne] at hE ⊢
  have HE := Lib.hid hE; have HN := Lib.hid hne; have HT := Lib.hid hT
  have HRR := Lib.hid (And.intro hF (And.intro hD hS)); have HMX := Lib.hid hM
  generalize lf.length = nf at *
  generalize ld.length = nd at *
  generalize ls.length = ns at *
  have hkn := law25_known w HT.out
  clear hE hF hD hS hM hT hne
  go_enter Tryd.func3, Tryd.ntmps3
  go_wp2_with fail
  refine hkn.mono ?_
  rintro e w1 ⟨rfl, hb1⟩
  clear hkn
  have hS0 : AnyS w w1.heap.size [] er (.slice none 0 0) (.slice af nf cf) (.slice ad nd cd) (.slice asx ns csx) (w1.alloc (.cells #[.slice none 0 0, .slice af nf cf, .slice ad nd cd, .slice asx ns csx, .int .i64 er] 30)) :=
    ⟨knew _ _, RowO.nil _ _, hb1.alloc hb1.size _, hb1.size⟩
  obtain ⟨RB, hRB⟩ : ∃ n, w1.heap.size = n := ⟨_, rfl⟩
  rw [hRB] at hS0
  have HS0 := Lib.hid hS0
  clear hS0 hb1
  go_wp2
  clear hRB
  go_loopw [12] (fun vi wr => ∃ (k : Nat) (x : Option Addr) (n d : Nat), vi = .int .i64 k ∧ k ≤ ne ∧ k ≤ 20 ∧ Hid (AnyS w RB (le.take k) er (.slice x n d) (.slice af nf cf) (.slice ad nd cd) (.slice asx ns csx) wr)) (fun vi _ => ne - (intOf vi).toNat)
  case atStart => exact ⟨0, none, 0, 0, by go_num, by omega, by omega, HS0⟩
  case round =>
    obtain ⟨k, x, n, d, rfl, hk, hk20, HS⟩ := hrel
    by_cases hgo : k < ne ∧ k < 20
    · obtain ⟨hlt, hlt20⟩ := hgo
      have hltz : (k : Int) < (ne : Int) := by omega
      have hlt20z : (k : Int) < 20 := by omega
      have hkz : (0 : Int) ≤ (k : Int) := by omega
      have hkl : k < le.length := by rw [HN.out]; exact hlt
      obtain ⟨g, off, cs, rfl, hg, hat, hck, hcl⟩ := HE.out.get FvAt.len hkl
      have HTK := Lib.hid (show le.take (k + 1) = le.take k ++ [le[k]] from List.take_succ_eq_append_getElem hkl)
      unfold FvAt at hat
      subst hat
      have hbw := HS.out.below
      have c0 := (hbw.cell (p := ⟨g, off + k * 3 + 0, none⟩) hg).trans (hcl 0 _ rfl)
      have c1 := (hbw.cell (p := ⟨g, off + k * 3 + 1, none⟩) hg).trans (hcl 1 _ rfl)
      have c2 := (hbw.cell (p := ⟨g, off + k * 3 + 2, none⟩) hg).trans (hcl 2 _ rfl)
      simp only [Nat.add_zero] at c0
      have hrb := HS.out.rb
      obtain ⟨css, o1, o2, o3, hst⟩ := HS.out.step (f := le[k])
      have hnk : n = k := by rw [o3, List.length_take]; omega
      subst hnk
      have hlk : (le.take n).length = n := by rw [List.length_take]; omega
      rw [hlk] at o2
      generalize le[n] = f at *
      obtain ⟨sf, hsf⟩ : ∃ s, strV f.path = .string s := ⟨_, rfl⟩
      rw [hsf] at c0 hst
      generalize f.line = ln at *
      generalize f.err = ee at *
      have r0 := kcell hrb 0 _ rfl
      obtain ⟨w2, hw2⟩ : ∃ w2, wr.alloc (.cells #[.string sf, .int .i64 ln, .int .i64 ee] 32) = w2 := ⟨_, rfl⟩
      have hz2 : w2.heap.size = wr.heap.size + 1 := by rw [← hw2]; simp
      obtain ⟨w3, hw3⟩ : ∃ w3, w2.alloc (.cells #[.pointer (some ⟨wr.heap.size, 0, none⟩)] 33) = w3 := ⟨_, rfl⟩
      have hb2 : Below wr.heap.size wr w2 := by rw [← hw2]; exact (Below.refl _ wr).alloc (Nat.le_refl _) _
      have hb3 : Below wr.heap.size wr w3 := by rw [← hw3]; exact hb2.alloc hb2.size _
      have x1 : w3.heap[wr.heap.size]? = some (.cells #[.string sf, .int .i64 ln, .int .i64 ee] 32) := by
        rw [← hw3, alloc_get, if_neg (by omega), ← hw2]; exact knew _ _
      have x2 : w3.heap[wr.heap.size + 1]? = some (.cells #[.pointer (some ⟨wr.heap.size, 0, none⟩)] 33) := by rw [← hw3, ← hz2]; exact knew _ _
      have hsrc : SlK w3 (.slice (some ⟨wr.heap.size + 1, 0, none⟩) 1 1) [[.pointer (some ⟨wr.heap.size, 0, none⟩)]] := slK_blk (css := [[.pointer (some ⟨wr.heap.size, 0, none⟩)]]) x2
      have r02 : w2.cell? ⟨RB, 0, none⟩ = some (.slice x n d) := (hb2.cell (p := ⟨RB, 0, none⟩) (kblock_lt hrb)).trans r0
      have hst3 := fun w5 v' => hst w3 w5 v' wr.heap.size hb3 x1
      have HO := Lib.hid (OwnK.below o1 hb3); have HST := Lib.hid hst3; have HSRC := Lib.hid hsrc; have HO2 := Lib.hid o2; have HSZ := Lib.hid (show w.heap.size ≤ w3.heap.size from Nat.le_trans HS.out.below.size hb3.size)
      clear o1 hst3 hst hsrc hb2 hb3 x1 x2 hrb o2 hcl hck hg hbw hsf hlk o3 hkl
      go_wp2_with (at_builtin; refine wpl_append_slk w3 rfl (.tmp 40) (.tmp 41) elem_fltA (by decide) rfl w.heap.size _ css rfl HO.out (.slice (some ⟨wr.heap.size + 1, 0, none⟩) 1 1) [[.pointer (some ⟨wr.heap.size, 0, none⟩)]] rfl HSRC.out (by simp) (by simp [Value.oneCell']) HSZ.out (by have := HO2.out; unfold maxLen; simp; omega) (by have := HO2.out; simp; omega) ?_; intro v5 w5 ho5 hg5; obtain ⟨x5, d5, e5⟩ := OwnK.shape ho5; generalize List.length _ = n5 at e5; subst e5; obtain ⟨r5, hS5⟩ := HST.out w5 _ ho5 hg5; have c5 := kcell r5 0 _ rfl; have f5 := kfrozen r5 0; have HS5 := Lib.hid hS5; clear ho5 hg5 r5 hS5)
      go_roundw
      case measure => simp [intOf]; omega
      case rel => exact ⟨n + 1, _, _, _, by go_num, by omega, by omega, by rw [HTK.out]; exact HS5⟩
    · have hgo2 : (ne : Int) ≤ (k : Int) ∨ ((k : Int) < (ne : Int) ∧ (20 : Int) ≤ (k : Int)) := by omega
      have hS := HS.out
      have hrp : RpAt wr (.slice x n d) (.slice af nf cf) (.slice ad nd cd) (.slice asx ns csx) ⟨le.take k, lf, ld, ls, er⟩ := ⟨hS.e.rows (fun _ _ => EB.at), RowsAt.below (At := FwAt) (fun _ _ _ _ h1 h2 => FwAt.below h1 h2) HRR.out.1 hS.below, RowsAt.below (At := EdAt) (fun _ _ _ _ h1 h2 => EdAt.below h1 h2) HRR.out.2.1 hS.below, RowsAt.below (At := SnAt) (fun _ _ _ _ h1 h2 => SnAt.below h1 h2) HRR.out.2.2 hS.below⟩
      have HRP := Lib.hid hrp
      obtain ⟨r, hr⟩ : ∃ r : Rp, (⟨le.take k, lf, ld, ls, er⟩ : Rp) = r := ⟨_, rfl⟩
      have hmx : RpMax r := by rw [← hr]; exact ⟨HMX.out.flaws, HMX.out.edges, HMX.out.seen⟩
      have her : r.err = er := by rw [← hr]
      rw [hr] at HRP
      have hfew := law25_few _ _ _ _ r wr HRP.out hmx er her
      have HBW := Lib.hid hS.below; have HRB := Lib.hid hS.rb; have HER := Lib.hid her
      have r0 := kcell hS.rb 0 _ rfl; have r1 := kcell hS.rb 1 _ rfl; have r2 := kcell hS.rb 2 _ rfl; have r3 := kcell hS.rb 3 _ rfl; have r4 := kcell hS.rb 4 _ rfl
      clear hS hrp hr hmx her HS HS0 hgo
      rcases hgo2 with hgo2 | ⟨hgo1, hgo2⟩
      all_goals
        go_wp2_with fail
        refine hfew.mono ?_
        rintro e w2 ⟨b, rfl, hok, hb2⟩
        have HB2 := Lib.hid hb2; have HOK := Lib.hid hok
        clear hfew hb2 hok
        cases b
        · go_wp2
          go_ret
          exact ⟨rfl, HBW.out.trans (HB2.out.mono HBW.out.size)⟩
        · clear r0 r1 r2 r3 r4
          have HF := Lib.hid (HOK.out rfl)
          have HBW2 := Lib.hid (HBW.out.trans (HB2.out.mono HBW.out.size))
          have HRP2 := Lib.hid (HRP.out.below HB2.out)
          have HRB2 := Lib.hid ((HB2.out.block RB (kblock_lt HRB.out)).trans HRB.out)
          clear HRP HRB HB2 HBW HOK
          have r0 := kcell HRB2.out 0 _ rfl; have r1 := kcell HRB2.out 1 _ rfl; have r2 := kcell HRB2.out 2 _ rfl; have r3 := kcell HRB2.out 3 _ rfl; have r4 := kcell HRB2.out 4 _ rfl
          have hL := text_Lines _ _ _ _ r w2 HRP2.out HF.out.ok (HT.out.below HBW2.out) er HER.out
          obtain ⟨N, hN⟩ : ∃ N, (linesM r).length = N := ⟨_, rfl⟩
          have hN4 : N ≤ 4001 := by have := linesM_few r HF.out.ok; omega
          have HNN := Lib.hid hN
          clear hN
          go_wp2_with fail
          refine hL.mono ?_
          rintro e w3 ⟨v3, rfl, ho3, hb3⟩
          obtain ⟨al, cl, rfl, hcl⟩ := strs_in (StrsAt.of_own ho3) HNN.out
          have HCL := Lib.hid hcl
          have HBW3 := Lib.hid (HBW2.out.trans (hb3.mono HBW2.out.size))
          have HRP3 := Lib.hid (HRP2.out.below hb3)
          have HRB3 := Lib.hid ((hb3.block RB (kblock_lt HRB2.out)).trans HRB2.out)
          clear r0 r1 r2 r3 r4 hL ho3 hcl hb3 HRP2 HRB2
          have r0 := kcell HRB3.out 0 _ rfl; have r1 := kcell HRB3.out 1 _ rfl; have r2 := kcell HRB3.out 2 _ rfl; have r3 := kcell HRB3.out 3 _ rfl; have r4 := kcell HRB3.out 4 _ rfl
          have hM := law25_lines _ _ _ _ r w3 HRP3.out HF.out er HER.out
          go_wp2_with fail
          refine hM.mono ?_
          rintro e w4 ⟨v4, rfl, hs4, hb4⟩
          obtain ⟨am, cm, rfl, hcm⟩ := strs_in hs4 HNN.out
          have HCM := Lib.hid hcm
          have HCL4 := Lib.hid (fun W' (h : Below w4.heap.size w4 W') => HCL.out W' (hb4.trans (h.mono hb4.size)))
          have HBW4 := Lib.hid (HBW3.out.trans (hb4.mono HBW3.out.size))
          have HRP4 := Lib.hid (HRP3.out.below hb4)
          have HRB4 := Lib.hid ((hb4.block RB (kblock_lt HRB3.out)).trans HRB3.out)
          have hnn : ((N : Int) != (N : Int)) = false := by simp
          clear r0 r1 r2 r3 r4 hM hs4 hcm hb4 HRP3 HRB3 HCL HBW3 HBW2
          go_wp2
          go_loopw [16, 17] (fun vt vi w9 => ∃ (i : Nat), vi = .int .i64 i ∧ i ≤ N ∧ vt = .string ⟨(flat10 ((linesM r).take i)).toArray⟩ ∧ Hid (Below w4.heap.size w4 w9)) (fun _ vi _ => N - (intOf vi).toNat)
          case atStart => exact ⟨0, rfl, Nat.zero_le _, rfl, Lib.hid (Below.refl _ _)⟩
          case round =>
            rename World => w9
            obtain ⟨i, rfl, hi, rfl, HB⟩ := hrel
            by_cases hlt : i < N
            · have hltz : (i : Int) < (N : Int) := by omega
              have hiz : (0 : Int) ≤ (i : Int) := by omega
              have hil : i < (linesM r).length := by rw [HNN.out]; exact hlt
              obtain ⟨gl, ol, rfl, hc1⟩ := HCL4.out w9 HB.out i hil
              obtain ⟨gm, om, rfl, hc2⟩ := HCM.out w9 HB.out i hil
              have hfl := flat10_len ((linesM r).take i) (fun x hx => linesM_each r HF.out.ok x (List.mem_of_mem_take hx))
              have hxl := linesM_each r HF.out.ok _ (List.getElem_mem hil)
              have hsu := flat10_succ hil
              have htl : ((linesM r).take i).length ≤ 4001 := by rw [List.length_take]; omega
              have hfl2 := Nat.le_trans hfl (Nat.mul_le_mul_right 10000001 htl)
              generalize (linesM r)[i] = x at *
              generalize flat10 ((linesM r).take i) = fl at *
              have A0 := add_rep fl x (fl ++ x) rfl (by rw [List.length_append]; omega)
              have A1 := add_rep (fl ++ x) [10] (fl ++ x ++ [10]) rfl (by simp only [List.length_append, List.length_cons, List.length_nil]; omega)
              have hsu2 : (⟨(flat10 ((linesM r).take (i + 1))).toArray⟩ : ByteArray) = ⟨(fl ++ x ++ [10]).toArray⟩ := by rw [hsu]
              obtain ⟨sx, hsx⟩ : ∃ s, strV x = .string s := ⟨_, rfl⟩
              rw [hsx] at hc1 hc2
              have hsx2 : (⟨x.toArray⟩ : ByteArray) = sx := by unfold strV at hsx; injection hsx
              rw [hsx2] at A0
              generalize (⟨(fl ++ x ++ [10]).toArray⟩ : ByteArray) = z2 at *
              generalize (⟨(fl ++ x).toArray⟩ : ByteArray) = z1 at *
              generalize (⟨fl.toArray⟩ : ByteArray) = z0 at *
              have B1 : ∀ W, (Op.stringOp .add z1 (⟨#[10]⟩ : ByteArray)).run Tryd.prog W = .ok (.string z2) W := A1
              have HS0 : w9.cell? ⟨gl, ol + i, none⟩ = some (.string sx) ∧ w9.cell? ⟨gm, om + i, none⟩ = some (.string sx) ∧ Below w9.heap.size w9 w9 := ⟨hc1, hc2, Below.refl _ _⟩
              have KD := Lib.hid (fun (W : World) (h : W.cell? ⟨gl, ol + i, none⟩ = some (.string sx) ∧ W.cell? ⟨gm, om + i, none⟩ = some (.string sx) ∧ Below w9.heap.size w9 W) => (⟨h.1, h.2.1, h.2.2.trans ((below_drewL W).mono h.2.2.size)⟩ : W.drew.cell? ⟨gl, ol + i, none⟩ = some (.string sx) ∧ W.drew.cell? ⟨gm, om + i, none⟩ = some (.string sx) ∧ Below w9.heap.size w9 W.drew))
              have HSU := Lib.hid hsu2
              clear A1 hfl hfl2 hxl hsu hsu2 htl hsx hsx2 hc1 hc2 hil
              go_wp2_with fail
              go_region_held3 (fun W => W.cell? ⟨gl, ol + i, none⟩ = some (.string sx) ∧ W.cell? ⟨gm, om + i, none⟩ = some (.string sx) ∧ Below w9.heap.size w9 W) (first | with_reducible assumption | (with_reducible exact KD.out _ (by with_reducible assumption))) (fail)
              all_goals
                rename_i hSe
                have hc3 := hSe.1
                have HB9 := Lib.hid (HB.out.trans (hSe.2.2.mono HB.out.size))
                clear hSe HS0
                go_wp2_with fail
                go_roundw
                case measure => simp [intOf]; omega
                case rel => exact ⟨i + 1, by go_num, by omega, by rw [HSU.out], HB9⟩
            · obtain rfl : N = i := by omega
              have htk : (linesM r).take N = linesM r := List.take_of_length_le (by rw [HNN.out]; exact Nat.le_refl _)
              rw [htk]
              have hrb := (HB.out.block RB (kblock_lt HRB4.out)).trans HRB4.out
              have r0 := kcell hrb 0 _ rfl; have r1 := kcell hrb 1 _ rfl; have r2 := kcell hrb 2 _ rfl; have r3 := kcell hrb 3 _ rfl; have r4 := kcell hrb 4 _ rfl
              have HBE := Lib.hid (HBW4.out.trans (HB.out.mono HBW4.out.size))
              have hTx := text_Text _ _ _ _ r w9 (HRP4.out.below HB.out) HF.out.ok (HT.out.below HBE.out) er HER.out
              rw [show textM r = flat10 (linesM r) from rfl] at hTx
              generalize flat10 (linesM r) = fl at *
              generalize (⟨fl.toArray⟩ : ByteArray) = z0 at *
              clear hrb htk
              go_wp2_with fail
              refine hTx.mono ?_
              rintro e w10 ⟨rfl, hb10⟩
              have HBF := Lib.hid (HBE.out.trans (hb10.mono HBE.out.size))
              clear hb10 hTx r0 r1 r2 r3 r4
              go_wp2
              go_ret
              first
                | exact ⟨rfl, HBF.out⟩
                | exact ⟨by simp, HBF.out⟩
end
end Go.Proofs.YtbnkecmhmcligaaDoor
