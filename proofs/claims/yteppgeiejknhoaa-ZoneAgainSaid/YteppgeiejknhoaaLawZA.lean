/-
  law12.ZoneAgain: true for any origin, records, turn, name.
-/
import Derived.Test.YteppgeiejknhoaaZonO
import Derived.Test.YteppgeiejknhoaaRecS
import Derived.Test.YteppgeiejknhoaaMQ19
import Derived.Deep.RegionHeld3
namespace Go.Proofs.Yteppgeiejknhoaa
open Go.RowKit Go.Shelf
set_option maxRecDepth 20000
set_option linter.unusedVariables false
set_option linter.unusedSimpArgs false
theorem rcs_argZ {W : World} {css : List (List Value)} {l : List Rc} (h : css.length = l.length ∧ ∀ i (h1 : i < css.length) (h2 : i < l.length), RcArg W css[i] l[i]) : Rcs W css l := ⟨h.1, fun i h1 h2 => (h.2 i h1 h2).rcAt⟩
theorem rcsZ_append {W : World} {a c : List (List Value)} {b d : List Rc} (h : Rcs W a b) (g : Rcs W c d) : Rcs W (a ++ c) (b ++ d) := by
  have hl := h.1
  refine ⟨by simp [h.1, g.1], fun i h1 h2 => ?_⟩
  rw [List.length_append] at h1 h2
  by_cases hi : i < a.length
  · rw [List.getElem_append_left hi, List.getElem_append_left (by omega)]
    exact h.2 i hi (by omega)
  · rw [List.getElem_append_right (by omega), List.getElem_append_right (by omega)]
    have e : i - b.length = i - a.length := by rw [hl]
    simp only [e]
    exact g.2 (i - a.length) (by omega) (by omega)
theorem rcsZ_take {W : World} {a : List (List Value)} {b : List Rc} (h : Rcs W a b) (k : Nat) : Rcs W (a.take k) (b.take k) := by
  refine ⟨by simp [h.1], fun i h1 h2 => ?_⟩
  rw [List.length_take] at h1 h2
  rw [List.getElem_take, List.getElem_take]
  exact h.2 i (by omega) (by omega)
theorem rcsZ_drop {W : World} {a : List (List Value)} {b : List Rc} (h : Rcs W a b) (k : Nat) : Rcs W (a.drop k) (b.drop k) := by
  refine ⟨by simp [h.1], fun i h1 h2 => ?_⟩
  rw [List.length_drop] at h1 h2
  rw [List.getElem_drop, List.getElem_drop]
  exact h.2 (k + i) (by omega) (by omega)
theorem oneZ7 {W : World} {css : List (List Value)} {rs : List Rc} (h : Rcs W css rs) : ∀ cs ∈ css, ∀ u ∈ cs, u.oneCell' = true := fun cs hc => by
  obtain ⟨i, hi, rfl⟩ := List.mem_iff_getElem.1 hc
  exact (h.2 i hi (by have := h.1; omega)).one
theorem own_far {W : World} {base A : Nat} {v : Value} {css : List (List Value)} {cs : Array Value} (h : OwnC 7 50 W base v css) (hA : W.heap[A]? = some (.cells cs 30)) : v.ownBlock ≠ some A := by
  intro e
  rcases h.2 with ⟨rfl, _⟩ | ⟨g, cap, cur, rfl, _, hg, _⟩
  · simp [Value.ownBlock] at e
  · obtain rfl : g = A := by simpa [Value.ownBlock] using e
    rw [hA] at hg
    injection hg with hg
    injection hg with h1 h2
    exact absurd h2 (by decide)
theorem far_grown {W W' : World} {base A : Nat} {v : Value} {css : List (List Value)} {cs : Array Value} (h : OwnC 7 50 W base v css) (hA : W.heap[A]? = some (.cells cs 30)) (hg : W.grownBy W' v.ownBlock) : W'.heap[A]? = some (.cells cs 30) :=
  (hg.block A (kblock_lt hA) (Ne.symm (own_far h hA))).trans hA
set_option maxRecDepth 100000 in
set_option maxHeartbeats 16000000 in
theorem law12_ZoneAgain {w : World} (vo vl vn : Value) (o : Nm) (l : List Rc) (n : Nm) (hO : NmArg w vo o) (hL : RowArg w vl l) (t : Int) (ht : (Lit.int .u8 t).wf = true) (hN : NmArg w vn n) :
    Calls Try.prog 5 #[vo, vl, .int .u8 t, vn] w fun e w' => e = .returned (.bool true) ∧ Below w.heap.size w w' := by
  have hkn := law12_known w
  have HG1 := Lib.hid (fun (W : World) (hb : Below w.heap.size w W) => law12_Good vo vl o l w W hO hL hb)
  have HG2 := Lib.hid (fun (W : World) (hb : Below w.heap.size w W) => kn_Good vn n _ rfl w W hN (hN.1.below hb))
  have HNO := Lib.hid hO.1
  have HNN := Lib.hid hN.1
  have HLR := Lib.hid hL.row
  have HLOK := Lib.hid hL.ok
  obtain ⟨ao, co, rfl, -⟩ := nmAt_sl.1 hO.1
  obtain ⟨qo, hqo⟩ : ∃ q, (List.map strV o).length = q := ⟨_, rfl⟩
  obtain ⟨an, cn, rfl, -⟩ := nmAt_sl.1 hN.1
  obtain ⟨qn, hqn⟩ : ∃ q, (List.map strV n).length = q := ⟨_, rfl⟩
  obtain ⟨css, hLA, hLR⟩ := hL
  obtain ⟨al, cl, rfl, hlc, -, -⟩ := id hLA
  obtain ⟨m, hm⟩ : ∃ m, css.length = m := ⟨_, rfl⟩
  have hml : l.length = m := by rw [← hm]; exact hLR.1.symm
  have hrcs : Rcs w css l := rcs_argZ hLR
  have hss : 0 < m → ∃ b off, al = some ⟨b, off, none⟩ := fun h => by
    obtain ⟨b, off, e, _⟩ := hLA.elem hrcs.ck (by omega)
    exact ⟨b, off, e⟩
  rw [hm] at hlc HG1 HLR hLA ⊢
  rw [hqo] at HG1 HNO ⊢
  rw [hqn] at HG2 HNN ⊢
  have HLA := Lib.hid hLA; have HRC := Lib.hid hrcs; have HSS := Lib.hid hss
  have HM := Lib.hid hml; have HMC := Lib.hid hm
  have htt : 0 ≤ t ∧ t < 256 := by
    simp [Lit.wf] at ht
    have e1 : IntKind.u8.min = 0 := by decide
    have e2 : IntKind.u8.max = 255 := by decide
    omega
  obtain ⟨tn, rfl⟩ : ∃ tn : Nat, t = (tn : Int) := ⟨t.toNat, by omega⟩
  have htn : tn < 256 := by omega
  clear hO hLA hLR hN hqo hqn hm hml ht htt hrcs hss
  go_enter Try.func5, Try.ntmps5
  go_wp2_with fail
  refine hkn.mono ?_
  rintro e w1 ⟨rfl, hb1⟩
  have HB1 := Lib.hid hb1
  have hc := HG1.out w1 hb1
  clear hkn hb1 HG1
  go_wp2_with fail
  refine hc.mono ?_
  rintro e w2 ⟨rfl, hb2⟩
  have HB2 := Lib.hid (HB1.out.trans (hb2.mono HB1.out.size))
  clear hb2 hc HB1
  obtain ⟨g1, hg1⟩ : ∃ g, (goodN o && goodRs l) = g := ⟨_, rfl⟩
  have HGG1 := Lib.hid hg1
  rw [hg1]
  clear hg1
  cases g1
  · go_wp2
    go_ret
    exact ⟨rfl, HB2.out⟩
  have hc := HG2.out w2 HB2.out
  clear HG2
  go_wp2_with fail
  refine hc.mono ?_
  rintro e w3 ⟨rfl, hb3⟩
  have HB3 := Lib.hid (HB2.out.trans (hb3.mono HB2.out.size))
  clear hb3 hc HB2
  obtain ⟨g2, hg2⟩ : ∃ g, goodN n = g := ⟨_, rfl⟩
  have HGG2 := Lib.hid hg2
  rw [hg2]
  clear hg2
  cases g2
  · go_wp2
    go_ret
    exact ⟨rfl, HB3.out⟩
  by_cases h0 : m = 0
  · subst h0
    go_wp2
    go_ret
    exact ⟨rfl, HB3.out⟩
  obtain ⟨b, off, rfl⟩ := HSS.out (by omega)
  have hg := HGG1.out
  simp only [Bool.and_eq_true] at hg
  have hko : NmOK o := fewN_ok (by have := hg.1; unfold goodN at this; simp only [Bool.and_eq_true] at this; exact this.1)
  have hkn : NmOK n := fewN_ok (by have := HGG2.out; unfold goodN at this; simp only [Bool.and_eq_true] at this; exact this.1)
  have hfr : fewRs l = true := by
    have := hg.2
    unfold goodRs at this; simp only [Bool.and_eq_true] at this; exact this.1
  obtain ⟨hl60, hokl⟩ := HLOK.out hfr
  have hm60 : m ≤ 60 := by have := HM.out; omega
  have HKO := Lib.hid hko; have HKN := Lib.hid hkn; have HOKL := Lib.hid hokl
  have hc := zone_New (.slice ao qo co) (.slice (some ⟨b, off, none⟩) m cl) o l (HNO.out.below HB3.out) HKO.out (HLR.out.below HB3.out) HOKL.out (by omega)
  obtain ⟨C, hC⟩ : ∃ C, canonM l = C := ⟨_, rfl⟩
  have HCL := Lib.hid hC
  rw [hC] at hc
  have hn0 : ¬ (m : Int) = 0 := by omega
  have hn1 : ((m : Int) == 0) = false := by simpa using h0
  clear hC hg hko hkn hfr hl60 hokl HLOK HGG1 HGG2 HSS
  go_wp2_with fail
  refine hc.mono ?_
  rintro e w5 ⟨za, zn, zc, v1, mz, cz, rfl, hZ, hb5⟩
  have hA5 := (Below.refl w5.heap.size w5).alloc (Nat.le_refl _) (.cells #[.slice za zn zc, .slice v1 mz cz] 30)
  obtain ⟨zb, hzb⟩ : ∃ zb, w5.heap.size = zb := ⟨_, rfl⟩
  obtain ⟨w6, hw6⟩ : ∃ w6, w5.alloc (.cells #[.slice za zn zc, .slice v1 mz cz] 30) = w6 := ⟨_, rfl⟩
  have hX := knew w5 (.cells #[.slice za zn zc, .slice v1 mz cz] 30)
  rw [hw6] at hA5 hX
  rw [hzb] at hX
  have hb56 := hb5.trans (hA5.mono hb5.size)
  have HB6 := Lib.hid (HB3.out.trans (hb56.mono HB3.out.size))
  have HZ := Lib.hid (fun W (hb : Below w6.heap.size w6 W) => ((hZ.below hA5).below hb : ZonS W za zn zc v1 mz cz o C))
  have HY := Lib.hid (fun W (hb : Below w6.heap.size w6 W) => And.intro (kcell ((hb.block _ (kblock_lt hX)).trans hX) 0 _ rfl) (kcell ((hb.block _ (kblock_lt hX)).trans hX) 1 _ rfl))
  have HNW := Lib.hid (fun W (hb : Below w6.heap.size w6 W) => HNN.out.below (HB6.out.trans (hb.mono HB6.out.size)))
  have HOW := Lib.hid (fun W (hb : Below w6.heap.size w6 W) => HNO.out.below (HB6.out.trans (hb.mono HB6.out.size)))
  obtain ⟨k, hk⟩ : ∃ k, tn % m = k := ⟨_, rfl⟩
  have hkn2 : k < m := by rw [← hk]; exact Nat.mod_lt _ (by omega)
  have hk1 : (tn : Int).tmod (m : Int) = (k : Int) := by rw [← hk]; exact Int.ofNat_tmod tn m |>.symm
  have hkz : (0 : Int) ≤ (k : Int) := by omega
  have hkz2 : (k : Int) ≤ (m : Int) := by omega
  have hkz3 : (k : Int) ≤ (cl : Int) := by omega
  have hnc : (m : Int) ≤ (cl : Int) := by omega
  have hkc : (k : Int) < (cl : Int) := by omega
  have hcne : ¬ cl = k := by omega
  have hwt : IntKind.i64.wrap (tn : Int) = (tn : Int) := by rw [IntKind.wrap_i64]; omega
  have hwk : IntKind.i64.wrap (k : Int) = (k : Int) := by
    have : m ≤ 1 ∨ k < 256 := by rw [← hk]; have := Nat.mod_le tn m; omega
    rw [IntKind.wrap_i64]; omega
  clear hc hZ hb5 hA5 hX hb56 hk h0
  have hbB : Below w6.heap.size w6 w6.drew := ⟨rfl, rfl, rfl, Nat.le_refl _, fun _ _ => rfl⟩
  have hbB0 : Below w6.heap.size w6 w6 := Below.refl _ _
  have KA := Lib.hid (fun W o (h : Below w6.heap.size w6 W) => h.alloc h.size o)
  have KR := Lib.hid (fun W (h : Below w6.heap.size w6 W) => (h.trans ⟨rfl, rfl, rfl, Nat.le_refl _, fun _ _ => rfl⟩ : Below w6.heap.size w6 W.drew))
  have HTA := Lib.hid (HLA.out.takeK k (by omega))
  have HTD := Lib.hid (HLA.out.dropK HRC.out.ck k (by omega))
  have HLT := Lib.hid (show (css.take k).length = k by rw [List.length_take, HMC.out]; omega)
  have HLD := Lib.hid (show (css.drop k).length = m - k by rw [List.length_drop, HMC.out])
  have HCK := Lib.hid (fun cs (h : cs ∈ css.take k) => HRC.out.ck cs (List.mem_of_mem_take h))
  have HC1 := Lib.hid (fun cs (h : cs ∈ css.take k) => oneZ7 HRC.out cs (List.mem_of_mem_take h))
  have HDK := Lib.hid (fun cs (h : cs ∈ css.drop k) => HRC.out.ck cs (List.mem_of_mem_drop h))
  have HD1 := Lib.hid (fun cs (h : cs ∈ css.drop k) => oneZ7 HRC.out cs (List.mem_of_mem_drop h))
  have hsz : ∀ o : Obj, (w6.alloc o).heap.size = w6.heap.size + 1 := fun o => by show (w6.heap.push o).size = _; simp
  have HO1 := Lib.hid (show OwnC 7 50 ((w6.alloc (.cells #[] 50)).drew) w6.heap.size (.slice (some ⟨w6.heap.size, 0, none⟩) 0 0) [] from ownC_lit 7 50 w6.drew)
  have HO2 := Lib.hid (show OwnC 7 50 (((w6.alloc (.cells #[.slice none 0 0, .slice none 0 0] 30)).alloc (.cells #[] 50)).drew) w6.heap.size (.slice (some ⟨w6.heap.size + 1, 0, none⟩) 0 0) [] from by
    have h := ownC_lit 7 50 (w6.alloc (.cells #[.slice none 0 0, .slice none 0 0] 30)).drew
    have e : (w6.alloc (.cells #[.slice none 0 0, .slice none 0 0] 30)).drew.heap.size = w6.heap.size + 1 := hsz _
    rw [e] at h
    exact own_base h (Nat.le_succ _))
  have HO3 := Lib.hid (show OwnC 7 50 (((w6.alloc (.cells #[] 50)).alloc (.cells #[.slice none 0 0, .slice none 0 0] 30)).drew) w6.heap.size (.slice (some ⟨w6.heap.size, 0, none⟩) 0 0) [] from OwnK.below (ownC_lit 7 50 w6.drew) ((Below.refl _ _).alloc (Nat.le_refl _) _))
  have HX1 := Lib.hid (show Below w6.heap.size w6 ((w6.alloc (.cells #[] 50)).drew) from KR.out _ (KA.out _ _ hbB0))
  have HX2 := Lib.hid (show Below w6.heap.size w6 (((w6.alloc (.cells #[.slice none 0 0, .slice none 0 0] 30)).alloc (.cells #[] 50)).drew) from KR.out _ (KA.out _ _ (KA.out _ _ hbB0)))
  have HX3 := Lib.hid (show Below w6.heap.size w6 (((w6.alloc (.cells #[] 50)).alloc (.cells #[.slice none 0 0, .slice none 0 0] 30)).drew) from KR.out _ (KA.out _ _ (KA.out _ _ hbB0)))
  have HA2 := Lib.hid (show (((w6.alloc (.cells #[.slice none 0 0, .slice none 0 0] 30)).alloc (.cells #[] 50)).drew).heap[w6.heap.size]? = some (.cells #[.slice none 0 0, .slice none 0 0] 30) from by
    have h := knew w6 (.cells #[.slice none 0 0, .slice none 0 0] 30)
    have h2 := (Below.refl (w6.alloc (.cells #[.slice none 0 0, .slice none 0 0] 30)).heap.size (w6.alloc (.cells #[.slice none 0 0, .slice none 0 0] 30))).alloc (Nat.le_refl _) (.cells #[] 50)
    exact (h2.block _ (kblock_lt h)).trans h)
  have HA3 := Lib.hid (show (((w6.alloc (.cells #[] 50)).alloc (.cells #[.slice none 0 0, .slice none 0 0] 30)).drew).heap[w6.heap.size + 1]? = some (.cells #[.slice none 0 0, .slice none 0 0] 30) from by
    have h := knew (w6.alloc (.cells #[] 50)) (.cells #[.slice none 0 0, .slice none 0 0] 30)
    rw [hsz] at h
    exact h)
  clear hsz
  have HPa := Lib.hid (fun (ops : Array Oper) (o : Oper) (a : Act) (K : Act → World → Prop) (Q : Exit → Act → World → Prop) (E : Prop) (h1 : o.guard = none) (h2 : o.op = .call { callee := .builtin .append, args := #[.tmp 38, .tmp 41], argTypes := #[24, 24] }) (h3 : a.eval (.tmp 38) = .slice (some ⟨w6.heap.size, 0, none⟩) 0 0) (h4 : a.eval (.tmp 41) = .slice (some ⟨b, off + k * 7, none⟩) (m - k) (cl - k)) h => step_append_slk (ops := ops) (a := a) (K := K) (Q := Q) (E := E) ((w6.alloc (.cells #[] 50)).drew) h1 (.tmp 38) (.tmp 41) elem_rec (by decide) h2 w6.heap.size _ [] h3 HO1.out _ (css.drop k) h4 (HTD.out.below (HB6.out.trans (HX1.out.mono HB6.out.size))) HDK.out HD1.out HX1.out.size (by have h1 := HLD.out; rw [HLD.out]; unfold maxLen; first | omega | (simp <;> omega)) (by rw [HLD.out]; first | omega | (simp <;> omega)) h)
  have HPb := Lib.hid (fun (ops : Array Oper) (o : Oper) (a : Act) (K : Act → World → Prop) (Q : Exit → Act → World → Prop) (E : Prop) (h1 : o.guard = none) (h2 : o.op = .call { callee := .builtin .append, args := #[.tmp 38, .tmp 41], argTypes := #[24, 24] }) (h3 : a.eval (.tmp 38) = .slice (some ⟨w6.heap.size + 1, 0, none⟩) 0 0) (h4 : a.eval (.tmp 41) = .slice (some ⟨b, off + k * 7, none⟩) (m - k) (cl - k)) h => step_append_slk (ops := ops) (a := a) (K := K) (Q := Q) (E := E) (((w6.alloc (.cells #[.slice none 0 0, .slice none 0 0] 30)).alloc (.cells #[] 50)).drew) h1 (.tmp 38) (.tmp 41) elem_rec (by decide) h2 w6.heap.size _ [] h3 HO2.out _ (css.drop k) h4 (HTD.out.below (HB6.out.trans (HX2.out.mono HB6.out.size))) HDK.out HD1.out HX2.out.size (by have h1 := HLD.out; rw [HLD.out]; unfold maxLen; first | omega | (simp <;> omega)) (by rw [HLD.out]; first | omega | (simp <;> omega)) h)
  have HPc := Lib.hid (fun (ops : Array Oper) (o : Oper) (a : Act) (K : Act → World → Prop) (Q : Exit → Act → World → Prop) (E : Prop) (h1 : o.guard = none) (h2 : o.op = .call { callee := .builtin .append, args := #[.tmp 38, .tmp 41], argTypes := #[24, 24] }) (h3 : a.eval (.tmp 38) = .slice (some ⟨w6.heap.size, 0, none⟩) 0 0) (h4 : a.eval (.tmp 41) = .slice (some ⟨b, off + k * 7, none⟩) (m - k) (cl - k)) h => step_append_slk (ops := ops) (a := a) (K := K) (Q := Q) (E := E) (((w6.alloc (.cells #[] 50)).alloc (.cells #[.slice none 0 0, .slice none 0 0] 30)).drew) h1 (.tmp 38) (.tmp 41) elem_rec (by decide) h2 w6.heap.size _ [] h3 HO3.out _ (css.drop k) h4 (HTD.out.below (HB6.out.trans (HX3.out.mono HB6.out.size))) HDK.out HD1.out HX3.out.size (by have h1 := HLD.out; rw [HLD.out]; unfold maxLen; first | omega | (simp <;> omega)) (by rw [HLD.out]; first | omega | (simp <;> omega)) h)
  obtain ⟨M, hM⟩ : ∃ M, l.drop k ++ l.take k = M := ⟨_, rfl⟩
  have hmem : ∀ x, x ∈ M ↔ x ∈ l := fun x => by
    rw [← hM, List.mem_append, or_comm, ← List.mem_append, List.take_append_drop]
  have hMk : ∀ r ∈ M, RcOK r := fun r hr => HOKL.out r ((hmem r).1 hr)
  have hMl : M.length ≤ 60 := by rw [← hM, List.length_append, List.length_drop, List.length_take]; have := HM.out; omega
  have HALK := Lib.hid (show AlikeZ (canonM M) C from by rw [← HCL.out]; exact alike_canon hmem)
  have HSM := Lib.hid (show sameRowM (canonM M) C = true from by rw [← HCL.out]; exact canon_turned M l hmem)
  have HMK := Lib.hid (canonM_ok' M hMk)
  have HMLN := Lib.hid (show (canonM M).length ≤ 60 by have := canonM_length M; omega)
  have HCK2 := Lib.hid (show ∀ r ∈ C, RcOK r by rw [← HCL.out]; exact canonM_ok' l HOKL.out)
  have HCLN := Lib.hid (show C.length ≤ 60 by rw [← HCL.out]; have := canonM_length l; have := HM.out; omega)
  have HCAG := Lib.hid (show canonM C = C by rw [← HCL.out]; exact canonM_again l)
  have HNC := Lib.hid (fun (X : World) (v5 : Value) (hX : Below w6.heap.size w6 X) (base : Nat) (hown : OwnC 7 50 X base v5 (css.drop k ++ css.take k)) => zone_NewF (.slice ao qo co) v5 o M (HOW.out X hX) HKO.out (by
    have hr : Rcs X (css.drop k ++ css.take k) M := by rw [← hM]; exact (rcsZ_append (rcsZ_drop HRC.out k) (rcsZ_take HRC.out k)).below (HB6.out.trans (hX.mono HB6.out.size))
    exact ⟨_, SlK.of_own hown hr.ck, hr⟩) hMk (by omega))
  obtain ⟨CM, hCM⟩ : ∃ CM, canonM M = CM := ⟨_, rfl⟩
  rw [hCM] at HALK HSM HMK HMLN HNC
  clear hM hmem hMk hMl hCM
  have KP := Lib.hid (fun W A v0 v1 (hA : w6.heap.size ≤ A) (h : Below w6.heap.size w6 W) => ((h.setCell (p := ⟨A, 0, none⟩) hA v0).setCell (p := ⟨A, 1, none⟩) hA v1 : Below w6.heap.size w6 ((W.setCell ⟨A, 0, none⟩ v0).setCell ⟨A, 1, none⟩ v1)))
  have KZ := Lib.hid (show w6.heap.size ≤ w6.heap.size ∧ w6.heap.size ≤ w6.heap.size + 1 from ⟨Nat.le_refl _, Nat.le_succ _⟩)
  go_wp2_with fail
  clear hw6 hzb
  go_region_held3 (fun W => Below w6.heap.size w6 W) (first | with_reducible assumption | (with_reducible exact KA.out _ _ (by with_reducible assumption)) | (with_reducible exact KR.out _ (by with_reducible assumption)) | (with_reducible exact KA.out _ _ (KR.out _ (by with_reducible assumption))) | (with_reducible exact KR.out _ (KA.out _ _ (by with_reducible assumption))) | (with_reducible exact KR.out _ (KA.out _ _ (KA.out _ _ (by with_reducible assumption)))) | (with_reducible exact KP.out _ _ _ _ (by with_reducible assumption) (by with_reducible assumption)) | (with_reducible exact KP.out _ _ _ _ (by with_reducible assumption) (KA.out _ _ (by with_reducible assumption))))
    (first
    | ((with_reducible refine HPb.out _ _ _ _ _ _ ?_ ?_ ?_ ?_ ?_); exact rfl; exact rfl; exact rfl; exact rfl; intro v4 w4 ho4 hg4; rw [List.nil_append] at ho4; have hB4 := HX2.out.grown hg4 HX2.out.size (OwnK.base_le HO2.out); have hs4 := hB4.size; have HA4 := Lib.hid (far_grown HO2.out HA2.out hg4); have hA4 := Nat.le_refl w6.heap.size; have HO4 := Lib.hid ho4; have HB4 := Lib.hid hB4; have HP2 := Lib.hid (fun (X : World) (hX : Below w6.heap.size w6 X) (hown : OwnC 7 50 X w6.heap.size v4 (css.drop k)) (ops : Array Oper) (o : Oper) (a : Act) (K : Act → World → Prop) (Q : Exit → Act → World → Prop) (E : Prop) (h1 : o.guard = none) (h2 : o.op = .call { callee := .builtin .append, args := #[.tmp 42, .tmp 45], argTypes := #[24, 24] }) (h3 : a.eval (.tmp 42) = v4) (h4 : a.eval (.tmp 45) = .slice (some ⟨b, off, none⟩) k cl) h => step_append_slk (ops := ops) (a := a) (K := K) (Q := Q) (E := E) X h1 (.tmp 42) (.tmp 45) elem_rec (by decide) h2 w6.heap.size _ (css.drop k) h3 hown _ (css.take k) h4 (HTA.out.below (HB6.out.trans (hX.mono HB6.out.size))) HCK.out HC1.out hX.size (by have h1 := HLD.out; have h2 := HLT.out; rw [HLD.out, HLT.out]; unfold maxLen; first | omega | (simp <;> omega)) (by have h1 := HLD.out; have h2 := HLT.out; rw [HLD.out, HLT.out]; first | omega | (simp <;> omega)) h); clear ho4 hg4)
    | ((with_reducible refine HPc.out _ _ _ _ _ _ ?_ ?_ ?_ ?_ ?_); exact rfl; exact rfl; exact rfl; exact rfl; intro v4 w4 ho4 hg4; rw [List.nil_append] at ho4; have hB4 := HX3.out.grown hg4 HX3.out.size (OwnK.base_le HO3.out); have hs4 := hB4.size; have HA4 := Lib.hid (far_grown HO3.out HA3.out hg4); have hA4 := Nat.le_succ w6.heap.size; have HO4 := Lib.hid ho4; have HB4 := Lib.hid hB4; have HP2 := Lib.hid (fun (X : World) (hX : Below w6.heap.size w6 X) (hown : OwnC 7 50 X w6.heap.size v4 (css.drop k)) (ops : Array Oper) (o : Oper) (a : Act) (K : Act → World → Prop) (Q : Exit → Act → World → Prop) (E : Prop) (h1 : o.guard = none) (h2 : o.op = .call { callee := .builtin .append, args := #[.tmp 42, .tmp 45], argTypes := #[24, 24] }) (h3 : a.eval (.tmp 42) = v4) (h4 : a.eval (.tmp 45) = .slice (some ⟨b, off, none⟩) k cl) h => step_append_slk (ops := ops) (a := a) (K := K) (Q := Q) (E := E) X h1 (.tmp 42) (.tmp 45) elem_rec (by decide) h2 w6.heap.size _ (css.drop k) h3 hown _ (css.take k) h4 (HTA.out.below (HB6.out.trans (hX.mono HB6.out.size))) HCK.out HC1.out hX.size (by have h1 := HLD.out; have h2 := HLT.out; rw [HLD.out, HLT.out]; unfold maxLen; first | omega | (simp <;> omega)) (by have h1 := HLD.out; have h2 := HLT.out; rw [HLD.out, HLT.out]; first | omega | (simp <;> omega)) h); clear ho4 hg4)
    | ((with_reducible refine HPa.out _ _ _ _ _ _ ?_ ?_ ?_ ?_ ?_); exact rfl; exact rfl; exact rfl; exact rfl; intro v4 w4 ho4 hg4; rw [List.nil_append] at ho4; have hB4 := HX1.out.grown hg4 HX1.out.size (OwnK.base_le HO1.out); have hs4 := hB4.size; have HO4 := Lib.hid ho4; have HB4 := Lib.hid hB4; have HP2 := Lib.hid (fun (X : World) (hX : Below w6.heap.size w6 X) (hown : OwnC 7 50 X w6.heap.size v4 (css.drop k)) (ops : Array Oper) (o : Oper) (a : Act) (K : Act → World → Prop) (Q : Exit → Act → World → Prop) (E : Prop) (h1 : o.guard = none) (h2 : o.op = .call { callee := .builtin .append, args := #[.tmp 42, .tmp 45], argTypes := #[24, 24] }) (h3 : a.eval (.tmp 42) = v4) (h4 : a.eval (.tmp 45) = .slice (some ⟨b, off, none⟩) k cl) h => step_append_slk (ops := ops) (a := a) (K := K) (Q := Q) (E := E) X h1 (.tmp 42) (.tmp 45) elem_rec (by decide) h2 w6.heap.size _ (css.drop k) h3 hown _ (css.take k) h4 (HTA.out.below (HB6.out.trans (hX.mono HB6.out.size))) HCK.out HC1.out hX.size (by have h1 := HLD.out; have h2 := HLT.out; rw [HLD.out, HLT.out]; unfold maxLen; first | omega | (simp <;> omega)) (by have h1 := HLD.out; have h2 := HLT.out; rw [HLD.out, HLT.out]; first | omega | (simp <;> omega)) h); clear ho4 hg4)
    | ((with_reducible refine HP2.out (w4) (HB4.out) (HO4.out) _ _ _ _ _ _ ?_ ?_ ?_ ?_ ?_); exact rfl; exact rfl; exact rfl; exact rfl; intro v5 w5 ho5 hg5; have hB5 := (HB4.out).grown hg5 (HB4.out).size (OwnK.base_le (HO4.out)); have hs5 := hB5.size; have HA5 := Lib.hid (far_grown HO4.out HA4.out hg5); have HO5 := Lib.hid ho5; have HB5 := Lib.hid hB5; clear ho5 hg5)
    | ((with_reducible refine HP2.out (w4.alloc (.cells #[.slice none 0 0, .slice none 0 0] 30)) (KA.out _ _ HB4.out) (HO4.out.alloc (.cells #[.slice none 0 0, .slice none 0 0] 30)) _ _ _ _ _ _ ?_ ?_ ?_ ?_ ?_); exact rfl; exact rfl; exact rfl; exact rfl; intro v5 w5 ho5 hg5; have hB5 := (KA.out _ _ HB4.out).grown hg5 (KA.out _ _ HB4.out).size (OwnK.base_le (HO4.out.alloc (.cells #[.slice none 0 0, .slice none 0 0] 30))); have hs5 := hB5.size; have HA5 := Lib.hid (far_grown (HO4.out.alloc (.cells #[.slice none 0 0, .slice none 0 0] 30)) (knew w4 (.cells #[.slice none 0 0, .slice none 0 0] 30)) hg5); have HO5 := Lib.hid ho5; have HB5 := Lib.hid hB5; clear ho5 hg5)
    | ((with_reducible refine HP2.out (w4) (HB4.out) (HO4.out) _ _ _ _ _ _ ?_ ?_ ?_ ?_ ?_); exact rfl; exact rfl; exact rfl; exact rfl; intro v5 w5 ho5 hg5; have hB5 := (HB4.out).grown hg5 (HB4.out).size (OwnK.base_le (HO4.out)); have hs5 := hB5.size; have HO5 := Lib.hid ho5; have HB5 := Lib.hid hB5; clear ho5 hg5)
    | ((with_reducible refine (HNC.out (w5) v5 (HB5.out) _ (HO5.out)).mono ?_); rintro e w7 ⟨ya, yn, yc, y1, my, cy, rfl, hzy, hb7⟩; have hB7 := (HB5.out).trans (hb7.mono (HB5.out).size); have hs7 := hB7.size; have hA7 := (hb7.block _ (kblock_lt HA5.out)).trans HA5.out; have HZY := Lib.hid (fun u0 u1 => ((hzy.set (kblock_lt HA5.out) 0 u0).set (kblock_lt HA5.out) 1 u1).zonS); have fz0 := kfrozen hA7 0; have fz1 := kfrozen hA7 1; have cl0 := kcell hA7 0 _ rfl; have cl1 := kcell hA7 1 _ rfl; have HA7 := Lib.hid hA7; clear hA7; have HB7 := Lib.hid hB7; clear hzy hb7)
    | ((with_reducible refine (HNC.out (w5.alloc (.cells #[.slice none 0 0, .slice none 0 0] 30)) v5 (KA.out _ _ HB5.out) _ (HO5.out.alloc (.cells #[.slice none 0 0, .slice none 0 0] 30))).mono ?_); rintro e w7 ⟨ya, yn, yc, y1, my, cy, rfl, hzy, hb7⟩; have hB7 := (KA.out _ _ HB5.out).trans (hb7.mono (KA.out _ _ HB5.out).size); have hs7 := hB7.size; have hA7 := (hb7.block _ (kblock_lt (knew w5 (.cells #[.slice none 0 0, .slice none 0 0] 30)))).trans (knew w5 (.cells #[.slice none 0 0, .slice none 0 0] 30)); have HZY := Lib.hid (fun u0 u1 => ((hzy.set (kblock_lt (knew w5 (.cells #[.slice none 0 0, .slice none 0 0] 30))) 0 u0).set (kblock_lt (knew w5 (.cells #[.slice none 0 0, .slice none 0 0] 30))) 1 u1).zonS); have fz0 := kfrozen hA7 0; have fz1 := kfrozen hA7 1; have cl0 := kcell hA7 0 _ rfl; have cl1 := kcell hA7 1 _ rfl; have HA7 := Lib.hid hA7; clear hA7; have HB7 := Lib.hid hB7; clear hzy hb7)
    | ((with_reducible refine (HNC.out (w5) v5 (HB5.out) _ (HO5.out)).mono ?_); rintro e w7 ⟨ya, yn, yc, y1, my, cy, rfl, hzy, hb7⟩; have hB7 := (HB5.out).trans (hb7.mono (HB5.out).size); have hs7 := hB7.size; have HZN := Lib.hid hzy.zonS; have HB7 := Lib.hid hB7; clear hzy hb7))
  all_goals
    first
    | (obtain ⟨W8, hW8⟩ : ∃ W8, w7.alloc (.cells #[.slice ya yn yc, .slice y1 my cy] 30) = W8 := ⟨_, rfl⟩
       have HX8 := Lib.hid (show W8.heap[w7.heap.size]? = some (.cells #[.slice ya yn yc, .slice y1 my cy] 30) by rw [← hW8]; exact knew w7 _)
       have HZ8 := Lib.hid (show ZonS W8 ya yn yc y1 my cy o CM by rw [← hW8]; exact HZN.out.below ((Below.refl _ w7).alloc (Nat.le_refl _) _))
       have HB8 := Lib.hid (show Below w6.heap.size w6 W8 by rw [← hW8]; exact KA.out _ _ HB7.out)
       rw [hW8]
       clear hW8)
    | (obtain ⟨W8, hW8⟩ : ∃ W8, (w7.setCell ⟨w5.heap.size, 0, none⟩ (.slice ya yn yc)).setCell ⟨w5.heap.size, 1, none⟩ (.slice y1 my cy) = W8 := ⟨_, rfl⟩
       have HX8 := Lib.hid (show W8.heap[w5.heap.size]? = some (.cells #[.slice ya yn yc, .slice y1 my cy] 30) by rw [← hW8]; exact kset (kset HA7.out 0 _) 1 _)
       have HZ8 := Lib.hid (show ZonS W8 ya yn yc y1 my cy o CM by rw [← hW8]; exact HZY.out _ _)
       have HB8 := Lib.hid (show Below w6.heap.size w6 W8 by rw [← hW8]; exact KP.out _ _ _ _ (by first | exact hs5 | exact hs4 | exact Nat.le_refl _ | exact Nat.le_succ _) HB7.out)
       rw [hW8]
       clear hW8)
    | (obtain ⟨W8, hW8⟩ : ∃ W8, (w7.setCell ⟨w4.heap.size, 0, none⟩ (.slice ya yn yc)).setCell ⟨w4.heap.size, 1, none⟩ (.slice y1 my cy) = W8 := ⟨_, rfl⟩
       have HX8 := Lib.hid (show W8.heap[w4.heap.size]? = some (.cells #[.slice ya yn yc, .slice y1 my cy] 30) by rw [← hW8]; exact kset (kset HA7.out 0 _) 1 _)
       have HZ8 := Lib.hid (show ZonS W8 ya yn yc y1 my cy o CM by rw [← hW8]; exact HZY.out _ _)
       have HB8 := Lib.hid (show Below w6.heap.size w6 W8 by rw [← hW8]; exact KP.out _ _ _ _ (by first | exact hs5 | exact hs4 | exact Nat.le_refl _ | exact Nat.le_succ _) HB7.out)
       rw [hW8]
       clear hW8)
    | (obtain ⟨W8, hW8⟩ : ∃ W8, (w7.setCell ⟨w6.heap.size + 1, 0, none⟩ (.slice ya yn yc)).setCell ⟨w6.heap.size + 1, 1, none⟩ (.slice y1 my cy) = W8 := ⟨_, rfl⟩
       have HX8 := Lib.hid (show W8.heap[w6.heap.size + 1]? = some (.cells #[.slice ya yn yc, .slice y1 my cy] 30) by rw [← hW8]; exact kset (kset HA7.out 0 _) 1 _)
       have HZ8 := Lib.hid (show ZonS W8 ya yn yc y1 my cy o CM by rw [← hW8]; exact HZY.out _ _)
       have HB8 := Lib.hid (show Below w6.heap.size w6 W8 by rw [← hW8]; exact KP.out _ _ _ _ (by first | exact hs5 | exact hs4 | exact Nat.le_refl _ | exact Nat.le_succ _) HB7.out)
       rw [hW8]
       clear hW8)
    | (obtain ⟨W8, hW8⟩ : ∃ W8, (w7.setCell ⟨w6.heap.size, 0, none⟩ (.slice ya yn yc)).setCell ⟨w6.heap.size, 1, none⟩ (.slice y1 my cy) = W8 := ⟨_, rfl⟩
       have HX8 := Lib.hid (show W8.heap[w6.heap.size]? = some (.cells #[.slice ya yn yc, .slice y1 my cy] 30) by rw [← hW8]; exact kset (kset HA7.out 0 _) 1 _)
       have HZ8 := Lib.hid (show ZonS W8 ya yn yc y1 my cy o CM by rw [← hW8]; exact HZY.out _ _)
       have HB8 := Lib.hid (show Below w6.heap.size w6 W8 by rw [← hW8]; exact KP.out _ _ _ _ (by first | exact hs5 | exact hs4 | exact Nat.le_refl _ | exact Nat.le_succ _) HB7.out)
       rw [hW8]
       clear hW8)
    have hc := (fun h => zone_New (.slice ao qo co) (.slice v1 mz cz) o C (HOW.out W8 HB8.out) HKO.out h HCK2.out (by have := HCLN.out; omega)) (by
      obtain ⟨-, -, ⟨cssz, hz3, hz4⟩, -, -⟩ := HZ.out W8 HB8.out
      exact ⟨cssz, hz3, hz4⟩)
    rw [HCAG.out] at hc
    obtain ⟨yz0, yz1⟩ := HY.out W8 HB8.out
    clear HP2 HPa HPb HPc HNC HO1 HO2 HO3 HX1 HX2 HX3 HA2 HA3 HTA HTD HLT HLD HCK HC1 HDK HD1 HO4 HO5 HB4 HB5 HB7 KP KZ KA KR
    go_wp2_with fail
    refine hc.mono ?_
    rintro e w9 ⟨xa, xn, xc, x1, mx, cx, rfl, hx9, hb9⟩
    have hA9 := (Below.refl w9.heap.size w9).alloc (Nat.le_refl _) (.cells #[.slice xa xn xc, .slice x1 mx cx] 30)
    obtain ⟨xb, hxb⟩ : ∃ xb, w9.heap.size = xb := ⟨_, rfl⟩
    obtain ⟨W10, hW10⟩ : ∃ W, w9.alloc (.cells #[.slice xa xn xc, .slice x1 mx cx] 30) = W := ⟨_, rfl⟩
    have hX10 := knew w9 (.cells #[.slice xa xn xc, .slice x1 mx cx] 30)
    rw [hW10] at hA9 hX10
    rw [hxb] at hX10
    have HX10 := Lib.hid hX10
    have HB810 := Lib.hid (hb9.trans (hA9.mono hb9.size))
    have HB10 := Lib.hid (HB8.out.trans (HB810.out.mono HB8.out.size))
    have HZX := Lib.hid (hx9.below hA9)
    have hcl : Below W10.heap.size W10 W10.drew := ⟨rfl, rfl, rfl, Nat.le_refl _, fun _ _ => rfl⟩
    clear hc yz0 yz1 hx9 hb9 hA9 hX10
    obtain ⟨wv, hwv⟩ : ∃ wv, whereM o C n = wv := ⟨_, rfl⟩
    obtain ⟨ev, hev⟩ : ∃ ev, existsM o C n = ev := ⟨_, rfl⟩
    have hwy : whereM o CM n = wv := by rw [← hwv]; exact HALK.out.where o n
    have hey : existsM o CM n = ev := by rw [← hev]; exact HALK.out.exists o n
    have b6 := fun p : WIn (fun W => Below W10.heap.size W10 W) => HB10.out.trans (p.ok.mono HB10.out.size)
    have f0 := fun p : WIn (fun W => Below W10.heap.size W10 W) => kcell ((p.ok.block _ (kblock_lt HX10.out)).trans HX10.out)
    have f1 := fun p : WIn (fun W => Below W10.heap.size W10 W) => kcell (((HB810.out.trans (p.ok.mono HB810.out.size)).block _ (kblock_lt HX8.out)).trans HX8.out)
    have g0 := fun p => f0 p 0 _ rfl; have g1 := fun p => f0 p 1 _ rfl
    have g2 := fun p => f1 p 0 _ rfl; have g3 := fun p => f1 p 1 _ rfl
    have g4 := fun p => (HY.out _ (b6 p)).1; have g5 := fun p => (HY.out _ (b6 p)).2
    have hc1 : ∀ p : WIn (fun W => Below W10.heap.size W10 W), Calls Try.prog 22 #[.slice x1 mx cx, .slice v1 mz cz] p.w fun e w'' => e = .returned (.bool true) ∧ ∃ q : WIn (fun W => Below W10.heap.size W10 W), w'' = q.w := fun p => by
      obtain ⟨-, -, ⟨c1, h1, h2⟩, -, h3⟩ := HZX.out.below p.ok
      obtain ⟨-, -, ⟨c2, k1, k2⟩, -, k3⟩ := HZ.out _ (b6 p)
      have := rec_SameRow _ _ c1 c2 C C p.w h1 h2 k1 k2 HCK2.out HCK2.out (by rw [h2.1]; have := HCLN.out; omega) (by rw [k2.1]; have := HCLN.out; omega)
      rw [sameRowM_refl] at this
      exact Calls.cls (C := fun W => Below W10.heap.size W10 W) (this.mono fun _ _ ⟨hq, hb⟩ => ⟨hq, p.ok.trans (hb.mono p.ok.size)⟩)
    have hc2 : ∀ p : WIn (fun W => Below W10.heap.size W10 W), Calls Try.prog 22 #[.slice y1 my cy, .slice v1 mz cz] p.w fun e w'' => e = .returned (.bool true) ∧ ∃ q : WIn (fun W => Below W10.heap.size W10 W), w'' = q.w := fun p => by
      obtain ⟨-, -, ⟨c1, h1, h2⟩, -, h3⟩ := HZ8.out.below (HB810.out.trans (p.ok.mono HB810.out.size))
      obtain ⟨-, -, ⟨c2, k1, k2⟩, -, k3⟩ := HZ.out _ (b6 p)
      have := rec_SameRow _ _ c1 c2 CM C p.w h1 h2 k1 k2 HMK.out HCK2.out (by rw [h2.1]; have := HMLN.out; omega) (by rw [k2.1]; have := HCLN.out; omega)
      rw [HSM.out] at this
      exact Calls.cls (C := fun W => Below W10.heap.size W10 W) (this.mono fun _ _ ⟨hq, hb⟩ => ⟨hq, p.ok.trans (hb.mono p.ok.size)⟩)
    have hc3 : ∀ p : WIn (fun W => Below W10.heap.size W10 W), Calls Try.prog 14 #[.agg #[.slice ya yn yc, .slice y1 my cy], .slice an qn cn] p.w fun e w'' => e = .returned (.int .i64 wv) ∧ ∃ q : WIn (fun W => Below W10.heap.size W10 W), w'' = q.w := fun p => by
      have := zone_Where (HZ8.out.below (HB810.out.trans (p.ok.mono HB810.out.size))) (HNW.out _ (b6 p)) HKN.out
      rw [hwy] at this
      exact Calls.cls (C := fun W => Below W10.heap.size W10 W) (this.mono fun _ _ ⟨hq, hb⟩ => ⟨hq, p.ok.trans (hb.mono p.ok.size)⟩)
    have hc4 : ∀ p : WIn (fun W => Below W10.heap.size W10 W), Calls Try.prog 14 #[.agg #[.slice za zn zc, .slice v1 mz cz], .slice an qn cn] p.w fun e w'' => e = .returned (.int .i64 wv) ∧ ∃ q : WIn (fun W => Below W10.heap.size W10 W), w'' = q.w := fun p => by
      have := zone_Where (HZ.out _ (b6 p)) (HNW.out _ (b6 p)) HKN.out
      rw [hwv] at this
      exact Calls.cls (C := fun W => Below W10.heap.size W10 W) (this.mono fun _ _ ⟨hq, hb⟩ => ⟨hq, p.ok.trans (hb.mono p.ok.size)⟩)
    have hc5 : ∀ p : WIn (fun W => Below W10.heap.size W10 W), Calls Try.prog 15 #[.agg #[.slice ya yn yc, .slice y1 my cy], .slice an qn cn] p.w fun e w'' => e = .returned (.bool ev) ∧ ∃ q : WIn (fun W => Below W10.heap.size W10 W), w'' = q.w := fun p => by
      have := zone_Exists (HZ8.out.below (HB810.out.trans (p.ok.mono HB810.out.size))) (HNW.out _ (b6 p)) HKN.out
      rw [hey] at this
      exact Calls.cls (C := fun W => Below W10.heap.size W10 W) (this.mono fun _ _ ⟨hq, hb⟩ => ⟨hq, p.ok.trans (hb.mono p.ok.size)⟩)
    have hc6 : ∀ p : WIn (fun W => Below W10.heap.size W10 W), Calls Try.prog 15 #[.agg #[.slice za zn zc, .slice v1 mz cz], .slice an qn cn] p.w fun e w'' => e = .returned (.bool ev) ∧ ∃ q : WIn (fun W => Below W10.heap.size W10 W), w'' = q.w := fun p => by
      have := zone_Exists (HZ.out _ (b6 p)) (HNW.out _ (b6 p)) HKN.out
      rw [hev] at this
      exact Calls.cls (C := fun W => Below W10.heap.size W10 W) (this.mono fun _ _ ⟨hq, hb⟩ => ⟨hq, p.ok.trans (hb.mono p.ok.size)⟩)
    have hne : Nonempty (WIn (fun W => Below W10.heap.size W10 W)) := ⟨⟨W10, Below.refl _ _⟩⟩
    clear f0 f1 b6 hwy hey hwv hev
    go_wp2_with fail
    clear hW10 hxb
    refine wp_region_cls (fun W => Below W10.heap.size W10 W) follows_mixed (by kernel_rfl) hcl ?_
    repeat (go_big_quiet_step (first | with_reducible exact hc1 _ | with_reducible exact hc2 _ | with_reducible exact hc3 _ | with_reducible exact hc4 _ | with_reducible exact hc5 _ | with_reducible exact hc6 _))
    refine wpQuiet_nil ?_
    rintro W11 ⟨p11, hp11⟩
    have hok := p11.ok
    rw [← hp11] at hok
    clear hp11 p11
    go_wp2
    go_ret
    exact ⟨by simp, HB6.out.trans ((HB10.out.trans (hok.mono HB10.out.size)).mono HB6.out.size)⟩
end Go.Proofs.Yteppgeiejknhoaa
