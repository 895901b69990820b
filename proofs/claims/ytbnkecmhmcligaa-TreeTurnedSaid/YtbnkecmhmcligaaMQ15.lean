/-
  A new tree of bool; Len, Has, Get, Kids, Deepest.
-/
import Derived.Test.YtbnkecmhmcligaaMQ25
import Derived.Test.YtbnkecmhmcligaaMQ06
import Derived.Test.YtbnkecmhmcligaaMQ39
import Derived.Test.YtbnkecmhmcligaaMQ43
import Derived.Test.YtbnkecmhmcligaaMQ22
import Derived.Test.YtbnkecmhmcligaaMQ32
import Derived.Test.YtbnkecmhmcligaaMQ12
namespace Go.Proofs.Ytbnkecmhmcligaa
set_option linter.unusedVariables false
set_option linter.unusedSimpArgs false
set_option maxRecDepth 20000
open Go.RowKit Go.Shelf Go.Maps Go.WideMaps
set_option maxRecDepth 20000
section
attribute [local go_sem] Oper.semAt_some
set_option maxRecDepth 100000 in
set_option maxHeartbeats 4000000 in
theorem tree_New_b (w : World) : Calls Try.prog 5 #[] w (NewPost 45 43 (.bool false) w) := by
  go_enter Try.func5, Try.ntmps5
  go_wp2
  go_ret
  refine ⟨⟨[[]], fun _ => w.heap.size, fun _ => none, fun _ => none⟩, rfl, TreS_nil_ok (knew w _), rfl, fun _ => rfl, fun k h => ?_, (Below.refl _ w).alloc (Nat.le_refl _) _⟩
  obtain ⟨p, _, e | e⟩ := h
  · exact Nat.le_of_eq e
  · cases e
end
end Go.Proofs.Ytbnkecmhmcligaa

/-
  Trees of bool: Len, Get, Kids.
-/
namespace Go.Proofs.Ytbnkecmhmcligaa
set_option linter.unusedVariables false
set_option linter.unusedSimpArgs false
set_option maxRecDepth 20000
open Go.RowKit Go.Shelf Go.Maps Go.WideMaps
set_option maxRecDepth 20000
section
attribute [local go_sem] Oper.semAt_some
set_option maxRecDepth 100000 in
set_option maxHeartbeats 4000000 in
theorem tree_Len_b (s : TreS) (w : World) (hT : TrM 45 43 (.bool false) w s (s.ks.length - 1)) (hsz : s.ks.length ≤ 549755813888) :
    Calls Try.prog 9 #[.pointer (some ⟨s.be [], 0, none⟩)] w (fun e w' => e = .returned (.int .i64 (s.ks.length : Int)) ∧ w' = w) := by
  have hnd := hT.node [] hT.ok.root
  have c3 := kcell hnd 3 _ (cellsT_more _ _ _)
  have hl := hT.len
  obtain ⟨m1, hm1⟩ : ∃ m, s.ks.length - 1 = m := ⟨_, rfl⟩
  rw [hm1] at c3
  have hm2 : m1 ≤ 549755813888 := by omega
  have HE : Hid ((s.ks.length : Int) = (m1 : Int) + 1) := Lib.hid (by omega)
  clear hT hnd hl hm1 hsz
  generalize s.be [] = B at *
  go_enter Try.func9, Try.ntmps9
  go_wp2
  go_ret
  exact ⟨by rw [HE.out]; rfl, rfl⟩
set_option maxRecDepth 100000 in
set_option maxHeartbeats 4000000 in
theorem tree_Kids_b (s : TreS) (more : Nat) (vn : Value) (n : Nm) (w : World) (hT : TrM 45 43 (.bool false) w s more) (hA : NmAt w vn n) (hk : NmOK n) (hsz : s.ks.length ≤ 549755813888) :
    Calls Try.prog 11 #[.pointer (some ⟨s.be [], 0, none⟩), vn] w (KidsPost s.ks (wayN n) w) := by
  have hd := tree_deepest_b s more vn n _ rfl w hT hA hk
  obtain ⟨a, c, rfl, -⟩ := id hA.1
  have hwl := wayN_len n
  obtain ⟨k1, hk1⟩ : ∃ k, n.length = k := ⟨_, rfl⟩
  rw [hk1] at hd hwl ⊢
  have HD := Lib.hid hd; have HWL := Lib.hid hwl; have HT := Lib.hid hT; have HS := Lib.hid hsz
  clear hT hA hk hd hwl hsz
  generalize hB : s.be [] = B at HD ⊢
  clear hB
  go_enter Try.func11, Try.ntmps11
  go_wp2_with fail
  refine HD.out.mono ?_
  rintro e w1 ⟨d, rfl, hd, hb⟩
  by_cases e : d < k1
  · have hno : wayN n ∉ s.ks := fun h => by have := hd.full.2 h; have := HWL.out; omega
    have hne : (d : Int) < (k1 : Int) := by omega
    have HB := Lib.hid hb; have HN := Lib.hid hno
    clear hd hb hno HWL HD HT e
    generalize s.be _ = nb at *
    go_wp2
    go_ret
    exact .inr ⟨HN.out, rfl, HB.out⟩
  · have he : d = k1 := by have := hd.1; have := HWL.out; omega
    subst he
    have hin : wayN n ∈ s.ks := hd.full.1 HWL.out.symm
    have htk : (wayN n).take d = wayN n := by rw [← HWL.out, List.take_length]
    rw [htk]
    have hlb := node_labels_b s more (wayN n) w1 (HT.out.below hb) hin HS.out
    have hne : ¬ (d : Int) < (d : Int) := by omega
    have HB := Lib.hid hb; have HN := Lib.hid hin
    clear hd hb hin htk HWL HD HT e
    generalize s.be (wayN n) = nb at *
    go_wp2_with fail
    refine hlb.mono ?_
    rintro e w2 hl
    obtain ⟨v, ss, rfl, h1, h2, h3, h4⟩ := hl
    obtain ⟨av, cv, rfl⟩ := h3.shape
    obtain ⟨lv, hlv⟩ : ∃ l, ss.length = l := ⟨_, rfl⟩
    rw [hlv] at h3 ⊢
    have H1 := Lib.hid h1; have H2 := Lib.hid h2; have H3 := Lib.hid h3; have H4 := Lib.hid h4
    clear h1 h2 h3 h4 hlv hlb
    go_wp2
    go_ret
    exact .inl ⟨HN.out, LabPost.below ⟨_, ss, rfl, H1.out, H2.out, H3.out, H4.out⟩ HB.out⟩
end
end Go.Proofs.Ytbnkecmhmcligaa

/-
  (*Tree[bool]).Put.
-/
namespace Go.Proofs.Ytbnkecmhmcligaa
set_option linter.unusedVariables false
set_option linter.unusedSimpArgs false
set_option maxRecDepth 20000
open Go.RowKit Go.Shelf Go.Maps Go.WideMaps
set_option maxRecDepth 20000
section
attribute [local go_sem] Oper.semAt_some
set_option maxRecDepth 100000 in
set_option maxHeartbeats 8000000 in
theorem tree_PutB_b (s : TreS) (vn v : Value) (n m : Nm) (hm : foldN n = m) (w : World) (hT : TrM 45 43 (.bool false) w s (s.ks.length - 1)) (hA : NmAt w vn n) (hk : NmBig n) (hv : ∃ x, v = .bool x) (hsz : s.ks.length ≤ 281474976710656) :
    Calls Try.prog 7 #[.pointer (some ⟨s.be [], 0, none⟩), vn, v] w (PutPost 45 43 (.bool false) s (wayN n) v w) := by
  have hw : wayN n = (List.finRange m.length).reverse.map (fun x => m[x]) := by
    unfold wayN
    rw [hm, List.map_reverse]
    congr 1
    apply List.ext_getElem (by simp)
    intro j h1 h2
    simp
  have hml : m.length = n.length := by rw [← hm, foldN_len]
  have hkl := hk.1
  have hmk : ∀ x ∈ m, x.length ≤ 140737488351232 ∧ foldL x = x := by
    rw [← hm]; intro x hx
    obtain ⟨y, hy, rfl⟩ := List.mem_map.1 hx
    exact ⟨by rw [foldL_len]; exact hk.2 y hy, foldL_idem y⟩
  obtain ⟨a, c, rfl, -⟩ := id hA.1
  obtain ⟨k1, hk1⟩ : ∃ k, n.length = k := ⟨_, rfl⟩
  rw [hk1] at hA ⊢
  obtain ⟨B, hB⟩ : ∃ B, s.be [] = B := ⟨_, rfl⟩
  obtain ⟨W0, hW0⟩ : ∃ W0, (w.alloc (.cells #[.pointer (some ⟨B, 0, none⟩)] 24)).alloc (.cells #[.pointer (some ⟨B, 0, none⟩)] 46) = W0 := ⟨_, rfl⟩
  have hB0 : Below w.heap.size w W0 := by rw [← hW0]; exact ((Below.refl w.heap.size w).alloc (Nat.le_refl _) _).alloc (by simp) _
  have hz0 : W0.heap.size = w.heap.size + 2 := by rw [← hW0]; simp
  have b3 : Boxed W0 w.heap.size 24 (.pointer (some ⟨B, 0, none⟩)) := by rw [← hW0]; exact (Boxed.new w _ _).alloc _
  have b6 : Boxed W0 (w.heap.size + 1) 46 (.pointer (some ⟨B, 0, none⟩)) := by
    have h := Boxed.new (w.alloc (.cells #[.pointer (some ⟨B, 0, none⟩)] 24)) 46 (.pointer (some ⟨B, 0, none⟩))
    rw [World.size_alloc] at h
    rw [← hW0]; exact h
  have HT := Lib.hid hT; have HA := Lib.hid hA; have HK := Lib.hid hk; have HM := Lib.hid hm; have HML := Lib.hid hml; have HMK := Lib.hid hmk; have HB := Lib.hid hB; have HB0 := Lib.hid hB0; have HZ0 := Lib.hid hz0; have HB3 := Lib.hid b3; have HB6 := Lib.hid b6; have HSZ := Lib.hid hsz; have HKL := Lib.hid hkl; have HW := Lib.hid hw
  rw [hB]
  clear hT hA hk hm hml hmk hB hB0 hz0 b3 b6 hsz hkl hw
  refine (callsIn_wide (n := 9)).1 ?_
  refine callsIn_of_wp_marks Try.func7 rfl trivial ?_ rfl
  simp only [Try.ntmps7, List.size_toArray, List.length_cons, List.length_nil, Nat.reduceAdd, Nat.reduceSub, Array.replicate_succ, Array.replicate_zero, List.push_toArray, List.append_toArray, List.nil_append, List.cons_append]
  refine wpIn_wide.2 ?_
  go_wp2_with fail
  clear hW0
  refine (tree_downward _ _ _ _).mono ?_
  rintro e w2 ⟨rfl, rfl⟩
  go_wp2
  refine (wpIn_wide (n := 9)).1 ?_
  obtain ⟨W2, hW2⟩ : ∃ W2, W0.alloc (.cells #[.slice a k1 c] 28) = W2 := ⟨_, rfl⟩
  have hb2 : Below W0.heap.size W0 W2 := by rw [← hW2]; exact (Below.refl _ W0).alloc (Nat.le_refl _) _
  have hz2 : W2.heap.size = w.heap.size + 3 := by rw [← hW2]; simp; exact HZ0.out
  have x4 : Boxed W2 W0.heap.size 28 (.slice a k1 c) := by rw [← hW2]; exact Boxed.new W0 _ _
  have hbw : Below w.heap.size w W2 := HB0.out.trans (hb2.mono HB0.out.size)
  have hA2 := HA.out.below hbw
  have hI0 : PutI 45 43 46 24 (.bool false) w s [] W2 :=
    ⟨s, HT.out.below hbw, rfl, rfl, rfl, fun k h => .inl h, Chg.of_below hbw, by rw [HB.out]; exact (hb2.block _ HB3.out.lt).trans HB3.out, by rw [HB.out]; exact (hb2.block _ HB6.out.lt).trans HB6.out⟩
  rw [hW2]
  have HZ2 := Lib.hid hz2
  clear hW2 hb2 hz2 hbw
  refine wpIn_rangeFunc_T rfl (by omega) (gf := 31) (lb := #[.pointer (some ⟨W0.heap.size, 0, none⟩)]) rfl trivial (enters_of Try.func31 (by kernel_rfl) rfl)
    (down_stopsB _ W0.heap.size (.slice a k1 c) n m HM.out HK.out W2 x4 hA2) keepTy_t keepTy_b (Below.refl _ _) (fun _ => rfl)
    (fun pre W => PutI 45 43 46 24 (.bool false) w s (pre.map (fun x => m[x])) W)
    (fun _ _ _ => False)
    (putI_own (B := W2.heap.size) (fun pre : List (Fin m.length) => pre.map (fun x => m[x])) (by rw [HZ2.out]; omega)) (fun _ _ _ _ _ h _ _ => h.elim)
    hI0
    (fun x => { tmps := #[.pointer (some ⟨B, 0, none⟩), .slice a k1 c, v, .pointer (some ⟨w.heap.size, 0, none⟩), undef, undef, .pointer (some ⟨w.heap.size + 1, 0, none⟩), strV m[x], undef, .pointer (some ⟨B, 0, none⟩), .pointer (some ⟨B, 0, none⟩), .pointer (some ⟨B, 0, none⟩), .slice a k1 c, .func (.func 31) #[] #[.pointer (some ⟨W0.heap.size, 0, none⟩)], strV m[x], undef, undef, undef, undef, undef, undef, undef, undef, undef, undef, undef, undef, undef, undef, undef, undef, undef, undef, undef, undef, undef, undef, undef, undef, undef, undef, undef, undef, undef], defers := [] }) ?assign ?body ?done ?stop
  case assign =>
    intro l x W K hK
    unfold dwV
    gi_wp2
    exact hK
  case body =>
    rintro l' pre x W hl' ⟨rec, hrec⟩ ⟨s1, h1, h2, h3, h4, h5, h6, h7, h8⟩ hlt
    obtain ⟨l, hl⟩ : ∃ l, m[x] = l := ⟨_, rfl⟩
    have hml := HMK.out l (hl ▸ List.getElem_mem x.isLt)
    have hsn : (pre ++ [x]).map (fun x => m[x]) = pre.map (fun x => m[x]) ++ [l] := by rw [List.map_append, ← hl]; rfl
    have hql : (pre.map (fun x => m[x])).length ≤ 8796093021952 := by rw [List.length_map]; have := HML.out; have := HKL.out; omega
    rw [hl]
    generalize pre.map (fun x => m[x]) = q at *
    have hqm : q ∈ s1.ks := by rw [h2]; exact addK_self HT.out.ok.root q
    have hlen : s1.ks.length ≤ 290271069732864 := by rw [h2]; have := addK_len s.ks q; have := HSZ.out; omega
    have hlk := h1.look hqm l (by unfold maxLen; omega) Try.underlying41 zeroPtr_b
    have hnd := h1.node q hqm
    have c0 := kcell hnd 0 _ (cellsT_map _ _ _ _)
    have c6 := h8.cell; have f6 := h8.frozen
    have HSN := Lib.hid hsn
    obtain ⟨sv, hsv⟩ : ∃ sv, strV l = sv := ⟨_, rfl⟩
    unfold kidV at hlk
    by_cases hin : q ++ [l] ∈ s1.ks
    · rw [if_pos hin, hsv] at hlk
      have HF := Lib.hid (PutI.found h1 h2 h3 h4 h5 h6 h7 h8 (by decide) (by decide) hin)
      have HY := Lib.hid (setBox_ty (u := .pointer (some ⟨s1.be (q ++ [l]), 0, none⟩)) h8 (by unfold KTy; decide))
      rw [hsv]
      clear h1 h2 h3 h4 h5 h6 h7 h8 hnd hrec hqm hsn hlt hml hsv
      generalize s1.be q = nb at *
      generalize s1.be (q ++ [l]) = K1 at *
      generalize s1.mb q = mo at *
      gi_wp2
      refine ⟨KeepsOthers.t (KeepsOthers.setCell _ _ _) _, HY.out, ?_⟩
      show PutI _ _ _ _ _ _ _ (List.map (fun x => m[x]) (pre ++ [x])) _
      rw [HSN.out]; exact HF.out
    · rw [if_neg hin, hsv] at hlk
      obtain ⟨D, d1, d2, d3, d4⟩ := h1.kidsD hqm
      have hadd := node_add_b (s1.be q) W.heap.size _ _ l (s1.mb q) s1.ks.length D (W.alloc (.cells #[.map none, (.bool false), .bool false] 43)) ((Below.heap_alloc _ _ _ (kblock_lt hnd)).trans hnd) (cellsT_map _ _ _ _) (fun m' e => (d1 m' e).alloc _) d2 hml.1 (by omega)
      rw [hsv] at hadd ⊢
      have c6b := (Boxed.alloc h8 (.cells #[.map none, (.bool false), .bool false] 43)).cell
      have HADD := Lib.hid (fun (W2 : World) (e : Ending) (hp : AddPost (s1.be q) W.heap.size (cellsT (.bool false) s1 (s1.ks.length - 1) q) (tyT 45 43 q) l (s1.mb q) s1.ks.length D (W.alloc (.cells #[.map none, (.bool false), .bool false] 43)) e W2) => (by
        obtain ⟨m', hA'⟩ := h1.added hqm hp
        obtain ⟨cs, g1, g2, _, _⟩ := hA'.root h1 hqm
        have g3 := hA'.keep h1 hqm h7 (boxNot (by decide) (by decide))
        have g6 := hA'.keep h1 hqm h8 (boxNot (by decide) (by decide))
        rw [h4] at g1
        exact (⟨hp.1, kcell g1 3 _ g2, kfrozen g1 3, Boxed.cell g3, Boxed.cell g6, Boxed.frozen g6, PutI.made h1 h2 h3 h4 h5 h6 h7 h8 (by decide) (by decide) (by decide) (by decide) hqm hin hml.2 (by have := hml.1; unfold maxLen; omega) d3 d4 hA'⟩ :
          (∃ x, e = .returned x) ∧ W2.cell? ⟨s.be [], 3, none⟩ = some (.int .i64 ((s1.ks.length - 1 : Nat) : Int)) ∧ W2.frozen? ⟨s.be [], 3, none⟩ = false ∧ W2.cell? ⟨w.heap.size, 0, none⟩ = some (.pointer (some ⟨s.be [], 0, none⟩)) ∧ W2.cell? ⟨w.heap.size + 1, 0, none⟩ = some (.pointer (some ⟨s1.be q, 0, none⟩)) ∧ W2.frozen? ⟨w.heap.size + 1, 0, none⟩ = false ∧ _)))
      have HB8 := Lib.hid h8
      obtain ⟨mo1, hmo1⟩ : ∃ mo1, s1.ks.length - 1 = mo1 := ⟨_, rfl⟩
      have hmo2 : mo1 ≤ 290271069732864 := by omega
      rw [hmo1, HB.out] at HADD
      rw [hmo1] at hadd
      clear h1 h2 h3 h4 h5 h6 h7 h8 hnd hrec hqm hsn hlt hml hsv d1 d2 d3 d4 hin hmo1 hlen
      generalize s1.be q = nb at *
      generalize s1.mb q = mo at *
      generalize cellsT (.bool false) s1 mo1 q = cs1 at *
      generalize s1.ks.length = kl at *
      gi_wp2_with (refine ⟨trivial, ?_⟩; gi_at_call 21; refine (CallsIn.inRound l' (callsIn_wide.2 hadd)).mono ?_; intro e W3 hp; obtain ⟨⟨x0, rfl⟩, e1, e2, e3, e4, e5, e6⟩ := HADD.out W3 e hp; have HE6 := Lib.hid e6; clear hp e6)
      obtain ⟨g1, g2, g3⟩ := HE6.out
      obtain ⟨r1, r2⟩ := rest_keeps g2 g3 HB8.out (by unfold KTy; decide) (by unfold KTy; decide) (by unfold KTy; decide) W2.heap.size
      refine ⟨r1, r2, ?_⟩
      show PutI _ _ _ _ _ _ _ (List.map (fun x => m[x]) (pre ++ [x])) _
      rw [HSN.out]; exact g1
  case done =>
    rintro D xs W hD rfl hI hKD
    have hI' : PutI 45 43 46 24 (.bool false) w s (wayN n) W := by rw [HW.out]; exact hI
    obtain ⟨s1, h1, h2, h3, h4, h5, h6, h7, h8⟩ := hI'
    have hqm : wayN n ∈ s1.ks := by rw [h2]; exact addK_self HT.out.ok.root _
    have hnd := h1.node _ hqm
    have c6 := h8.cell
    have c1 := kcell hnd 1 _ (cellsT_val _ _ _ _)
    have c2 := kcell hnd 2 _ (cellsT_giv _ _ _ _)
    have f1 := kfrozen hnd 1; have f2 := kfrozen hnd 2
    have HF : Hid (PutPost 45 43 (.bool false) s (wayN n) v w (.returned (.tuple #[])) (((W.setCell ⟨s1.be (wayN n), 1, none⟩ v).setCell ⟨s1.be (wayN n), 2, none⟩ (.bool true)).drew.putObj D (.deferred none))) := Lib.hid (by
      have hDf : ¬ foot s1 D := h1.not_foot hKD (Plain.notTr ⟨rfl, rfl⟩ _ _)
      have g := ((h1.give hqm v).move (W' := ((W.setCell ⟨s1.be (wayN n), 1, none⟩ v).setCell ⟨s1.be (wayN n), 2, none⟩ (.bool true)).drew) (fun k _ => rfl)).grown (grownBy_putObj' _ D (.deferred none)) (fun k e => by cases e; exact hDf)
      refine ⟨⟨_, rfl⟩, s1.give (wayN n) v, g, h2, fun q => ?_, h4, h5, ?_⟩
      · show (if q = wayN n then some v else s1.vl q) = _
        rw [h3]
      · have hf := h5 (s1.be (wayN n)) ⟨_, hqm, .inl rfl⟩
        exact (((h6.set _ 1 _ hf).set _ 2 _ hf).trans (Chg.of_below ((Below.refl _ _).drew) : Chg (fun _ => False) _ _) (fun _ _ h => h.elim)).trans (Chg.of_grown (grownBy_putObj' _ D (.deferred none)) (fun k e => .inl e) : Chg (fun k => some D = some k) _ _) (fun i hi e => by injection e with e; have := HZ2.out; omega))
    obtain ⟨u1, hu1⟩ : ∃ u, (s1.vl (wayN n)).getD (.bool false) = u := ⟨_, rfl⟩
    rw [hu1] at c1
    have HKD : Hid ((((W.setCell ⟨s1.be (wayN n), 1, none⟩ v).setCell ⟨s1.be (wayN n), 2, none⟩ (.bool true)).drew).heap[D]? = some (.deferred (some []))) := Lib.hid (by
      have hDn : D ≠ s1.be (wayN n) := fun e => h1.not_foot hKD (Plain.notTr ⟨rfl, rfl⟩ _ _) ⟨_, hqm, .inl e.symm⟩
      exact ((Below.heap_setCell _ ⟨s1.be (wayN n), 2, none⟩ _ _ hDn).trans (Below.heap_setCell _ ⟨s1.be (wayN n), 1, none⟩ _ _ hDn)).trans hKD)
    obtain ⟨vi, rfl⟩ := hv
    clear hI h1 h2 h3 h4 h5 h6 h7 h8 hqm hnd hKD hu1
    generalize s1.be (wayN n) = nb at *
    go_wp2
    go_region
    refine ⟨by simp, .inl ⟨_, _, rfl, run_takeDeferred HKD.out, ?_⟩⟩
    exact ⟨_, results_none rfl _ _ _, HF.out⟩
  case stop =>
    rintro D c2 pre W hD hp h _
    exact h.elim
theorem tree_Put_b (s : TreS) (vn v : Value) (n m : Nm) (hm : foldN n = m) (w : World) (hT : TrM 45 43 (.bool false) w s (s.ks.length - 1)) (hA : NmAt w vn n) (hk : NmOK n) (hv : ∃ x, v = .bool x) (hsz : s.ks.length ≤ 549755813888) :
    Calls Try.prog 7 #[.pointer (some ⟨s.be [], 0, none⟩), vn, v] w (PutPost 45 43 (.bool false) s (wayN n) v w) :=
  tree_PutB_b s vn v n m hm w hT hA hk.big hv (by omega)
end
end Go.Proofs.Ytbnkecmhmcligaa

