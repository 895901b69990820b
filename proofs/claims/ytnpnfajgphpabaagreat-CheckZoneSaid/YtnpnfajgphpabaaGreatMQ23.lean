import Derived.Deep.RegionHeld3
import Derived.Test.YtnpnfajgphpabaaGreatMQ41
import Derived.Test.YtnpnfajgphpabaaGreatMQ03
namespace Go.Proofs.YtnpnfajgphpabaaGreat
set_option maxRecDepth 20000
open Go.RowKit Go.Shelf
def RowC (W : World) (v : Value) (l : List Rc) : Prop := ∃ css, SlK W v css ∧ Rcs W css l
theorem RowC.below {W W' : World} {v : Value} {l : List Rc} (h : RowC W v l) (hb : Below W.heap.size W W') : RowC W' v l := by
 obtain ⟨css, h1, h2⟩ := h
 exact ⟨css, h1.below hb, h2.below hb⟩
theorem RowS.below {W W' : World} {v : Value} {l : List St} (h : RowS W v l) (hb : Below W.heap.size W W') : RowS W' v l := by
 obtain ⟨csd, h1, h2, h3⟩ := h
 exact ⟨csd, h1.below hb, h2, fun j a b => (h3 j a b).below hb⟩
theorem RowS.shape {W : World} {v : Value} {l : List St} (h : RowS W v l) : ∃ a c, v = .slice a l.length c := by
 obtain ⟨csd, ⟨a, c, e, _⟩, h2, _⟩ := h
 exact ⟨a, c, by rw [e, h2]⟩
theorem RowS.elem {W : World} {a : Option Addr} {n c : Nat} {l : List St} (h : RowS W (.slice a n c) l) (h0 : 0 < l.length) : ∃ b off, a = some ⟨b, off, none⟩ ∧ b < W.heap.size ∧
 ∀ k (hk : k < l.length), ∃ (x0 x3 : Option Addr × Nat × Nat), SetR W [.slice x0.1 x0.2.1 x0.2.2, .int .i64 l[k].ty, .int .u32 (l[k].ttl : Int), .slice x3.1 l[k].data.length x3.2.2] l[k] ∧
  ∀ W', Below W.heap.size W W' → W'.cell? ⟨b, off + k * 4, none⟩ = some (.slice x0.1 x0.2.1 x0.2.2) ∧ W'.cell? ⟨b, off + k * 4 + 1, none⟩ = some (.int .i64 l[k].ty) ∧ W'.cell? ⟨b, off + k * 4 + 2, none⟩ = some (.int .u32 (l[k].ttl : Int)) ∧ W'.cell? ⟨b, off + k * 4 + 3, none⟩ = some (.slice x3.1 l[k].data.length x3.2.2) := by
 obtain ⟨csd, h1, h2, h3⟩ := h
 obtain ⟨b, off, e, hb, hel⟩ := h1.elem4 (fun cs hc => by
  obtain ⟨i, hi, rfl⟩ := List.mem_iff_getElem.1 hc
  obtain ⟨x0, x3, ds, e, _⟩ := h3 i hi (by omega)
  rw [e]; rfl) (by omega)
 refine ⟨b, off, e, hb, fun k hk => ?_⟩
 have hk1 : k < csd.length := by omega
 have hs := h3 k hk1 hk
 obtain ⟨x0, x3, ds, e2, q1, q2, q3, q4⟩ := id hs
 have hl : x3.2.1 = l[k].data.length := by
  obtain ⟨_, _, e3, _⟩ := id q2
  injection e3 with _ e3 _
  rw [e3, q3]
 rw [hl] at e2
 rw [e2] at hs
 exact ⟨x0, x3, hs, fun W' hB => hel k hk1 _ _ _ _ e2 W' hB⟩
theorem SetR.shape {W : World} {cs : List Value} {s : St} (h : SetR W cs s) : ∃ (x0 x3 : Option Addr × Nat × Nat), cs = [.slice x0.1 x0.2.1 x0.2.2, .int .i64 s.ty, .int .u32 (s.ttl : Int), .slice x3.1 s.data.length x3.2.2] := by
 obtain ⟨x0, x3, ds, e, q1, q2, q3, q4⟩ := h
 refine ⟨x0, x3, ?_⟩
 rw [e]
 obtain ⟨_, _, e4, _⟩ := id q2
 injection e4 with _ e4 _
 rw [e4, q3]
theorem knewD (W : World) (o : Obj) : ((W.alloc o).drew).heap[W.heap.size]? = some o := knew W o
end Go.Proofs.YtnpnfajgphpabaaGreat
namespace Go.Proofs.YtnpnfajgphpabaaGreat
set_option maxRecDepth 100000
set_option maxHeartbeats 16000000
open Go.RowKit Go.Shelf
def FarKeep (n : Nat) (W W' : World) : Prop := ∀ g, n ≤ g → g < W.heap.size → W'.heap[g]? = W.heap[g]?
theorem FarKeep.mono {n m : Nat} {W W' : World} (h : FarKeep n W W') (hm : n ≤ m) : FarKeep m W W' := fun g h1 h2 => h g (by omega) h2
theorem qgH {W W' : World} {base : Nat} {T : TypeId} {k n : Nat} {v : Value} {cells : List Value} (h : W.ownsRow base T k v n cells) (hf : FarKeep base W W') : W'.ownsRow base T k v n cells := by
 refine ⟨h.1, ?_⟩
 rcases h.2 with h | ⟨g, cap, cur, e, hb, hg, h2⟩
 ·exact .inl h
 ·exact .inr ⟨g, cap, cur, e, hb, (hf g hb (qaa hg)).trans hg, h2⟩
theorem OwnK.move {α : Type} {k : Nat} {T : TypeId} {enc : α → List Value} {W W' : World} {base : Nat} {v : Value} {xs : List α} (h : OwnK k T enc W base v xs) (hf : FarKeep base W W') : OwnK k T enc W' base v xs := qgH h hf
theorem OwnG.move {α : Type} {T : TypeId} {enc : α → Value} {W W' : World} {base : Nat} {v : Value} {xs : List α} (h : OwnG T enc W base v xs) (hf : FarKeep base W W') : OwnG T enc W' base v xs := qgH h hf
theorem FrAt.move {W W' : World} {base : Nat} {cs : List Value} {r : Rc} (h : FrAt W base cs r) (hf : FarKeep base W W') : FrAt W' base cs r := by
 obtain ⟨vo, vn, vu, vt, vr, e, h1, ⟨⟨vs, k1, k2, k3⟩, i1, i2, i3⟩⟩ := h
 exact ⟨vo, vn, vu, vt, vr, e, h1.move hf, ⟨⟨vs, k1.move hf, k2, fun i a b => (k3 i a b).move hf⟩, i1.move hf, i2.move hf, i3.move hf⟩⟩
def qcy (w : World) (l : List St) (e : Ending) (w' : World) : Prop := ∃ v, e = .returned v ∧ RowS w' v l ∧ Below w.heap.size w w' ∧ ∀ W', FarKeep w.heap.size w' W' → RowS W' v l
section
attribute [local go_sem] Oper.semAt_some
theorem qis (v : Value) (css0 : List (List Value)) (l : List Rc) (w : World) (hA : SlK w v css0) (hR : Rcs w css0 l) (hOK : ∀ r ∈ l, RcOK r) (hl : css0.length ≤ 1048576) :
 Calls Tryz.prog 47 #[v] w (qcy w (setsM (canonM l))) := by
 have hb0 : Below w.heap.size w (w.alloc (.cells #[.slice none 0 0] 58)) := (Below.refl _ w).alloc (qN0) _
 have hC := qdr v css0 l (w.alloc (.cells #[.slice none 0 0] 58)) (hA.below hb0) (hR.below hb0) hOK hl
 have HL := qH0 (show l.length ≤ 1048576 by have := hR.1; omega)
 have HOK := qH0 (qbv l hOK)
 obtain ⟨a, c, rfl, -⟩ := id hA
 obtain ⟨n0, hn0⟩ : ∃ n, css0.length = n := ⟨_, rfl⟩
 rw [hn0] at hC ⊢
 obtain ⟨L, hL⟩ : ∃ L, canonM l = L := ⟨_, rfl⟩
 have HLn := qH0 (show L.length ≤ 1048576 by rw [← hL]; have := qaD l; have := HL.out; omega)
 unfold qcA at hC
 rw [hL] at hC HOK ⊢
 clear hA hR hOK hl hn0 hb0 hL HL
 refine (callsIn_wide (n := 8)).1 ?_
 refine callsIn_of_wp_marks Tryz.func47 rfl trivial ?_ rfl
 simp only [Tryz.ntmps47, List.size_toArray, List.length_cons, List.length_nil, Nat.reduceAdd, Nat.reduceSub, Array.replicate_succ, Array.replicate_zero, List.push_toArray, List.append_toArray, List.nil_append, List.cons_append]
 gi_wp2_with (refine ⟨trivial, ?_⟩; gi_at_call 24; refine (callsIn_wide.2 hC).mono ?_; rintro e w1 ⟨v1, css, rfl, ho1, hl1, hf1, hb1⟩; obtain ⟨a1, c1, rfl⟩ := OwnK.shape ho1; obtain ⟨m, hm⟩ : ∃ m, css.length = m := ⟨_, rfl⟩; rw [hm] at ho1 hl1; have HO1 := qH0 ho1; have HL1 := qH0 hl1; have HF1 := qH0 hf1; have HB1 := qH0 hb1; have HM := qH0 hm; clear ho1 hl1 hf1 hb1 hC)
 refine ⟨trivial, ?_⟩
 refine (callsIn_wide.2 (qfz _ _ _ _)).mono ?_
 rintro e w2 ⟨rfl, rfl⟩
 gi_wp2
 obtain ⟨B, hB⟩ : ∃ B, w.heap.size = B := ⟨_, rfl⟩
 have hB1 : (w.alloc (.cells #[.slice none 0 0] 58)).heap.size = B + 1 := by rw [World.size_alloc, hB]
 obtain ⟨W0, hW0⟩ : ∃ W0, w1.alloc (.cells #[.slice a1 m c1] 24) = W0 := ⟨_, rfl⟩
 obtain ⟨N, hN⟩ : ∃ N, W0.heap.size = N := ⟨_, rfl⟩
 have hsz : N = w1.heap.size + 1 := by rw [← hN, ← hW0]; simp
 have hs1 : B + 1 ≤ w1.heap.size := by rw [← hB1]; exact HB1.out.size
 have hBx : Boxed w1 B 58 (.slice none 0 0) := by
  have h := Boxed.new w 58 (.slice none 0 0)
  rw [hB] at h
  exact (HB1.out.block B (by omega)).trans h
 have hw1 : Below w.heap.size w w1 := (((Below.refl _ w).alloc (qN0) _).trans (HB1.out.mono (by simp)))
 have hB01 : Below w1.heap.size w1 W0 := by rw [← hW0]; exact (Below.refl _ w1).alloc (qN0) _
 have b1 : Boxed W0 w1.heap.size 24 (.slice a1 m c1) := by rw [← hW0]; exact Boxed.new w1 _ _
 have hBx0 : Boxed W0 B 58 (.slice none 0 0) := (hB01.block B (by omega)).trans hBx
 have hw0 : Below w.heap.size w W0 := hw1.trans (hB01.mono (by omega))
 have hml : m = L.length := HL1.out
 have hmb : m ≤ 1048576 := by have := HLn.out; omega
 have hfr : ∀ j (h1 : j < css.length) (h2 : j < L.length), FrAt W0 (B + 1) css[j] L[j] := fun j h1 h2 => by
  have h := (HF1.out j h1 h2).below hB01
  rw [hB1] at h; exact h
 have hst : ∀ W, KpX N B W0 W → Rcs W css L := fun W hK => ⟨by rw [hm]; exact hml, fun i h1 h2 => ((hfr i h1 h2).keptX (by omega) (hK.grownX hN.symm)).rcAt⟩
 have HST2 := qH0 (fun W (hK : KpX N B W0 W) W' (hg : FarKeep (B + 1) W W') => (show Rcs W' css L from ⟨by rw [hm]; exact hml, fun i h1 h2 => (((hfr i h1 h2).keptX (by omega) (hK.grownX hN.symm)).move hg).rcAt⟩))
 have hsl : SlK W0 (.slice a1 m c1) css := (SlK.of_own HO1.out (fun cs hc => by
  obtain ⟨i, hi, rfl⟩ := List.mem_iff_getElem.1 hc
  exact (HF1.out i hi (by omega)).rcAt.len)).below hB01
 have hown : ∀ b, (Value.slice a1 m c1).ownBlock = some b → b ≠ B := fun b e => by
  have := OwnK.base_le HO1.out b e
  rw [hB1] at this; omega
 obtain ⟨vo, vn, vu, vt, vr, hc⟩ := qeY (hst W0 (KpX.refl _ _ _))
 have HSEQ := qH0 (qeW N B W0 a1 m c1 w1.heap.size css L vo vn vu vt vr hsl hm hmb hst HOK.out hN.symm (by omega) (by omega) hown b1 hc)
 rw [hB, hW0]
 have HSZ := qH0 hsz; have HS1 := qH0 hs1; have HW0 := qH0 hw0; have HB := qH0 hB; have HN := qH0 hN; have HST := qH0 hst; have HMB := qH0 hmb; have HCC := qH0 hc; have HMM := qH0 hm
 clear hsz hs1 hw0 hBx hw1 hB01 b1 HB1 hW0 hB hN hst hmb hc hfr hsl hown hml HF1 HO1 hB1 hm
 refine qck rfl (by omega) (gf := 96) (lb := #[.pointer (some ⟨w1.heap.size, 0, none⟩)]) rfl trivial (enters_of Tryz.func96 (by kernel_rfl) rfl)
  HSEQ.out (fun h k => h.trans k)
  (fun W l o o' hl h h1 h2 => ⟨rfl, rfl, rfl, by simp, fun k a b => World.putObj_heap_other (by have := HN.out; omega)⟩) (qL0) (fun _ => rfl)
  (SetI N B W0 css vo L) (fun k pre W => False) (by rw [HN.out]; exact qkN (by have := HSZ.out; have := HS1.out; omega) (by rw [HN.out]; omega)) (fun _ => ownFrom_pure _ _)
  ⟨KpX.refl _ _ _, .slice none 0 0, hBx0, OwnK.nil _ _, fun x h => by cases h⟩
  (fun x a' W => ∃ b, a' = { tmps := #[.slice a n0 c, undef, .slice none 0 0, .pointer (some ⟨B, 0, none⟩), .pointer (some ⟨b, 0, none⟩), .slice a n0 c, .slice a1 m c1, .func (.func 96) #[] #[.pointer (some ⟨w1.heap.size, 0, none⟩)], .agg (setC vo L x).toArray, undef, undef, undef, undef, undef], defers := [] } ∧ W0.heap.size ≤ b ∧ W.heap[b]? = some (.cells (setC vo L x).toArray 67) ∧ DatO N css x W)
  (fun a' x W W' row ⟨b, ha, hb, hx, hd⟩ hg hr => ⟨b, ha, hb, (hg.block b (qaa hx) (fun e => by obtain ⟨_, o, ho, hcell⟩ := hr b e.symm; rw [hx] at ho; cases ho; cases hcell)).trans hx, hd.keptO hg (fun r e => (hr r e).2)⟩) ?assign ?body ?done ?stop
 case assign =>
  intro l pre x W K hi hd hK
  have hNW : N ≤ W.heap.size := by rw [← HN.out]; exact hi.1.size
  have hbA : ∀ o, Below W.heap.size W (W.alloc o) := fun o => (Below.refl _ W).alloc (qN0) o
  unfold setV
  gi_wp2
  exact hK _ _ ((KeepsOthers.of_below (hbA _)).from _) (KpX.of_below hNW (hbA _)) ⟨hi.1.trans (KpX.of_below hNW (hbA _)), hi.2.below (hbA _)⟩ ⟨W.heap.size, rfl, by rw [HN.out]; exact hNW, knew W _, OwnK.below hd (hbA _)⟩
 case body =>
  rintro l pre x a' W ⟨hK, v, h2, h3, h4⟩ ⟨b, rfl, hb, hbx, hdx⟩ hlt
  have hNW : N ≤ W.heap.size := by rw [← HN.out]; exact hK.size
  obtain ⟨ao, co, rfl⟩ := OwnK.shape h3
  obtain ⟨lp, hlp⟩ : ∃ n, (pre.map fun x => setC vo L x).length = n := ⟨_, rfl⟩
  rw [hlp] at h2 h3
  have hlp2 : lp ≤ 1048576 := by have := HMB.out; rw [← hlp, List.length_map]; omega
  have HX := qH0 hdx; have HK := qH0 hK; have H2 := qH0 h2; have H3 := qH0 h3; have H4 := qH0 h4; have HNW := qH0 hNW
  have HLP := qH0 hlp; have HLP2 := qH0 hlp2
  have hc0 := h2.cell
  obtain ⟨x0, hx0⟩ : ∃ y, y = setC vo L x := ⟨_, rfl⟩
  have hcs : ∃ p0 q0 k0 t1 t2 p3 q3 k3, setC vo L x = [.slice p0 q0 k0, .int .i64 t1, .int .u32 t2, .slice p3 q3 k3] := ⟨_, _, _, _, _, _, _, _, rfl⟩
  obtain ⟨p0, q0, k0, t1, t2, p3, q3, k3, ecs⟩ := hcs
  have HEC := qH0 ecs
  rw [ecs] at hbx
  have y0 := kcell hbx 0 _ rfl; have y1 := kcell hbx 1 _ rfl; have y2 := kcell hbx 2 _ rfl; have y3 := kcell hbx 3 _ rfl
  have hone : ∀ u ∈ [Value.slice p0 q0 k0, .int .i64 t1, .int .u32 t2, .slice p3 q3 k3], u.oneCell' = true := by
   intro u hu; simp only [List.mem_cons, List.not_mem_nil, or_false] at hu; rcases hu with rfl | rfl | rfl | rfl <;> rfl
  have HONE := qH0 hone
  rw [ecs]
  clear hbx hdx hK h2 h3 h4 hNW hlp hlp2 ecs hone hx0 hBx0 HSEQ
  gi_wp2_with (gi_at_builtin; refine qcQ W rfl (.tmp 9) (.tmp 11) qkd (by decide) rfl N (.slice ao lp co) _ rfl H3.out [.slice p0 q0 k0, .int .i64 t1, .int .u32 t2, .slice p3 q3 k3] rfl HONE.out 1 (by simp [Act.eval]) HNW.out (by have := HLP2.out; rw [HLP.out]; unfold maxLen; omega) (by have := HLP2.out; rw [HLP.out]; omega) ?_; intro v6 w6 hown6 hg6; obtain ⟨a9, c9, e9⟩ := OwnK.shape hown6; generalize List.length _ = ln at e9; subst e9; have hne6 : some B ≠ (Value.slice ao lp co).ownBlock := OwnK.ne_block H3.out H2.out (by decide); have hBx6 := H2.out.kept hg6 hne6; have c6 := hBx6.cell; have f6 := hBx6.frozen; have HOW6 := qH0 hown6; have HG6 := qH0 hg6; clear hown6 hg6 hBx6 hne6)
  have hK6 : KpX N B W (w6.setCell ⟨B, 0, none⟩ (.slice a9 ln c9)) :=
   (KpX.grown HNW.out HG6.out (fun r e => .inl (OwnK.base_le H3.out r e))).trans (KpX.grown (Nat.le_trans HNW.out HG6.out.size) (qaf w6 B 0 _) (fun r e => by cases e; exact .inr rfl))
  have hko : KeepsOthers W (w6.setCell ⟨B, 0, none⟩ (.slice a9 ln c9)) := (KeepsOthers.grown_c H3.out HG6.out).trans (KeepsOthers.setCell _ _ _)
  refine ⟨hko.from _, hK6, HK.out.trans hK6, SOut.snoc H2.out H3.out H4.out HX.out ?_ HG6.out⟩
  rw [HEC.out]; exact HOW6.out
 case done =>
  rintro d xs W hd hxs ⟨hK, v, h2, h3, h4⟩ hD0
  have hc := h2.cell
  have HXS := qH0 hxs; have HK := qH0 hK; have H2 := qH0 h2; have H3 := qH0 h3; have H4 := qH0 h4; have HD := qH0 hd
  clear hxs hK h3 h4 hd h2
  gi_wp2
  refine ⟨by simp, .inl ⟨_, _, rfl, run_takeDeferred hD0, ?_⟩⟩
  refine ⟨_, results_tmp rfl _ _ _, ?_⟩
  have hr : ∀ r, some d = some r → ∃ o : Obj, W.heap[r]? = some o ∧ o.isCells = false := fun r e => by cases e; exact ⟨_, hD0, rfl⟩
  have hDN : N ≤ d := by have := HD.out; rw [HN.out] at this; exact this
  have hwN : w.heap.size ≤ N := by have := HN.out; have := HW0.out.size; omega
  have hg := grownBy_putObj' W d (.deferred none)
  have hK2 : KpX N B W0 (W.putObj d (.deferred none)) := HK.out.trans (KpX.grown (by rw [← HN.out]; exact HK.out.size) hg (fun r e => by cases e; exact .inl hDN))
  have hlen : xs.length = (setsM L).length := by rw [← qcw, List.length_map, ← HXS.out, List.length_map]
  have hown2 : OwnC 4 67 (W.putObj d (.deferred none)) N v (xs.map fun x => setC vo L x) := OwnC.keptO H3.out hg hr
  have hdat2 : ∀ x ∈ xs, DatO N css x (W.putObj d (.deferred none)) := fun x hx => (H4.out _ hx).keptO hg hr
  have hBN : B < N := by have := HSZ.out; have := HS1.out; omega
  have key : ∀ W', OwnC 4 67 W' N v (xs.map fun x => setC vo L x) → (∀ x ∈ xs, DatO N css x W') → Rcs W' css L → RowS W' v (setsM L) := fun W' k1 k2 k3 => by
   refine ⟨xs.map (fun x => setC vo L x), SlK.of_own k1 (fun cs hc => by obtain ⟨x, _, rfl⟩ := List.mem_map.1 hc; rfl), by rw [List.length_map]; exact hlen, fun j h1 h2 => ?_⟩
   rw [List.length_map] at h1
   have e : (setsM L)[j] = setR L xs[j].1.1 := by
    have h5 : (setsM L)[j]? = ((segsS L).map (setR L))[j]? := by rw [qcw]
    rw [List.getElem?_eq_getElem h2, ← HXS.out, List.map_map, List.getElem?_map, List.getElem?_eq_getElem h1] at h5
    simpa using h5
   rw [e, List.getElem_map]
   exact qh1 HMM.out k3 HCC.out xs[j] (k2 _ (List.getElem_mem h1))
  refine ⟨v, rfl, key _ hown2 hdat2 (HST.out _ hK2), ?_, fun W' hg' => ?_⟩
  ·exact qal (HW0.out.trans (HK.out.below (by have := HB.out; omega) hwN)) (by omega) (qN0)
  ·have hg2 : FarKeep B (W.putObj d (.deferred none)) W' := by rw [← HB.out]; exact hg'
   exact key _ (OwnK.move hown2 (hg2.mono (by omega))) (fun x hx => OwnK.move (hdat2 x hx) (hg2.mono (by omega))) (HST2.out _ hK2 W' (hg2.mono (by omega)))
 case stop =>
  rintro d c3 pre W hd hp hF hK
  exact hF.elim
end
end Go.Proofs.YtnpnfajgphpabaaGreat
