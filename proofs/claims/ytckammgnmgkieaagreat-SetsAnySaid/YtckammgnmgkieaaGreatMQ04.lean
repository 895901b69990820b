/-
  law6.known holds.
-/
import Derived.Test.YtckammgnmgkieaaGreatMQ36
import Derived.Test.YtckammgnmgkieaaGreatMQ02
import Derived.Test.YtckammgnmgkieaaGreatMQ27
import Derived.Deep.RegionHeld3
namespace Go.Proofs.YtckammgnmgkieaaGreat
set_option maxRecDepth 20000
open Go.RowKit Go.Shelf
set_option maxRecDepth 20000
set_option linter.unusedVariables false
set_option linter.unusedSimpArgs false
def knA1 : Dat := ⟨1, [], [], [], [2, 2, 2, 2]⟩
def knA2 : Dat := ⟨1, [], [], [], [1, 1, 1, 1]⟩
def knA3 : Dat := ⟨2, [[[120]]], [], [], []⟩
def knR1 : Rc := ⟨[[97]], 9, knA1⟩
def knR2 : Rc := ⟨[[97]], 5, knA2⟩
def knR3 : Rc := ⟨[[97]], 7, knA3⟩
theorem kn_sets : setsM (canonM [knR1, knR2, knR3]) = [⟨[[97]], 1, 5, [knA2, knA1]⟩, ⟨[[97]], 2, 7, [knA3]⟩] := by rfl
theorem kn_of1 : ofM [knR1, knR2, knR3] [[65]] 1 = some ⟨[[97]], 1, 5, [knA2, knA1]⟩ := by rfl
theorem kn_of5 : ofM [knR1, knR2, knR3] [[97]] 5 = none := by rfl
theorem kn_types : typesM [[97]] [knR1, knR2, knR3] = [1, 2] := by
  have e : tysM [[97]] [knR1, knR2, knR3] = [1, 1, 2] := by rfl
  unfold typesM
  rw [e, List.mergeSort_of_pairwise (by decide)]
  decide
theorem kn_targets : targetsM 2 [knA3] = [[[120]]] := by rfl
theorem kn_equal : sameDsM [knA2, knA1] [knA2, knA1] = true := sameDsM_self _
theorem kn_unequal : sameDsM [knA2, knA1] [knA3] = false := by decide
theorem knA1_ok : DatOK knA1 := ⟨⟨by decide, by decide⟩, by decide, (fun n h => by cases h), by decide, (fun n h => by cases h), ⟨by decide, (fun n h => by cases h)⟩, by decide⟩
theorem knA2_ok : DatOK knA2 := ⟨⟨by decide, by decide⟩, by decide, (fun n h => by cases h), by decide, (fun n h => by cases h), ⟨by decide, (fun n h => by cases h)⟩, by decide⟩
theorem knA3_ok : DatOK knA3 := ⟨⟨by decide, by decide⟩, by decide, (fun n h => by simp only [knA3, List.mem_singleton] at h; subst h; exact ⟨by decide, by decide⟩), by decide, (fun n h => by cases h), ⟨by decide, (fun n h => by cases h)⟩, by decide⟩
theorem kn_ok : ∀ r ∈ [knR1, knR2, knR3], RcOK r := by
  intro r hr
  simp only [List.mem_cons, List.not_mem_nil, or_false] at hr
  rcases hr with rfl | rfl | rfl
  · exact ⟨⟨by decide, by decide⟩, by decide, knA1_ok⟩
  · exact ⟨⟨by decide, by decide⟩, by decide, knA2_ok⟩
  · exact ⟨⟨by decide, by decide⟩, by decide, knA3_ok⟩
def RowC (W : World) (v : Value) (l : List Rc) : Prop := ∃ css, SlK W v css ∧ Rcs W css l
theorem RowC.below {W W' : World} {v : Value} {l : List Rc} (h : RowC W v l) (hb : Below W.heap.size W W') : RowC W' v l := by
  obtain ⟨css, h1, h2⟩ := h
  exact ⟨css, h1.below hb, h2.below hb⟩
theorem RowS.below {W W' : World} {v : Value} {l : List St} (h : RowS W v l) (hb : Below W.heap.size W W') : RowS W' v l := by
  obtain ⟨csd, h1, h2, h3⟩ := h
  exact ⟨csd, h1.below hb, h2, fun j a b => (h3 j a b).below hb⟩
theorem RowS.shape {W : World} {v : Value} {l : List St} (h : RowS W v l) : ∃ a c, v = .slice a l.length c := by
  obtain ⟨csd, ⟨a, c, e, _⟩, h2, _⟩ := h
  exact ⟨a, c, by rw [e, h2]⟩
theorem RowS.elem {W : World} {a : Option Addr} {n c : Nat} {l : List St} (h : RowS W (.slice a n c) l) (h0 : 0 < l.length) : ∃ b off, a = some ⟨b, off, none⟩ ∧ b < W.heap.size ∧
    ∀ k (hk : k < l.length), ∃ (x0 x3 : Option Addr × Nat × Nat), SetR W [.slice x0.1 x0.2.1 x0.2.2, .int .i64 l[k].ty, .int .u32 (l[k].ttl : Int), .slice x3.1 l[k].data.length x3.2.2] l[k] ∧
      ∀ W', Below W.heap.size W W' → W'.cell? ⟨b, off + k * 4, none⟩ = some (.slice x0.1 x0.2.1 x0.2.2) ∧ W'.cell? ⟨b, off + k * 4 + 1, none⟩ = some (.int .i64 l[k].ty) ∧ W'.cell? ⟨b, off + k * 4 + 2, none⟩ = some (.int .u32 (l[k].ttl : Int)) ∧ W'.cell? ⟨b, off + k * 4 + 3, none⟩ = some (.slice x3.1 l[k].data.length x3.2.2) := by
  obtain ⟨csd, h1, h2, h3⟩ := h
  obtain ⟨b, off, e, hb, hel⟩ := h1.elem4 (fun cs hc => by
    obtain ⟨i, hi, rfl⟩ := List.mem_iff_getElem.1 hc
    obtain ⟨x0, x3, ds, e, _⟩ := h3 i hi (by omega)
    rw [e]; rfl) (by omega)
  refine ⟨b, off, e, hb, fun k hk => ?_⟩
  have hk1 : k < csd.length := by omega
  have hs := h3 k hk1 hk
  obtain ⟨x0, x3, ds, e2, q1, q2, q3, q4⟩ := id hs
  have hl : x3.2.1 = l[k].data.length := by
    obtain ⟨_, _, e3, _⟩ := id q2
    injection e3 with _ e3 _
    rw [e3, q3]
  rw [hl] at e2
  rw [e2] at hs
  exact ⟨x0, x3, hs, fun W' hB => hel k hk1 _ _ _ _ e2 W' hB⟩
theorem SetR.dts {W : World} {x0 x3 : Option Addr × Nat × Nat} {y t : Int} {n : Nat} {s : St} (h : SetR W [.slice x0.1 x0.2.1 x0.2.2, .int .i64 y, .int .u32 t, .slice x3.1 n x3.2.2] s) : ∃ ds, SlK W (.slice x3.1 n x3.2.2) ds ∧ Dts W ds s.data ∧ n = s.data.length := by
  obtain ⟨z0, z3, ds, e, q1, q2, q3, q4⟩ := h
  simp only [List.cons.injEq, and_true] at e
  obtain ⟨-, -, -, e3⟩ := e
  rw [← e3] at q2
  refine ⟨ds, q2, ⟨q3, q4⟩, ?_⟩
  obtain ⟨_, _, e4, _⟩ := id q2
  injection e4 with _ e4 _
  rw [e4, q3]
theorem SetR.shape {W : World} {cs : List Value} {s : St} (h : SetR W cs s) : ∃ (x0 x3 : Option Addr × Nat × Nat), cs = [.slice x0.1 x0.2.1 x0.2.2, .int .i64 s.ty, .int .u32 (s.ttl : Int), .slice x3.1 s.data.length x3.2.2] := by
  obtain ⟨x0, x3, ds, e, q1, q2, q3, q4⟩ := h
  refine ⟨x0, x3, ?_⟩
  rw [e]
  obtain ⟨_, _, e4, _⟩ := id q2
  injection e4 with _ e4 _
  rw [e4, q3]
theorem row_Sets (v : Value) (l : List Rc) (w : World) (h : RowC w v l) (hOK : ∀ r ∈ l, RcOK r) (hl : l.length ≤ 1048576) : Calls Tryz.prog 15 #[v] w (SetsPost w (setsM (canonM l))) := by
  obtain ⟨css, h1, h2⟩ := h
  exact rset_Sets v css l w h1 h2 hOK (by rw [h2.1]; exact hl)
theorem row_Of (v vo : Value) (o : Nm) (t : Int) (l : List Rc) (w : World) (h : RowC w v l) (hO : NmAt w vo o) (hko : NmOK o) (hOK : ∀ r ∈ l, RcOK r) (hl : l.length ≤ 1048576) : Calls Tryz.prog 21 #[v, vo, .int .i64 t] w (OfPost w (ofM l o t)) := by
  obtain ⟨css, h1, h2⟩ := h
  obtain ⟨a, c, rfl, _⟩ := id h1
  exact rset_Of a _ c vo o t css l w h1 h2 hOK hO hko (by rw [h2.1]; exact hl)
theorem row_Types (v vo : Value) (o : Nm) (l : List Rc) (w : World) (h : RowC w v l) (hO : NmAt w vo o) (hko : NmOK o) (hOK : ∀ r ∈ l, RcOK r) (hl : l.length ≤ 1048576) : Calls Tryz.prog 23 #[v, vo] w (TyPost w (typesM o l)) := by
  obtain ⟨css, h1, h2⟩ := h
  obtain ⟨a, c, rfl, _⟩ := id h1
  exact rset_Types a _ c vo o css l w h1 h2 hOK hO hko (by rw [h2.1]; exact hl)
theorem knewD (W : World) (o : Obj) : ((W.alloc o).drew).heap[W.heap.size]? = some o := knew W o
theorem kn_six (w W : World) (o0 o1 o2 o3 o4 o5 : Obj) (hW : (((((w.alloc o0).alloc o1).alloc o2).alloc o3).alloc o4).alloc o5 = W) :
    W.heap[w.heap.size]? = some o0 ∧ W.heap[w.heap.size + 1]? = some o1 ∧ W.heap[w.heap.size + 1 + 1]? = some o2 ∧ W.heap[w.heap.size + 1 + 1 + 1]? = some o3 ∧ W.heap[w.heap.size + 1 + 1 + 1 + 1]? = some o4 ∧ W.heap[w.heap.size + 1 + 1 + 1 + 1 + 1]? = some o5 ∧ Below w.heap.size w W := by
  subst hW
  have step : ∀ (X : World) (k : Nat) (o o' : Obj), X.heap[k]? = some o → (X.alloc o').heap[k]? = some o := fun X k o o' h => (Below.heap_alloc X o' k (kblock_lt h)).trans h
  have new : ∀ (X : World) (o : Obj) (k : Nat), X.heap.size = k → (X.alloc o).heap[k]? = some o := fun X o k h => by subst h; exact knew X o
  refine ⟨step _ _ _ _ (step _ _ _ _ (step _ _ _ _ (step _ _ _ _ (step _ _ _ _ (new _ _ _ rfl))))), step _ _ _ _ (step _ _ _ _ (step _ _ _ _ (step _ _ _ _ (new _ _ _ (by simp))))), step _ _ _ _ (step _ _ _ _ (step _ _ _ _ (new _ _ _ (by simp)))), step _ _ _ _ (step _ _ _ _ (new _ _ _ (by simp))), step _ _ _ _ (new _ _ _ (by simp)), new _ _ _ (by simp), ?_⟩
  exact (((((((Below.refl _ w).alloc (Nat.le_refl _) _).alloc (by simp) _).alloc (by simp; omega) _).alloc (by simp; omega) _).alloc (by simp; omega) _).alloc (by simp; omega) _)
set_option maxRecDepth 100000 in
set_option maxHeartbeats 16000000 in
theorem law6_known (w : World) :
    Calls Tryz.prog 11 #[] w fun e w' => e = .returned (.bool true) ∧ Below w.heap.size w w' := by
  go_enter Tryz.func11, Tryz.ntmps11
  go_wp2_with fail
  obtain ⟨n, hn⟩ : ∃ n, w.heap.size = n := ⟨_, rfl⟩
  obtain ⟨W, hW⟩ : ∃ W, (((((w.alloc (.cells #[.string ⟨#[97]⟩] 9)).alloc (.cells #[.int .u8 2, .int .u8 2, .int .u8 2, .int .u8 2] 5)).alloc (.cells #[.int .u8 1, .int .u8 1, .int .u8 1, .int .u8 1] 5)).alloc (.cells #[.string ⟨#[120]⟩] 9)).alloc (.cells #[.slice (some ⟨n + 1 + 1 + 1, 0, none⟩) 1 1] 24)).alloc (.cells #[.slice (some ⟨n, 0, none⟩) 1 1, .int .u32 9, .int .i64 1, .slice none 0 0, .slice none 0 0, .slice none 0 0, .slice (some ⟨n + 1, 0, none⟩) 4 4, .slice (some ⟨n, 0, none⟩) 1 1, .int .u32 5, .int .i64 1, .slice none 0 0, .slice none 0 0, .slice none 0 0, .slice (some ⟨n + 1 + 1, 0, none⟩) 4 4, .slice (some ⟨n, 0, none⟩) 1 1, .int .u32 7, .int .i64 2, .slice (some ⟨n + 1 + 1 + 1 + 1, 0, none⟩) 1 1, .slice none 0 0, .slice none 0 0, .slice none 0 0] 103) = W := ⟨_, rfl⟩
  obtain ⟨k0, k1, k2, k3, k4, k5, hB⟩ := kn_six w W _ _ _ _ _ _ hW
  rw [hn] at k0 k1 k2 k3 k4 k5
  have hN0 : NmAt W (.slice (some ⟨n, 0, none⟩) 1 1) [[97]] := nmAt_sl.2 (slAt_blk (l := [.string ⟨#[97]⟩]) k0)
  have hN3 : NmAt W (.slice (some ⟨n + 1 + 1 + 1, 0, none⟩) 1 1) [[120]] := nmAt_sl.2 (slAt_blk (l := [.string ⟨#[120]⟩]) k3)
  have hD1 : SlAt W (.slice (some ⟨n + 1, 0, none⟩) 4 4) ([2, 2, 2, 2].map bv) := slAt_blk (l := [.int .u8 2, .int .u8 2, .int .u8 2, .int .u8 2]) k1
  have hD2 : SlAt W (.slice (some ⟨n + 1 + 1, 0, none⟩) 4 4) ([1, 1, 1, 1].map bv) := slAt_blk (l := [.int .u8 1, .int .u8 1, .int .u8 1, .int .u8 1]) k2
  have hD3 : SlAt W (.slice (some ⟨n + 1 + 1 + 1 + 1, 0, none⟩) 1 1) [.slice (some ⟨n + 1 + 1 + 1, 0, none⟩) 1 1] := slAt_blk (l := [.slice (some ⟨n + 1 + 1 + 1, 0, none⟩) 1 1]) k4
  have r1 : RcAt W [.slice (some ⟨n, 0, none⟩) 1 1, .int .u32 ((9 : Nat) : Int), .int .i64 1, .slice none 0 0, .slice none 0 0, .slice none 0 0, .slice (some ⟨n + 1, 0, none⟩) 4 4] knR1 := ⟨_, _, _, _, _, rfl, hN0, _, _, _, _, rfl, NmsAt.nil _, SlAt.nil _, nm_nil _, hD1⟩
  have r2 : RcAt W [.slice (some ⟨n, 0, none⟩) 1 1, .int .u32 ((5 : Nat) : Int), .int .i64 1, .slice none 0 0, .slice none 0 0, .slice none 0 0, .slice (some ⟨n + 1 + 1, 0, none⟩) 4 4] knR2 := ⟨_, _, _, _, _, rfl, hN0, _, _, _, _, rfl, NmsAt.nil _, SlAt.nil _, nm_nil _, hD2⟩
  have r3 : RcAt W [.slice (some ⟨n, 0, none⟩) 1 1, .int .u32 ((7 : Nat) : Int), .int .i64 2, .slice (some ⟨n + 1 + 1 + 1 + 1, 0, none⟩) 1 1, .slice none 0 0, .slice none 0 0, .slice none 0 0] knR3 :=
    ⟨_, _, _, _, _, rfl, hN0, _, _, _, _, rfl, ⟨_, hD3, rfl, fun i h1 => by
      match i, h1 with
      | 0, _ => exact hN3⟩, SlAt.nil _, nm_nil _, SlAt.nil _⟩
  have hRC : RowC W (.slice (some ⟨n + 1 + 1 + 1 + 1 + 1, 0, none⟩) 3 3) [knR1, knR2, knR3] := ⟨_, slK_blk (css := [[.slice (some ⟨n, 0, none⟩) 1 1, .int .u32 ((9 : Nat) : Int), .int .i64 1, .slice none 0 0, .slice none 0 0, .slice none 0 0, .slice (some ⟨n + 1, 0, none⟩) 4 4], [.slice (some ⟨n, 0, none⟩) 1 1, .int .u32 ((5 : Nat) : Int), .int .i64 1, .slice none 0 0, .slice none 0 0, .slice none 0 0, .slice (some ⟨n + 1 + 1, 0, none⟩) 4 4], [.slice (some ⟨n, 0, none⟩) 1 1, .int .u32 ((7 : Nat) : Int), .int .i64 2, .slice (some ⟨n + 1 + 1 + 1 + 1, 0, none⟩) 1 1, .slice none 0 0, .slice none 0 0, .slice none 0 0]]) k5, rfl, fun i h1 h2 => by
    match i, h1 with
    | 0, _ => exact r1
    | 1, _ => exact r2
    | 2, _ => exact r3⟩
  have hc := row_Sets _ _ W hRC kn_ok (by decide)
  rw [kn_sets] at hc
  rw [hn, hW]
  have HB := Lib.hid hB; have HR := Lib.hid hRC; have HN := Lib.hid hN0
  clear hB hRC hN0 hN3 hD1 hD2 hD3 r1 r2 r3 k0 k1 k2 k3 k4 k5 hW hn
  refine hc.mono ?_
  rintro e w2 ⟨v2, rfl, hs2, hb2⟩
  obtain ⟨sa, sc, rfl⟩ := hs2.shape
  have HS2 := Lib.hid hs2
  have HB2 := Lib.hid (HB.out.trans (hb2.mono HB.out.size))
  have HR2 := Lib.hid (HR.out.below hb2)
  have HN2 := Lib.hid (HN.out.below hb2)
  clear hs2 hb2 hc HB HR HN
  have hN29 : ∀ W', Below w2.heap.size w2 W' → RowC W' (.slice (some ⟨n + 1 + 1 + 1 + 1 + 1, 0, none⟩) 3 3) [knR1, knR2, knR3] := fun W' h => HR2.out.below h
  have hAl := (Below.refl w2.heap.size w2).alloc (Nat.le_refl _) (.cells #[.string ⟨#[65]⟩] 9)
  have hNA : NmAt (w2.alloc (.cells #[.string ⟨#[65]⟩] 9)) (.slice (some ⟨w2.heap.size, 0, none⟩) 1 1) [[65]] := nmAt_sl.2 (slAt_blk (l := [.string ⟨#[65]⟩]) (knew w2 _))
  have hc := row_Of _ _ _ 1 _ _ (HR2.out.below hAl) hNA ⟨by decide, by decide⟩ kn_ok (by decide)
  rw [kn_of1] at hc
  have HAl := Lib.hid hAl
  clear hN29 hAl hNA
  go_wp2_with fail
  refine hc.mono ?_
  rintro e w3 ⟨cs3, rfl, hs3, hb3⟩
  obtain ⟨⟨p0, q0, z0⟩, ⟨p3, q3, z3⟩, rfl⟩ := hs3.shape
  have hbb := HAl.out.trans (hb3.mono HAl.out.size)
  have HS3 := Lib.hid (HS2.out.below hbb)
  have HB3 := Lib.hid (HB2.out.trans (hbb.mono HB2.out.size))
  have HR3 := Lib.hid (HR2.out.below hbb)
  have HN3 := Lib.hid (HN2.out.below hbb)
  have HA3 := Lib.hid hs3
  clear hs3 hb3 hc HB2 HR2 HN2 HS2 HAl hbb
  have hAl := (Below.refl w3.heap.size w3).alloc (Nat.le_refl _) (.cells #[.slice p0 q0 z0, .int .i64 1, .int .u32 5, .slice p3 2 z3] 38)
  have hX4 := knew w3 (.cells #[.slice p0 q0 z0, .int .i64 1, .int .u32 5, .slice p3 2 z3] 38)
  have hc := row_Of _ _ _ 5 _ _ (HR3.out.below hAl) (HN3.out.below hAl) ⟨by decide, by decide⟩ kn_ok (by decide)
  rw [kn_of5] at hc
  have HAl := Lib.hid hAl; have HX4 := Lib.hid hX4
  clear hAl hX4
  go_wp2_with fail
  refine hc.mono ?_
  rintro e w4 ⟨cs4, rfl, hs4, hb4⟩
  obtain ⟨⟨p0', q0', z0'⟩, ⟨p3', q3', z3'⟩, rfl⟩ := hs4.shape
  have hbb := HAl.out.trans (hb4.mono HAl.out.size)
  have HS4 := Lib.hid (HS3.out.below hbb)
  have HB4 := Lib.hid (HB3.out.trans (hbb.mono HB3.out.size))
  have HR4 := Lib.hid (HR3.out.below hbb)
  have HN4 := Lib.hid (HN3.out.below hbb)
  have HA4 := Lib.hid (HA3.out.below hbb)
  have HX5 := Lib.hid ((hb4.block _ (kblock_lt HX4.out)).trans HX4.out)
  clear hs4 hb4 hc HB3 HR3 HN3 HS3 HAl hbb HA3 HX4
  have hAl := (Below.refl w4.heap.size w4).alloc (Nat.le_refl _) (.cells #[.slice p0' q0' z0', .int .i64 0, .int .u32 0, .slice p3' 0 z3'] 38)
  have hc := row_Types _ _ _ _ _ (HR4.out.below hAl) (HN4.out.below hAl) ⟨by decide, by decide⟩ kn_ok (by decide)
  rw [kn_types] at hc
  have HAl := Lib.hid hAl
  clear hAl
  go_wp2_with fail
  refine hc.mono ?_
  rintro e w5 ⟨v5, rfl, ho5, hb5⟩
  have hbb := HAl.out.trans (hb5.mono HAl.out.size)
  have HS5 := Lib.hid (HS4.out.below hbb)
  have HB5 := Lib.hid (HB4.out.trans (hbb.mono HB4.out.size))
  have HA5 := Lib.hid (HA4.out.below hbb)
  have HX6 := Lib.hid ((hbb.block _ (kblock_lt HX5.out)).trans HX5.out)
  obtain ⟨ta, tc, rfl⟩ := ho5.shape
  obtain ⟨tb, rfl, -, htb, htcell⟩ := ho5.cells (by simp)
  have ht1 := htcell 1 (by simp)
  have HT5 := Lib.hid (And.intro htb ht1)
  obtain ⟨sb, so, rfl, hsb, hel⟩ := HS5.out.elem (by simp)
  obtain ⟨x0, x3, hx, hxc⟩ := hel 0 (by simp)
  obtain ⟨y0, y3, hy, hyc⟩ := hel 1 (by simp)
  obtain ⟨f0, f1, f2, f3⟩ := hyc w5 (Below.refl _ _)
  simp only [List.getElem_cons_zero, List.getElem_cons_succ, List.length_cons, List.length_nil, Nat.zero_add, Nat.reduceAdd, Nat.zero_mul, Nat.one_mul, Nat.add_zero] at hx hxc hy hyc f0 f1 f2 f3
  obtain ⟨x01, x02, x03⟩ := x0; obtain ⟨x31, x32, x33⟩ := x3; obtain ⟨y01, y02, y03⟩ := y0; obtain ⟨y31, y32, y33⟩ := y3
  have hyd := hy.dts (x0 := (y01, y02, y03)) (x3 := (y31, y32, y33))
  obtain ⟨dy, dy1, dy2, -⟩ := hyd
  have hc := rset_Targets y01 y02 y03 2 7 y31 1 y33 dy [knA3] w5 dy1 dy2 (fun r hr => by rw [List.mem_singleton] at hr; subst hr; exact knA3_ok) (by omega)
  rw [kn_targets] at hc
  have HXX := Lib.hid hx; have HYY := Lib.hid hy; have HXC := Lib.hid hxc; have HYC := Lib.hid hyc; have HSB := Lib.hid hsb
  clear ho5 hb5 hbb HS4 HB4 HR4 HN4 HA4 HAl HX5 HS5 hel htcell hx hxc hy hyc htb ht1 dy1 dy2
  go_wp2_with fail
  refine hc.mono ?_
  rintro e w6 ⟨v6, rfl, ⟨vs6, g1, g2, g3⟩, hb6⟩
  obtain ⟨v61, rfl⟩ : ∃ x, vs6 = [x] := by
    match vs6, g2 with
    | [x], _ => exact ⟨x, rfl⟩
  have g4 := g3 0 (by simp) (by simp)
  simp only [List.getElem_cons_zero] at g4
  obtain ⟨xa, xc, rfl⟩ := g1.shape
  obtain ⟨xb, rfl, -, hxb, hxcell⟩ := g1.cells (by simp)
  have hx1 := hxcell 0 (by simp)
  have HB6 := Lib.hid (HB5.out.trans (hb6.mono HB5.out.size))
  have HX7 := Lib.hid ((hb6.block _ (kblock_lt HX6.out)).trans HX6.out)
  have HG4 := Lib.hid g4.nmAt
  have HT6 := Lib.hid (show w6.cell? ⟨tb, 1, none⟩ = some (.int .i64 2) from (hb6.cell (p := ⟨tb, 1, none⟩) HT5.out.1).trans HT5.out.2)
  have HX8 := Lib.hid (And.intro hxb hx1)
  have HT6B := Lib.hid (show tb < w5.heap.size from HT5.out.1)
  have H66 := Lib.hid hb6
  clear g1 g2 g3 g4 hxcell hx1 hb6 hc HB5 HX6 HT5
  obtain ⟨ma, mn, mc⟩ := v61
  obtain ⟨S, hS⟩ : ∃ S : World → Prop, S = (fun W => (W.cell? ⟨sb, so, none⟩ = some (.slice x01 x02 x03) ∧ W.cell? ⟨sb, so + 1, none⟩ = some (.int .i64 1) ∧ W.cell? ⟨sb, so + 2, none⟩ = some (.int .u32 5) ∧ W.cell? ⟨sb, so + 3, none⟩ = some (.slice x31 2 x33) ∧ W.cell? ⟨w3.heap.size, 0, none⟩ = some (.slice p0 q0 z0) ∧ W.cell? ⟨w3.heap.size, 1, none⟩ = some (.int .i64 1) ∧ W.cell? ⟨w3.heap.size, 2, none⟩ = some (.int .u32 5) ∧ W.cell? ⟨w3.heap.size, 3, none⟩ = some (.slice p3 2 z3) ∧ W.cell? ⟨tb, 1, none⟩ = some (.int .i64 2) ∧ W.cell? ⟨xb, 0, none⟩ = some (.slice ma mn mc) ∧ W.cell? ⟨sb, so + 4, none⟩ = some (.slice y01 y02 y03) ∧ W.cell? ⟨sb, so + 4 + 1, none⟩ = some (.int .i64 2) ∧ W.cell? ⟨sb, so + 4 + 2, none⟩ = some (.int .u32 7) ∧ W.cell? ⟨sb, so + 4 + 3, none⟩ = some (.slice y31 1 y33) ∧ Below w6.heap.size w6 W)) := ⟨_, rfl⟩
  have hKB : ∀ W, Below w6.heap.size w6 W → S W := fun W hb => by
    subst hS
    obtain ⟨a0, a1, a2, a3⟩ := HXC.out W (H66.out.trans (hb.mono H66.out.size))
    obtain ⟨f0, f1, f2, f3⟩ := HYC.out W (H66.out.trans (hb.mono H66.out.size))
    have hX9 := (hb.block _ (kblock_lt HX7.out)).trans HX7.out
    have d0 := kcell hX9 0 _ rfl; have d1 := kcell hX9 1 _ rfl; have d2 := kcell hX9 2 _ rfl; have d3 := kcell hX9 3 _ rfl
    have hm0 : W.cell? ⟨xb, 0, none⟩ = some (.slice ma mn mc) := (hb.cell (p := ⟨xb, 0, none⟩) HX8.out.1).trans HX8.out.2
    have ht0 : W.cell? ⟨tb, 1, none⟩ = some (.int .i64 2) := (hb.cell (p := ⟨tb, 1, none⟩) (Nat.lt_of_lt_of_le HT6B.out H66.out.size)).trans HT6.out
    exact ⟨a0, a1, a2, a3, d0, d1, d2, d3, ht0, hm0, f0, f1, f2, f3, hb⟩
  have hKS : ∀ W W', S W → Below W.heap.size W W' → S W' := fun W W' h hb => hKB W' (by
    subst hS
    obtain ⟨-, -, -, -, -, -, -, -, -, -, -, -, -, -, hB⟩ := h
    exact hB.trans (hb.mono hB.size))
  have hSB : ∀ W, S W → Below w6.heap.size w6 W := fun W h => by
    subst hS
    obtain ⟨-, -, -, -, -, -, -, -, -, -, -, -, -, -, hB⟩ := h
    exact hB
  have hKR : ∀ W, S W → S W.drew := fun W h => hKS W _ h ⟨rfl, rfl, rfl, Nat.le_refl _, fun _ _ => rfl⟩
  have hKA : ∀ W o, S W → S (W.alloc o) := fun W o h => hKS W _ h ((Below.refl _ W).alloc (Nat.le_refl _) o)
  have hSame : ∀ W g, S W → W.heap[g]? = some (.cells #[.string ⟨#[120]⟩] 9) → Calls Tryz.prog 57 #[.slice ma mn mc, .slice (some ⟨g, 0, none⟩) 1 1] W fun e w' => e = .returned (.bool true) ∧ Below W.heap.size W w' := fun W g h hg =>
    kn_NSame (.slice ma mn mc) (.slice (some ⟨g, 0, none⟩) 1 1) [[120]] [[120]] true (sameN_refl _) W (HG4.out.below (hSB W h)) (nmAt_sl.2 (slAt_blk (l := [.string ⟨#[120]⟩]) hg)) ⟨by decide, by decide⟩ ⟨by decide, by decide⟩
  have hxd := HXX.out.dts (x0 := (x01, x02, x03)) (x3 := (x31, x32, x33))
  obtain ⟨dx, dx1, dx2, -⟩ := hxd
  have hyd := HYY.out.dts (x0 := (y01, y02, y03)) (x3 := (y31, y32, y33))
  obtain ⟨dy', dy1, dy2, -⟩ := hyd
  have had := HA5.out.dts (x0 := (p0, q0, z0)) (x3 := (p3, q3, z3))
  obtain ⟨da, da1, da2, -⟩ := had
  have o2 : ∀ r ∈ [knA2, knA1], DatOK r := fun r hr => by
    simp only [List.mem_cons, List.not_mem_nil, or_false] at hr
    rcases hr with rfl | rfl
    · exact knA2_ok
    · exact knA1_ok
  have o3 : ∀ r ∈ [knA3], DatOK r := fun r hr => by rw [List.mem_singleton] at hr; subst hr; exact knA3_ok
  have h5 : ∀ W, S W → Below w5.heap.size w5 W := fun W h => H66.out.trans ((hSB W h).mono H66.out.size)
  have hEq1 : ∀ W, S W → Calls Tryz.prog 58 #[.agg #[.slice x01 x02 x03, .int .i64 1, .int .u32 5, .slice x31 2 x33], .agg #[.slice p0 q0 z0, .int .i64 1, .int .u32 5, .slice p3 2 z3]] W fun e w' => e = .returned (.bool true) ∧ Below W.heap.size W w' := fun W h => by
    have := rset_Equal x01 x02 x03 1 5 (x31, 2, x33) p0 q0 z0 1 5 (p3, 2, z3) dx da [knA2, knA1] [knA2, knA1] W (dx1.below (h5 W h)) (dx2.below (h5 W h)) (da1.below (h5 W h)) (da2.below (h5 W h)) o2 o2 (by rw [dx2.1]; decide) (by rw [da2.1]; decide)
    rw [kn_equal] at this; exact this
  have hEq2 : ∀ W, S W → Calls Tryz.prog 58 #[.agg #[.slice x01 x02 x03, .int .i64 1, .int .u32 5, .slice x31 2 x33], .agg #[.slice y01 y02 y03, .int .i64 2, .int .u32 7, .slice y31 1 y33]] W fun e w' => e = .returned (.bool false) ∧ Below W.heap.size W w' := fun W h => by
    have := rset_Equal x01 x02 x03 1 5 (x31, 2, x33) y01 y02 y03 2 7 (y31, 1, y33) dx dy' [knA2, knA1] [knA3] W (dx1.below (h5 W h)) (dx2.below (h5 W h)) (dy1.below (h5 W h)) (dy2.below (h5 W h)) o2 o3 (by rw [dx2.1]; decide) (by rw [dy2.1]; decide)
    rw [kn_unequal] at this; exact this
  have hS6 := hKB w6 (Below.refl _ _)
  subst hS
  have KS := Lib.hid hKS; have KR := Lib.hid hKR; have KA := Lib.hid hKA; have HSame := Lib.hid hSame; have HE1 := Lib.hid hEq1; have HE2 := Lib.hid hEq2
  clear hKB hKS hSB hKR hKA hSame h5 hEq1 hEq2 o2 o3 dx1 dx2 dy1 dy2 da1 da2 HXC HYC HX7 HX8 HT6 HT6B HG4
  go_wp2_with fail
  simp only [List.append_eq, List.cons_append, List.nil_append]
  go_region_held3 (fun W => (W.cell? ⟨sb, so, none⟩ = some (.slice x01 x02 x03) ∧ W.cell? ⟨sb, so + 1, none⟩ = some (.int .i64 1) ∧ W.cell? ⟨sb, so + 2, none⟩ = some (.int .u32 5) ∧ W.cell? ⟨sb, so + 3, none⟩ = some (.slice x31 2 x33) ∧ W.cell? ⟨w3.heap.size, 0, none⟩ = some (.slice p0 q0 z0) ∧ W.cell? ⟨w3.heap.size, 1, none⟩ = some (.int .i64 1) ∧ W.cell? ⟨w3.heap.size, 2, none⟩ = some (.int .u32 5) ∧ W.cell? ⟨w3.heap.size, 3, none⟩ = some (.slice p3 2 z3) ∧ W.cell? ⟨tb, 1, none⟩ = some (.int .i64 2) ∧ W.cell? ⟨xb, 0, none⟩ = some (.slice ma mn mc) ∧ W.cell? ⟨sb, so + 4, none⟩ = some (.slice y01 y02 y03) ∧ W.cell? ⟨sb, so + 4 + 1, none⟩ = some (.int .i64 2) ∧ W.cell? ⟨sb, so + 4 + 2, none⟩ = some (.int .u32 7) ∧ W.cell? ⟨sb, so + 4 + 3, none⟩ = some (.slice y31 1 y33) ∧ Below w6.heap.size w6 W)) (first | assumption | exact KR.out _ (by assumption) | exact KA.out _ _ (by assumption) | exact KA.out _ _ (KR.out _ (by assumption))) (first | ((with_reducible refine (HE1.out _ (by assumption)).mono ?_); rintro e w2 ⟨rfl, hb2⟩; have hS2 := KS.out _ _ (by assumption) hb2) | ((with_reducible refine (HE2.out _ (by assumption)).mono ?_); rintro e w2 ⟨rfl, hb2⟩; have hS2 := KS.out _ _ (by assumption) hb2) | ((with_reducible refine (HSame.out _ _ (by assumption) (knewD _ _)).mono ?_); rintro e w2 ⟨rfl, hb2⟩; have hS2 := KS.out _ _ (by assumption) hb2))
  all_goals
    rename_i hSe
    go_wp2_with fail
    go_ret
    exact ⟨rfl, HB6.out.trans (hSe.2.2.2.2.2.2.2.2.2.2.2.2.2.2.mono HB6.out.size)⟩
end Go.Proofs.YtckammgnmgkieaaGreat

