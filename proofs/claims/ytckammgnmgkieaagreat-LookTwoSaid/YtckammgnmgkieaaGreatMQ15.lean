/-
  zone.Glue once more: all that it makes lies behind what was there. (Written by wip/tools/genlokg.py.)
-/
import Derived.Test.YtckammgnmgkieaaGreatMQ25
import Derived.Maps.OwnOps
import Derived.Maps.Views
import Derived.Deep.RegionHeld3
import Derived.Deep.CutRange
namespace Go.Proofs.YtckammgnmgkieaaGreat
set_option maxRecDepth 20000
open Go.RowKit Go.Shelf
set_option maxRecDepth 20000
set_option linter.unusedVariables false
set_option linter.unusedSimpArgs false
def OwnDts (W : World) (base : Nat) (v : Value) (l : List Dat) : Prop := ∃ ds : List (List Value), OwnC 5 101 W base v ds ∧ ds.length = l.length ∧
  ∀ j (h1 : j < ds.length) (h2 : j < l.length), ∃ vn vu vt vr, ds[j] = [.int .i64 l[j].ty, vn, vu, vt, vr] ∧ DRow W base vn vu vt vr l[j]
theorem DRow.weaken {W : World} {base b2 : Nat} {vn vu vt vr : Value} {d : Dat} (h : DRow W base vn vu vt vr d) (hb : b2 ≤ base) : DRow W b2 vn vu vt vr d := by
  obtain ⟨⟨vs, k1, k2, k3⟩, i1, i2, i3⟩ := h
  exact ⟨⟨vs, k1.weaken hb, k2, fun i a b => (k3 i a b).weaken hb⟩, i1.weaken hb, i2.weaken hb, i3.weaken hb⟩
theorem OwnDts.weaken {W : World} {base b2 : Nat} {v : Value} {l : List Dat} (h : OwnDts W base v l) (hb : b2 ≤ base) : OwnDts W b2 v l := by
  obtain ⟨ds, h1, h2, h3⟩ := h
  refine ⟨ds, OwnK.weaken h1 hb, h2, fun j a b => ?_⟩
  obtain ⟨vn, vu, vt, vr, e, k⟩ := h3 j a b
  exact ⟨vn, vu, vt, vr, e, k.weaken hb⟩
theorem OwnK.kept_cc {k k2 : Nat} {T T' : TypeId} {W W' : World} {base base' : Nat} {v v' : Value} {xss yss : List (List Value)} (h : OwnC k T W base v xss) (h' : OwnC k2 T' W base' v' yss) (hT : T ≠ T') (hg : W.grownBy W' v'.ownBlock) : OwnC k T W' base v xss := by
  refine OwnK.kept h hg ?_
  rcases h.2 with ⟨rfl, _⟩ | ⟨g, cap, cur, rfl, _, hh, _⟩
  · left; rfl
  · right
    rcases h'.2 with ⟨rfl, _⟩ | ⟨g', cap', cur', rfl, _, hh', _⟩
    · simp [Value.ownBlock]
    · intro e
      simp only [Value.ownBlock, Option.some.injEq] at e
      subst e
      rw [hh] at hh'
      injection hh' with hh'
      injection hh' with _ hh'
      exact hT hh'
theorem OwnDts.keptC {W W' : World} {base base' k : Nat} {T : TypeId} {v v' : Value} {yss : List (List Value)} {l : List Dat} (h : OwnDts W base v l) (h' : OwnC k T W base' v' yss) (hg : W.grownBy W' v'.ownBlock) (h1 : 101 ≠ T) (h2 : 24 ≠ T) (h3 : 9 ≠ T) (h4 : 35 ≠ T) (h5 : 5 ≠ T) : OwnDts W' base v l := by
  obtain ⟨ds, k1, k2, k3⟩ := h
  refine ⟨ds, OwnK.kept_cc k1 h' h1 hg, k2, fun j a b => ?_⟩
  obtain ⟨vn, vu, vt, vr, e, ⟨⟨vs, q1, q2, q3⟩, i1, i2, i3⟩⟩ := k3 j a b
  exact ⟨vn, vu, vt, vr, e, ⟨⟨vs, q1.kept_c h' h2 hg, q2, fun i a b => (q3 i a b).kept_c h' h3 hg⟩, i1.kept_c h' h4 hg, i2.kept_c h' h3 hg, i3.kept_c h' h5 hg⟩⟩
theorem OwnDts.move {W W' : World} {base : Nat} {v : Value} {l : List Dat} (h : OwnDts W base v l) (hf : FarKeep base W W') : OwnDts W' base v l := by
  obtain ⟨ds, h1, h2, h3⟩ := h
  refine ⟨ds, OwnK.move h1 hf, h2, fun j a b => ?_⟩
  obtain ⟨vn, vu, vt, vr, e, k⟩ := h3 j a b
  exact ⟨vn, vu, vt, vr, e, k.move hf⟩
theorem OwnDts.dtsR {W : World} {base : Nat} {v : Value} {l : List Dat} (h : OwnDts W base v l) : DtsR W v l := by
  obtain ⟨ds, h1, h2, h3⟩ := h
  have hD : Dts W ds l := ⟨h2, fun i a b => by
    obtain ⟨vn, vu, vt, vr, e, k⟩ := h3 i a b
    rw [e]; exact ⟨rfl, k.datAt⟩⟩
  exact ⟨ds, SlK.of_own h1 hD.ck, hD⟩
def GluePostF (w : World) (ds : List Dat) (e : Ending) (w' : World) : Prop := ∃ v, e = .returned v ∧ OwnDts w' w.heap.size v ds ∧ Below w.heap.size w w'
set_option maxRecDepth 100000 in
set_option maxHeartbeats 8000000 in
theorem zone_GlueF {w : World} {za v1 : Option Addr} {zn zc m c : Nat} {o h : Nm} {rs : List Rc} {vh : Value} (hz : ZonS w za zn zc v1 m c o rs) (hO : NmAt w vh h) (hko : NmOK h) :
    Calls Tryz.prog 42 #[.agg #[.slice za zn zc, .slice v1 m c], vh] w (GluePostF w (glueM rs h)) := by
  obtain ⟨-, -, ⟨css, hA, hR⟩, hOK, hl⟩ := hz
  have hln : rs.length = m := by
    obtain ⟨a', c', e, h1, _⟩ := id hA
    cases e; exact hR.1.symm
  have HOF := Lib.hid (fun (t : Int) (W : World) (hb : Below w.heap.size w W) => row_OfF (.slice v1 m c) vh h t rs W ⟨css, hA.below hb, hR.below hb⟩ (hO.below hb) hko hOK (by omega))
  have HL1 := Lib.hid (show ((ofM rs h 1).getD ⟨[], 0, 0, []⟩).data.length ≤ 1048576 by have := ofM_len rs h 1; omega)
  have HL2 := Lib.hid (show ((ofM rs h 28).getD ⟨[], 0, 0, []⟩).data.length ≤ 1048576 by have := ofM_len rs h 28; omega)
  have HG := Lib.hid (show glueM rs h = ((ofM rs h 1).getD ⟨[], 0, 0, []⟩).data ++ ((ofM rs h 28).getD ⟨[], 0, 0, []⟩).data from rfl)
  obtain ⟨ao, co, rfl, -⟩ := nmAt_sl.1 hO
  generalize (List.map strV h).length = qo at *
  unfold OfPostF at HOF
  generalize glueM rs h = res at *
  have hB0 := (Below.refl w.heap.size w).alloc (Nat.le_refl _) (.cells #[.slice za zn zc, .slice v1 m c] 57)
  have X0 := Lib.hid (knew w (.cells #[.slice za zn zc, .slice v1 m c] 57))
  have hc := HOF.out 1 _ hB0
  obtain ⟨s1, hs1⟩ : ∃ s, (ofM rs h 1).getD ⟨[], 0, 0, []⟩ = s := ⟨_, rfl⟩
  obtain ⟨s2, hs2⟩ : ∃ s, (ofM rs h 28).getD ⟨[], 0, 0, []⟩ = s := ⟨_, rfl⟩
  rw [hs1] at HL1 HG hc
  rw [hs2] at HL2 HG
  have HS2 := Lib.hid hs2
  have HB0 := Lib.hid hB0
  clear hA hR hOK hO hko hB0 hs1 hs2
  generalize (ofM rs h 1).isSome = k1 at *
  go_enter Tryz.func42, Tryz.ntmps42
  go_wp2_with fail
  refine hc.mono ?_
  rintro e w1 ⟨cs1, rfl, hf1, hb1⟩
  obtain ⟨⟨p0, q0, r0⟩, ⟨p3, q3, r3⟩, ds1, rfl, f1⟩ := id hf1
  have HB1 := Lib.hid (HB0.out.trans (hb1.mono HB0.out.size))
  have hA1 := (Below.refl w1.heap.size w1).alloc (Nat.le_refl _) (.cells #[.slice p0 q0 r0, .int .i64 s1.ty, .int .u32 (s1.ttl : Int), .slice p3 q3 r3] 38)
  have hBA := HB1.out.trans (hA1.mono HB1.out.size)
  have X1 := Lib.hid ((hb1.block w.heap.size (kblock_lt X0.out)).trans X0.out)
  have y1 := kcell X1.out 1 _ rfl
  have y2 := kcell ((hA1.block w.heap.size (kblock_lt X1.out)).trans X1.out) 1 _ rfl
  have x5 := knew w1 (.cells #[.slice p0 q0 r0, .int .i64 s1.ty, .int .u32 (s1.ttl : Int), .slice p3 q3 r3] 38)
  have hc2 := HOF.out 28 _ hBA
  rw [HS2.out] at hc2
  have HF1 := Lib.hid (hf1.below hA1); have HBA := Lib.hid hBA; have X5 := Lib.hid x5
  clear hc hf1 f1 hb1 HB0 X0 hBA x5 HOF hA1
  generalize (ofM rs h 28).isSome = k2 at *
  go_wp2_with fail
  refine hc2.mono ?_
  rintro e w2 ⟨cs2, rfl, hf2, hb2⟩
  obtain ⟨⟨t0, t1, t2⟩, ⟨t3, t4, t5⟩, ds2, rfl, g2⟩ := id hf2
  have hA2 := (Below.refl w2.heap.size w2).alloc (Nat.le_refl _) (.cells #[.slice t0 t1 t2, .int .i64 s2.ty, .int .u32 (s2.ttl : Int), .slice t3 t4 t5] 38)
  have x5 := (hA2.block w1.heap.size (by have := hb2.size; simp at this; omega)).trans ((hb2.block w1.heap.size (by simp)).trans X5.out)
  have x7 := knew w2 (.cells #[.slice t0 t1 t2, .int .i64 s2.ty, .int .u32 (s2.ttl : Int), .slice t3 t4 t5] 38)
  have z5 := kcell x5 3 _ rfl
  have z7 := kcell x7 3 _ rfl
  have hbw := HBA.out.trans (hb2.mono HBA.out.size)
  have HBW := Lib.hid (hbw.trans (hA2.mono hbw.size))
  have h1 := (HF1.out.below hb2).below hA2
  have h2 := hf2.below hA2
  have HH1 := Lib.hid h1; have HH2 := Lib.hid h2
  have HSZ := Lib.hid (show w.heap.size ≤ (w1.alloc (.cells #[.slice p0 q0 r0, .int .i64 s1.ty, .int .u32 (s1.ttl : Int), .slice p3 q3 r3] 38)).heap.size from HBA.out.size)
  clear hc2 hf2 g2 hb2 hA2 x5 x7 hbw h1 h2 y1 y2 HF1 HBA X1 X5 HB1
  generalize (w1.alloc (.cells #[.slice p0 q0 r0, .int .i64 s1.ty, .int .u32 (s1.ttl : Int), .slice p3 q3 r3] 38)).heap.size = base2 at *
  obtain ⟨xa, xb, da, ea, -, oa, la, fa⟩ := HH1.out
  obtain ⟨ya, yb, db, eb, -, ob, lb, fb⟩ := HH2.out
  simp only [List.cons.injEq, and_true, true_and] at ea eb
  obtain ⟨-, e3⟩ := ea
  obtain ⟨-, e4⟩ := eb
  rw [← e3] at oa
  rw [← e4] at ob
  have oa := OwnK.weaken oa (show w.heap.size ≤ _ by simp)
  have hk5 : ∀ cs ∈ db, cs.length = 5 ∧ ∀ u ∈ cs, u.oneCell' = true := fun cs hc => by
    obtain ⟨i, hi, rfl⟩ := List.mem_iff_getElem.1 hc
    obtain ⟨vn, vu, vt, vr, e2, h6⟩ := fb i hi (by omega)
    obtain ⟨n1, n2, n3, n4⟩ := h6.one
    rw [e2]
    refine ⟨rfl, fun u hu => ?_⟩
    simp only [List.mem_cons, List.not_mem_nil, or_false] at hu
    rcases hu with rfl | rfl | rfl | rfl | rfl
    · rfl
    all_goals assumption
  have hsb := SlK.of_own ob (fun cs hc => (hk5 cs hc).1)
  have hww := HBW.out.size
  have HLA := Lib.hid la; have HLB := Lib.hid lb; have HFA := Lib.hid fa; have HFBB := Lib.hid fb; have HOA := Lib.hid oa; have HOB := Lib.hid ob; have HK5 := Lib.hid hk5
  clear la lb fa fb e3 e4 HH1 HH2
  have HSB := Lib.hid hsb
  have HWW := Lib.hid hww
  clear oa ob hsb hk5 hww
  have HK1 := Lib.hid (show da.length + db.length ≤ maxLen by have := HLA.out; have := HLB.out; have := HL1.out; have := HL2.out; unfold maxLen; omega)
  have HK2 := Lib.hid (show (da.length + db.length) * 104 ≤ 140737488355328 by have := HLA.out; have := HLB.out; have := HL1.out; have := HL2.out; omega)
  go_wp2_with (at_builtin; refine wpl_append_cs _ rfl (.tmp 24) (.tmp 26) elem_dat (by decide) rfl w.heap.size (.slice p3 q3 r3) da rfl HOA.out (.slice t3 t4 t5) db rfl HSB.out (fun cs hc => (HK5.out cs hc).1) (fun cs hc => (HK5.out cs hc).2) HWW.out HK1.out HK2.out ?_; intro v3 w3 hown3 hg3)
  have HOW := Lib.hid hown3; have HGG := Lib.hid hg3
  clear hown3 hg3
  go_ret
  have hA : ∀ j (h1 : j < da.length) (h2 : j < s1.data.length), ∃ vn vu vt vr, da[j] = [.int .i64 s1.data[j].ty, vn, vu, vt, vr] ∧ DRow w3 w.heap.size vn vu vt vr s1.data[j] := fun j h1 h2 => by
    obtain ⟨vn, vu, vt, vr, e2, h6⟩ := HFA.out j h1 h2
    exact ⟨vn, vu, vt, vr, e2, (h6.keptC HOA.out HGG.out).weaken (by simp)⟩
  have hB : ∀ j (h1 : j < db.length) (h2 : j < s2.data.length), ∃ vn vu vt vr, db[j] = [.int .i64 s2.data[j].ty, vn, vu, vt, vr] ∧ DRow w3 w.heap.size vn vu vt vr s2.data[j] := fun j h1 h2 => by
    obtain ⟨vn, vu, vt, vr, e2, h6⟩ := HFBB.out j h1 h2
    exact ⟨vn, vu, vt, vr, e2, (h6.keptC HOA.out HGG.out).weaken HSZ.out⟩
  have hla := HLA.out; have hlb := HLB.out
  refine ⟨v3, rfl, ⟨da ++ db, HOW.out, by rw [HG.out]; simp [hla, hlb], fun i h1 h2' => ?_⟩, HBW.out.grown HGG.out HWW.out (OwnK.base_le HOA.out)⟩
  have h2 : i < (s1.data ++ s2.data).length := by rw [← HG.out]; exact h2'
  have e0 : res[i] = (s1.data ++ s2.data)[i] := by simp only [HG.out]
  rw [e0]
  · by_cases hi : i < da.length
    · have hi2 : i < s1.data.length := by omega
      rw [List.getElem_append_left hi, List.getElem_append_left hi2]
      exact hA i hi hi2
    · rw [List.getElem_append_right (by omega), List.getElem_append_right (by omega)]
      have e : i - da.length = i - s1.data.length := by omega
      simp only [e]
      exact hB _ _ _
end Go.Proofs.YtckammgnmgkieaaGreat

/-
  What refer has told: the list and the map, round by round.
-/
namespace Go.Proofs.YtckammgnmgkieaaGreat
set_option maxRecDepth 20000
open Go.RowKit Go.Shelf
set_option maxRecDepth 20000
set_option linter.unusedVariables false
set_option linter.unusedSimpArgs false
theorem toldM_snoc (h : Nm) : ∀ (l : List Nm) (seen : List (List UInt8)), toldM (l ++ [h]) seen = toldM l seen ++ if textN h ∈ seen ∨ textN h ∈ l.map textN then [] else [h]
  | [], seen => by
    by_cases e : textN h ∈ seen <;> simp [toldM, e]
  | x :: r, seen => by
    rw [List.cons_append]
    unfold toldM
    by_cases e : textN x ∈ seen
    · rw [if_pos e, if_pos e, toldM_snoc h r seen]
      congr 1
      have : (textN h ∈ seen ∨ textN h ∈ (x :: r).map textN) ↔ (textN h ∈ seen ∨ textN h ∈ r.map textN) := by
        rw [List.map_cons, List.mem_cons]
        constructor
        · rintro (h1 | h1 | h1)
          · exact .inl h1
          · exact .inl (h1 ▸ e)
          · exact .inr h1
        · rintro (h1 | h1)
          · exact .inl h1
          · exact .inr (.inr h1)
      simp only [this]
    · rw [if_neg e, if_neg e, toldM_snoc h r (textN x :: seen), List.cons_append]
      congr 2
      have : (textN h ∈ seen ∨ textN h ∈ (x :: r).map textN) ↔ (textN h ∈ textN x :: seen ∨ textN h ∈ r.map textN) := by
        rw [List.map_cons, List.mem_cons, List.mem_cons, or_left_comm, or_assoc]
      simp only [this]
def glsM (rs : List Rc) (hs : List Nm) : List (Nm × List Dat) := (toldM hs []).filterMap fun h => if glueM rs h = [] then none else some (h, glueM rs h)
theorem glsM_take {rs : List Rc} {hs : List Nm} {k : Nat} (h : k < hs.length) : glsM rs (hs.take (k + 1)) = glsM rs (hs.take k) ++ if textN hs[k] ∈ (hs.take k).map textN ∨ glueM rs hs[k] = [] then [] else [(hs[k], glueM rs hs[k])] := by
  unfold glsM
  rw [List.take_succ_eq_append_getElem h, toldM_snoc, List.filterMap_append]
  congr 1
  simp only [List.not_mem_nil, false_or]
  by_cases e : textN hs[k] ∈ (hs.take k).map textN
  · rw [if_pos e, if_pos (.inl e)]; rfl
  · by_cases g : glueM rs hs[k] = []
    · rw [if_neg e, if_pos (.inr g)]; simp [g]
    · rw [if_neg e, if_neg (by rintro (h | h); exact e h; exact g h)]; simp [g]
theorem toldM_len : ∀ (l : List Nm) (seen : List (List UInt8)), (toldM l seen).length ≤ l.length
  | [], seen => by simp [toldM]
  | x :: r, seen => by
    unfold toldM
    split
    · have := toldM_len r seen; simp; omega
    · have := toldM_len r (textN x :: seen); simp; omega
theorem glsM_len (rs : List Rc) (hs : List Nm) : (glsM rs hs).length ≤ hs.length := Nat.le_trans (List.length_filterMap_le _ _) (toldM_len hs [])
def CntD (D : DataW Unit) (ts : List (List UInt8)) : Prop := Maps.IsMap D ∧ ∀ x : List UInt8, D.atKey (.string x) (.lit (.int .i64 0)) = .lit (.int .i64 (ts.count x : Nat))
theorem cntD_nil : CntD (.map []) [] := ⟨Maps.isMap_empty, fun x => rfl⟩
theorem CntD.snoc {D : DataW Unit} {ts : List (List UInt8)} (h : CntD D ts) (t : List UInt8) : CntD (D.put (.string t) (.lit (.int .i64 ((ts.count t + 1 : Nat) : Int)))) (ts ++ [t]) := by
  refine ⟨?_, fun x => ?_⟩
  · obtain ⟨es, rfl⟩ := h.1
    exact ⟨_, DataW.put_eq es _ _⟩
  · by_cases e : x = t
    · subst e
      rw [Maps.atKey_put_same (k := .string x) h.1 trivial, List.count_append]
      simp
    · rw [Maps.atKey_put_other (by intro h; injection h with h; exact e h), h.2 x, List.count_append]
      have : List.count x [t] = 0 := by rw [List.count_eq_zero]; simpa using e
      rw [this, Nat.add_zero]
end Go.Proofs.YtckammgnmgkieaaGreat

/-
  look.refer: what its walk keeps.
-/
namespace Go.Proofs.YtckammgnmgkieaaGreat
set_option maxRecDepth 20000
open Go.RowKit Go.Shelf
set_option maxRecDepth 20000
set_option linter.unusedVariables false
set_option linter.unusedSimpArgs false
theorem elem_glue : ElemK 2 143 82 48 := ⟨Tryz.underlying82, _, _, rfl, rfl, rfl, rfl, rfl⟩
theorem zeroInt (w : World) : (zeroValue 3).run Tryz.prog w = .ok (.int .i64 0) w := by kernel_rfl
theorem keyStr : Maps.Keyed Tryz.prog 9 := Maps.string_keyed Tryz.underlying9
theorem targets_ok {ty : Int} {ds : List Dat} (h : ∀ d ∈ ds, DatOK d) : ∀ n ∈ targetsM ty ds, NmOK n := by
  intro n hn
  unfold targetsM at hn
  split at hn
  · unfold tgtM at hn
    rw [List.mem_filterMap] at hn
    obtain ⟨d, hd, e⟩ := hn
    exact (h d hd).2.2.1 n (List.mem_of_mem_head? (by rw [e]; rfl))
  · cases hn
theorem targets_len (ty : Int) (ds : List Dat) : (targetsM ty ds).length ≤ ds.length := by
  unfold targetsM
  split
  · exact tgtM_len ds
  · simp
theorem OwnNms.elemW {W : World} {base n c : Nat} {a : Option Addr} {ns : List Nm} (h : OwnNms W base (.slice a n c) ns) {k : Nat} (hk : k < ns.length) : ∃ b off x, a = some ⟨b, off, none⟩ ∧ W.cell? ⟨b, off + k, none⟩ = some (slW x) ∧ OwnG 9 strV W base (slW x) ns[k] := by
  obtain ⟨vs, h1, h2, h3⟩ := h
  have hk1 : k < vs.length := by omega
  obtain ⟨a', c', e, _, _, h4⟩ := SlAt.of_own h1
  rcases h4 with h4 | ⟨b, off, e2, hb, h5⟩
  · rw [List.map_eq_nil_iff] at h4; subst h4; simp at hk1
  · injection e with e _ _
    have := h5 k (by rw [List.length_map]; exact hk1)
    rw [List.getElem_map] at this
    obtain ⟨x, hx⟩ : ∃ x : Option Addr × Nat × Nat, slEnc vs[k] = slW x := ⟨_, rfl⟩
    rw [hx] at this
    exact ⟨b, off, x, by rw [e, e2], this, by rw [← hx]; exact h3 k hk1 hk⟩
theorem OwnNms.shapeW {W : World} {base : Nat} {v : Value} {ns : List Nm} (h : OwnNms W base v ns) : ∃ a c, v = .slice a ns.length c := by
  obtain ⟨vs, h1, h2, _⟩ := h
  obtain ⟨a, c, e⟩ := h1.shape
  exact ⟨a, c, by rw [e, h2]⟩
theorem OwnNms.keptC {W W' : World} {base base' k : Nat} {T : TypeId} {v v' : Value} {yss : List (List Value)} {ns : List Nm} (h : OwnNms W base v ns) (h' : OwnC k T W base' v' yss) (hg : W.grownBy W' v'.ownBlock) (h2 : 24 ≠ T) (h3 : 9 ≠ T) : OwnNms W' base v ns := by
  obtain ⟨vs, q1, q2, q3⟩ := h
  exact ⟨vs, q1.kept_c h' h2 hg, q2, fun i a b => (q3 i a b).kept_c h' h3 hg⟩
def GlF (W : World) (base : Nat) (css : List (List Value)) (l : List (Nm × List Dat)) : Prop := css.length = l.length ∧ ∀ j (h1 : j < css.length) (h2 : j < l.length), ∃ x0 x1 : Option Addr × Nat × Nat, css[j] = [slW x0, slW x1] ∧ OwnG 9 strV W base (slW x0) l[j].1 ∧ OwnDts W base (slW x1) l[j].2
theorem GlF.move {W W' : World} {base : Nat} {css : List (List Value)} {l : List (Nm × List Dat)} (h : GlF W base css l) (hf : FarKeep base W W') : GlF W' base css l := by
  refine ⟨h.1, fun j a b => ?_⟩
  obtain ⟨x0, x1, e, k1, k2⟩ := h.2 j a b
  exact ⟨x0, x1, e, k1.move hf, k2.move hf⟩
theorem GlF.keptC {W W' : World} {base base' : Nat} {v' : Value} {yss : List (List Value)} {css : List (List Value)} {l : List (Nm × List Dat)} (h : GlF W base css l) (h' : OwnC 2 143 W base' v' yss) (hg : W.grownBy W' v'.ownBlock) : GlF W' base css l := by
  refine ⟨h.1, fun j a b => ?_⟩
  obtain ⟨x0, x1, e, k1, k2⟩ := h.2 j a b
  exact ⟨x0, x1, e, k1.kept_c h' (by decide) hg, k2.keptC h' hg (by decide) (by decide) (by decide) (by decide) (by decide)⟩
theorem GlF.snoc {W : World} {base : Nat} {css : List (List Value)} {l : List (Nm × List Dat)} (h : GlF W base css l) {x0 x1 : Option Addr × Nat × Nat} {n : Nm} {ds : List Dat} (h0 : OwnG 9 strV W base (slW x0) n) (h1 : OwnDts W base (slW x1) ds) : GlF W base (css ++ [[slW x0, slW x1]]) (l ++ [(n, ds)]) := by
  refine ⟨by simp [h.1], fun i a b => ?_⟩
  by_cases hi : i < css.length
  · have hi2 : i < l.length := by have := h.1; omega
    rw [List.getElem_append_left hi, List.getElem_append_left hi2]
    exact h.2 i hi hi2
  · have e1 : i = css.length := by simp at a; omega
    have e2 : i = l.length := by have := h.1; omega
    rw [List.getElem_append_right (by omega), List.getElem_append_right (by omega)]
    simp only [show i - css.length = 0 by omega, show i - l.length = 0 by omega, List.getElem_cons_zero]
    exact ⟨x0, x1, rfl, h0, h1⟩
theorem GlF.glR {W : World} {base : Nat} {v : Value} {css : List (List Value)} {l : List (Nm × List Dat)} (h : GlF W base css l) (h' : OwnC 2 143 W base v css) : GlR W v l := by
  refine ⟨css, SlK.of_own h' (fun cs hc => ?_), h.1, fun j a b => ?_⟩
  · obtain ⟨i, hi, rfl⟩ := List.mem_iff_getElem.1 hc
    obtain ⟨x0, x1, e, _⟩ := h.2 i hi (by have := h.1; omega)
    rw [e]; rfl
  · obtain ⟨x0, x1, e, k1, k2⟩ := h.2 j a b
    exact ⟨x0, x1, e, k1.nmAt, k2.dtsR⟩
def RfB (n : Nat) (W : World) (l : Nm) (e : Ending) (w' : World) : Prop := ∃ sa sn sc, e = .returned (.slice sa sn sc) ∧ (∀ W', FarKeep n w' W' → NmAt W' (.slice sa sn sc) l) ∧ Below W.heap.size W w'
theorem rfB {n : Nat} {W w' : World} {l : Nm} {e : Ending} (hn : n ≤ W.heap.size) (h : ∃ v', e = .returned v' ∧ OwnG 9 strV w' W.heap.size v' l ∧ Below W.heap.size W w') : RfB n W l e w' := by
  obtain ⟨v, rfl, h1, h2⟩ := h
  obtain ⟨a, c, rfl⟩ := h1.shape
  exact ⟨a, _, c, rfl, fun W' hg => (h1.move (hg.mono hn)).nmAt, h2⟩
def RfA (W : World) (B : Nat) (l : Nm) (e : Ending) (w' : World) : Prop := ∃ sa sn sc, e = .returned (.slice sa sn sc) ∧ (∀ W', FarKeep (B + 1) w' W' → NmAt W' (.slice sa sn sc) l) ∧ Below W.heap.size W w' ∧ w'.heap[B]? = some (.cells #[.int .i64 0, .slice none 0 0, .slice none 0 0, .bool false, .slice none 0 0] 84)
theorem rfA {W w' : World} {B : Nat} {l : Nm} {e : Ending} (hB : B < W.heap.size) (hX : W.heap[B]? = some (.cells #[.int .i64 0, .slice none 0 0, .slice none 0 0, .bool false, .slice none 0 0] 84)) (h : ∃ v', e = .returned v' ∧ OwnG 9 strV w' W.heap.size v' l ∧ Below W.heap.size W w') : RfA W B l e w' := by
  obtain ⟨v, rfl, h1, h2⟩ := h
  obtain ⟨a, c, rfl⟩ := h1.shape
  exact ⟨a, _, c, rfl, fun W' hg => (h1.move (hg.mono hB)).nmAt, h2, (h2.block B hB).trans hX⟩
def RfW (W0 : World) (vd : Value) (n : Nm) (Bx : Nat) (vn : Value) (W : World) : Prop := W0.heap.size ≤ Bx ∧ W.heap[Bx]? = some (.cells #[.int .i64 4, vd, vn, .bool false, .slice none 0 0] 84) ∧ (∀ W', (∀ g, W0.heap.size ≤ g → g < W.heap.size → g ≠ Bx → W'.heap[g]? = W.heap[g]?) → NmAt W' vn n) ∧ Below W0.heap.size W0 W
end Go.Proofs.YtckammgnmgkieaaGreat

/-
  look.refer.
-/
namespace Go.Proofs.YtckammgnmgkieaaGreat
set_option maxRecDepth 20000
open Go.RowKit Go.Shelf Go.WideMaps Go.Maps
set_option maxRecDepth 20000
set_option linter.unusedVariables false
set_option linter.unusedSimpArgs false
theorem textN_ok {n : Nm} (h : NmOK n) : (textN n).length ≤ 4398047559681 := by
  unfold textN
  split
  · simp
  · have : ∀ m : Nm, (∀ x ∈ m, x.length ≤ 1048576) → (m.flatMap fun x => textL x ++ [46]).length ≤ m.length * 4194305 := by
      intro m
      induction m with
      | nil => simp
      | cons x r ih =>
        intro hm
        have h3 := textL_le x
        have h4 := hm x (by simp)
        have h5 := ih (fun y hy => hm y (by simp [hy]))
        simp only [List.flatMap_cons, List.length_append, List.length_cons, List.length_nil] at h5 ⊢
        omega
    have h6 := this n h.2
    have h7 := h.1
    omega
theorem key_text (t : List UInt8) (h : t.length ≤ 4398047559681) : keyOf Tryz.prog 9 (.string ⟨t.toArray⟩) = some (.string t) :=
  keyOf_string_mk Tryz.underlying9 (by unfold maxLen; show t.toArray.size ≤ _; rw [List.size_toArray]; omega)
theorem count_pos {ts : List (List UInt8)} {t : List UInt8} : t ∈ ts ↔ 0 < ts.count t := by rw [List.count_pos_iff]
set_option maxRecDepth 100000 in
set_option maxHeartbeats 16000000 in
theorem look_refer (N : Nat) {w : World} {za v1 : Option Addr} {zn zc m c : Nat} {o n : Nm} {rs : List Rc} {vn : Value} {cs : List Value} {ns : St} (hz : ZonS w za zn zc v1 m c o rs) (hO : NmAt w vn n) (hkn : NmOK n) (hS : ∀ W', FarKeep N w W' → SetR W' cs ns) (hN : N ≤ w.heap.size) (hD : ∀ d ∈ ns.data, DatOK d) (hDl : ns.data.length ≤ 1048576) :
    Calls Tryz.prog 92 #[.agg #[.slice za zn zc, .slice v1 m c], vn, .agg cs.toArray] w (LkPost N w (referM rs n ns)) := by
  obtain ⟨⟨p0, q0, k0⟩, ⟨p3, q3, k3⟩, rfl⟩ := (hS w (FarKeep.refl _ _)).shape
  have HCL := Lib.hid (fun (W : World) (hb : Below w.heap.size w W) => clone_Name vn n W (hO.below hb).1 (hO.below hb).2 (by have := hkn.1; omega))
  have HTG := Lib.hid (fun (W : World) (hb : Below w.heap.size w W) => by
    obtain ⟨dx, k1, k2, -⟩ := (hS W (FarKeep.of_below hb)).dts (x0 := (p0, q0, k0)) (x3 := (p3, q3, k3))
    exact rset_Targets p0 q0 k0 ns.ty (ns.ttl : Int) p3 ns.data.length k3 dx ns.data W k1 k2 hD hDl)
  have HGL := Lib.hid (fun (vh : Value) (h : Nm) (W : World) (hb : Below w.heap.size w W) (h1 : NmAt W vh h) (h2 : NmOK h) => zone_GlueF (hz.below hb) h1 h2)
  have HTO := Lib.hid (targets_ok (ty := ns.ty) hD)
  have HTL := Lib.hid (show (targetsM ns.ty ns.data).length ≤ 1048576 by have := targets_len ns.ty ns.data; omega)
  have HRF := Lib.hid (show referM rs n ns = ⟨4, ns.data, n, false, glsM rs (targetsM ns.ty ns.data)⟩ from rfl)
  have HSD := Lib.hid (fun W' (hf : FarKeep N w W') => by
    obtain ⟨dx, k1, k2, -⟩ := (hS W' hf).dts (x0 := (p0, q0, k0)) (x3 := (p3, q3, k3))
    exact (⟨dx, k1, k2⟩ : DtsR W' (.slice p3 ns.data.length k3) ns.data))
  have HNN := Lib.hid hN
  generalize referM rs n ns = res at *
  generalize targetsM ns.ty ns.data = hosts at *
  unfold TgtPost at HTG
  unfold GluePostF at HGL
  obtain ⟨ao, co, rfl, -⟩ := nmAt_sl.1 hO
  generalize (List.map strV n).length = qo at *
  obtain ⟨nd, hnd⟩ : ∃ nd, ns.data.length = nd := ⟨_, rfl⟩
  rw [hnd] at HTG HSD ⊢
  clear hz hO hkn hS hN hD hDl hnd
  generalize (ns.ttl : Int) = tt at *
  generalize ns.ty = ty at *
  generalize ns.data = dats at *
  have hmm := @run_makeMap Tryz.prog
  obtain ⟨W0, hW0⟩ : ∃ W0, ((w.alloc (.cells #[.slice za zn zc, .slice v1 m c] 57)).alloc (.cells #[.slice p0 q0 k0, .int .i64 ty, .int .u32 tt, .slice p3 nd k3] 38)).alloc (.cells #[.int .i64 0, .slice none 0 0, .slice none 0 0, .bool false, .slice none 0 0] 84) = W0 := ⟨_, rfl⟩
  have hB0 : Below w.heap.size w W0 := by rw [← hW0]; exact (((Below.refl w.heap.size w).alloc (Nat.le_refl _) _).alloc (by simp) _).alloc (by simp; omega) _
  have hz0 : W0.heap.size = w.heap.size + 3 := by rw [← hW0]; simp
  have x0 : W0.heap[w.heap.size]? = some (.cells #[.slice za zn zc, .slice v1 m c] 57) := by
    rw [← hW0]; exact (Below.heap_alloc _ _ _ (by simp; omega)).trans ((Below.heap_alloc _ _ _ (by simp)).trans (knew w _))
  have x1 : W0.heap[w.heap.size + 1]? = some (.cells #[.slice p0 q0 k0, .int .i64 ty, .int .u32 tt, .slice p3 nd k3] 38) := by
    have h := knew (w.alloc (.cells #[.slice za zn zc, .slice v1 m c] 57)) (.cells #[.slice p0 q0 k0, .int .i64 ty, .int .u32 tt, .slice p3 nd k3] 38)
    rw [World.size_alloc] at h
    rw [← hW0]; exact (Below.heap_alloc _ _ _ (by simp)).trans h
  have x2 : W0.heap[w.heap.size + 1 + 1]? = some (.cells #[.int .i64 0, .slice none 0 0, .slice none 0 0, .bool false, .slice none 0 0] 84) := by
    have h := knew ((w.alloc (.cells #[.slice za zn zc, .slice v1 m c] 57)).alloc (.cells #[.slice p0 q0 k0, .int .i64 ty, .int .u32 tt, .slice p3 nd k3] 38)) (.cells #[.int .i64 0, .slice none 0 0, .slice none 0 0, .bool false, .slice none 0 0] 84)
    rw [World.size_alloc, World.size_alloc] at h
    rw [← hW0]; exact h
  have X0 := Lib.hid x0; have X1 := Lib.hid x1; have X2 := Lib.hid x2; have HB0 := Lib.hid hB0; have HZ0 := Lib.hid hz0
  have hS0 : W0.cell? ⟨w.heap.size + 1, 3, none⟩ = some (.slice p3 nd k3) ∧ Below W0.heap.size W0 W0 := ⟨kcell x1 3 _ rfl, Below.refl _ _⟩
  have hKB : ∀ W, Below W0.heap.size W0 W → W.cell? ⟨w.heap.size + 1, 3, none⟩ = some (.slice p3 nd k3) ∧ Below W0.heap.size W0 W := fun W hb => by
    have h := (hb.block _ (kblock_lt X1.out)).trans X1.out
    exact ⟨kcell h 3 _ rfl, hb⟩
  have hdr : ∀ W, Below W0.heap.size W0 W → Below W0.heap.size W0 W.drew := fun W h => h.trans ⟨rfl, rfl, rfl, Nat.le_refl _, fun _ _ => rfl⟩
  have KR := Lib.hid (fun W (h : W.cell? ⟨w.heap.size + 1, 3, none⟩ = some (.slice p3 nd k3) ∧ Below W0.heap.size W0 W) => hKB _ (hdr W h.2))
  have KA := Lib.hid (fun W ob (h : W.cell? ⟨w.heap.size + 1, 3, none⟩ = some (.slice p3 nd k3) ∧ Below W0.heap.size W0 W) => hKB _ (h.2.alloc h.2.size ob))
  have KS := Lib.hid (fun W W' (h : W.cell? ⟨w.heap.size + 1, 3, none⟩ = some (.slice p3 nd k3) ∧ Below W0.heap.size W0 W) (hb : Below W.heap.size W W') => hKB W' (h.2.trans (hb.mono h.2.size)))
  have KP := Lib.hid (fun W u0 u1 u2 u3 u4 (h : W.cell? ⟨w.heap.size + 1, 3, none⟩ = some (.slice p3 nd k3) ∧ Below W0.heap.size W0 W) => hKB _ (put5_below h.2 (Nat.le_refl W0.heap.size) u0 u1 u2 u3 u4))
  unfold put5 at KP
  have HAd : Hid (Calls Tryz.prog 64 #[.slice ao qo co] (W0.alloc (.cells #[.int .i64 0, .slice none 0 0, .slice none 0 0, .bool false, .slice none 0 0] 84)).drew (RfA (W0.alloc (.cells #[.int .i64 0, .slice none 0 0, .slice none 0 0, .bool false, .slice none 0 0] 84)).drew W0.heap.size n)) := Lib.hid ((HCL.out _ (HB0.out.trans ((hdr _ ((Below.refl _ W0).alloc (Nat.le_refl _) _)).mono HB0.out.size))).mono (fun e w' h => rfA (by simp) (knewD W0 _) h))
  have HAd2 : Hid (Calls Tryz.prog 64 #[.slice ao qo co] (W0.drew.alloc (.cells #[.int .i64 0, .slice none 0 0, .slice none 0 0, .bool false, .slice none 0 0] 84)) (RfA (W0.drew.alloc (.cells #[.int .i64 0, .slice none 0 0, .slice none 0 0, .bool false, .slice none 0 0] 84)) W0.heap.size n)) := Lib.hid ((HCL.out _ (HB0.out.trans (((hdr _ (Below.refl _ W0)).alloc (Nat.le_refl _) _).mono HB0.out.size))).mono (fun e w' h => rfA (Nat.lt_of_lt_of_eq (Nat.lt_succ_self _) (World.size_alloc W0.drew _).symm) (knew W0.drew _) h))
  have HBd := Lib.hid (fun W (h : W.cell? ⟨w.heap.size + 1, 3, none⟩ = some (.slice p3 nd k3) ∧ Below W0.heap.size W0 W) => (HCL.out W (HB0.out.trans (h.2.mono HB0.out.size))).mono (fun e w' hh => rfB (n := W0.heap.size) h.2.size hh))
  clear x0 x1 x2 hB0 hz0 hKB hdr
  go_enter Tryz.func92, Tryz.ntmps92
  go_upto_region 1 with (fail)
  clear hW0
  go_cut [7] from 13 to 17 (fun v wx => ∃ (Bx : Nat) (sa : Option Addr) (sn sc : Nat), v = .pointer (some ⟨Bx, 0, none⟩) ∧ Hid (RfW W0 (.slice p3 nd k3) n Bx (.slice sa sn sc) wx))
  case first =>
    go_region_held3 (fun W => W.cell? ⟨w.heap.size + 1, 3, none⟩ = some (.slice p3 nd k3) ∧ Below W0.heap.size W0 W)
      (first | with_reducible assumption | (with_reducible exact KR.out _ (by with_reducible assumption)) | (with_reducible exact KA.out _ _ (by with_reducible assumption)) | (with_reducible exact KR.out _ (KA.out _ _ (by with_reducible assumption))) | (with_reducible exact KA.out _ _ (KR.out _ (by with_reducible assumption))) | (with_reducible exact KP.out _ _ _ _ _ _ (by with_reducible assumption)))
      (first
        | ((with_reducible refine (HAd.out).mono ?_); rintro e w7 ⟨sa, sn, sc, rfl, hs7, hb7, hx7⟩; have hS2 := KS.out _ _ (by with_reducible assumption) hb7; have fz0 := kfrozen hx7 0; have fz1 := kfrozen hx7 1; have fz2 := kfrozen hx7 2; have fz3 := kfrozen hx7 3; have fz4 := kfrozen hx7 4; have cl0 := kcell hx7 0 _ rfl; have cl1 := kcell hx7 1 _ rfl; have cl2 := kcell hx7 2 _ rfl; have cl3 := kcell hx7 3 _ rfl; have cl4 := kcell hx7 4 _ rfl; have HSA := Lib.hid hs7; have HXA := Lib.hid hx7; clear hs7 hx7)
        | ((with_reducible refine (HAd2.out).mono ?_); rintro e w7 ⟨sa, sn, sc, rfl, hs7, hb7, hx7⟩; have hS2 := KS.out _ _ (by with_reducible assumption) hb7; have fz0 := kfrozen hx7 0; have fz1 := kfrozen hx7 1; have fz2 := kfrozen hx7 2; have fz3 := kfrozen hx7 3; have fz4 := kfrozen hx7 4; have cl0 := kcell hx7 0 _ rfl; have cl1 := kcell hx7 1 _ rfl; have cl2 := kcell hx7 2 _ rfl; have cl3 := kcell hx7 3 _ rfl; have cl4 := kcell hx7 4 _ rfl; have HSA := Lib.hid hs7; have HXA := Lib.hid hx7; clear hs7 hx7)
        | ((with_reducible refine (HBd.out _ (by with_reducible assumption)).mono ?_); rintro e w7 ⟨sa, sn, sc, rfl, hs7, hb7⟩; have hS2 := KS.out _ _ (by with_reducible assumption) hb7; have HSB := Lib.hid hs7; clear hs7))
    all_goals
      obtain ⟨h71, h73⟩ := hS2
      first
      | (have hq := HSB
         clear hq
         go_wp2_with fail
         go_meet
         refine ⟨w7.heap.size, sa, sn, sc, rfl, Lib.hid ⟨h73.size, knew w7 _, fun W' hg => HSB.out W' (fun g q1 q2 => (hg g q1 (by rw [World.size_alloc]; omega) (by omega)).trans (Below.heap_alloc _ _ _ q2)), h73.alloc h73.size _⟩⟩)
      | (have hq := HSA
         clear hq
         go_wp2_with fail
         go_meet
         refine ⟨W0.heap.size, sa, sn, sc, rfl, Lib.hid ⟨Nat.le_refl _, put5_box HXA.out _ _ _ _ _, fun W' hg => HSA.out W' (fun g q1 q2 => (hg g (by omega) (Nat.lt_of_lt_of_le q2 (put5_grown w7 W0.heap.size _ _ _ _ _).size) (by omega)).trans ((put5_grown w7 W0.heap.size _ _ _ _ _).block g q2 (fun e => by injection e with e; omega))), put5_below h73 (Nat.le_refl _) _ _ _ _ _⟩⟩)
  case rest =>
  rename World => W1
  obtain ⟨Bx, sa, sn, sc, rfl, HNV⟩ := hcut
  clear hS0 KR KA KS KP HAd HAd2 HBd HCL
  obtain ⟨hbx, hx1, hst1, hb01⟩ := HNV.out
  have hb1 := HB0.out.trans (hb01.mono HB0.out.size)
  have hA1 := (Below.refl W1.heap.size W1).alloc (Nat.le_refl _) (.map #[] 0)
  have hb02 := hb01.trans (hA1.mono hb01.size)
  have hb2 := hb1.trans (hA1.mono hb1.size)
  have x12 := (hb02.block _ (kblock_lt X1.out)).trans X1.out
  have y0 := kcell x12 0 _ rfl; have y1 := kcell x12 1 _ rfl; have y2 := kcell x12 2 _ rfl; have y3 := kcell x12 3 _ rfl
  have htg := HTG.out _ hb2
  have HB02 := Lib.hid hb02
  have HBX := Lib.hid (kblock_lt hx1)
  have HX := Lib.hid ((hA1.block _ (kblock_lt hx1)).trans hx1)
  have HMP := Lib.hid (World.ownsMap_made W1 Tryz.prog 9 (plainElem (H := Unit) Tryz.prog 3))
  have HSZ := Lib.hid (show (W1.alloc (.map #[] 0)).heap.size = W1.heap.size + 1 by simp)
  have HST := Lib.hid (fun (W' : World) (hg : ∀ g, W0.heap.size ≤ g → g < W1.heap.size → g ≠ Bx → W'.heap[g]? = W1.heap[g]?) => hst1 W' hg)
  have HBXL := Lib.hid hbx
  clear HNV hbx hx1 hst1 hb01 hb1 hA1 hb02 hb2 x12 HTG
  go_wp2_with fail
  refine htg.mono ?_
  rintro e w2 ⟨vh, rfl, ho2, hb2⟩
  obtain ⟨ha, hc, rfl⟩ := ho2.shapeW
  have HX2 := Lib.hid ((hb2.block _ (by rw [HSZ.out]; have := HBX.out; omega)).trans HX.out)
  have HM2 := Lib.hid (HMP.out.kept ⟨hb2.os, hb2.tape, hb2.output, hb2.size, fun g q1 _ => hb2.block g q1⟩ (row := none) (by simp))
  have HB2 := Lib.hid (HB02.out.trans (hb2.mono HB02.out.size))
  have HSM := Lib.hid (show ∀ g, W0.heap.size ≤ g → g < W1.heap.size → g ≠ Bx → w2.heap[g]? = W1.heap[g]? from fun g q1 q2 q3 => (hb2.block g (by rw [HSZ.out]; omega)).trans (Below.heap_alloc _ _ _ q2))
  have HS2 := Lib.hid hb2.size
  obtain ⟨T0, hT0⟩ : ∃ T0, (W1.alloc (.map #[] 0)).heap.size = T0 := ⟨_, rfl⟩
  rw [hT0] at ho2 HSZ HS2
  have HO2 := Lib.hid ho2
  obtain ⟨hn, hhn⟩ : ∃ hn, hosts.length = hn := ⟨_, rfl⟩
  rw [hhn] at HTL HO2 ⊢
  have HHN := Lib.hid hhn
  clear htg ho2 hb2 HX HMP HB02 hT0 hhn y0 y1 y2 y3
  go_wp2
  clear hmm
  have hhl := HTL.out
  go_loopw [22] (fun vi wr => ∃ (k : Nat) (ga : Option Addr) (gn gc : Nat) (css : List (List Value)) (D : DataW Unit), vi = .int .i64 k ∧ k ≤ hn ∧ Hid (Below W0.heap.size W0 wr ∧ T0 ≤ wr.heap.size) ∧ Hid (wr.heap[Bx]? = some (.cells #[.int .i64 4, .slice p3 nd k3, .slice sa sn sc, .bool false, .slice ga gn gc] 84)) ∧ Hid (OwnNms wr T0 (.slice ha hn hc) hosts) ∧ Hid (OwnC 2 143 wr T0 (.slice ga gn gc) css) ∧ Hid (GlF wr T0 css (glsM rs (hosts.take k))) ∧ Hid (wr.ownsMap Tryz.prog 9 (plainElem Tryz.prog 3) W1.heap.size k D) ∧ Hid (CntD D ((hosts.take k).map textN)) ∧ Hid (∀ g, W0.heap.size ≤ g → g < W1.heap.size → g ≠ Bx → wr.heap[g]? = W1.heap[g]?)) (fun vi wr => hn - (intOf vi).toNat)
  case atStart => exact ⟨0, none, 0, 0, [], .map [], rfl, Nat.zero_le _, Lib.hid ⟨HB2.out, HS2.out⟩, HX2, HO2, Lib.hid (OwnK.nil _ _), Lib.hid ⟨rfl, fun j a => absurd a (by simp)⟩, HM2, Lib.hid cntD_nil, HSM⟩
  case round =>
    obtain ⟨k, ga, gn, gc, css, D, rfl, hk, HB, HX, HO, HG, HGF, HM, HC, HSA⟩ := hrel
    clear HB2 HX2 HO2 HM2 HSM HS2
    by_cases hlt : k < hn
    · have hltz : (k : Int) < (hn : Int) := by omega
      have hkl : k < hosts.length := by rw [HHN.out]; exact hlt
      obtain ⟨b, off, x, rfl, hcx, hox⟩ := HO.out.elemW hkl
      have hok := HTO.out _ (List.getElem_mem hkl)
      have htk : (hosts.take (k + 1)).map textN = (hosts.take k).map textN ++ [textN hosts[k]] := by rw [List.take_succ_eq_append_getElem hkl, List.map_append]; rfl
      have hgk := glsM_take (rs := rs) hkl
      obtain ⟨h, hh⟩ : ∃ h, hosts[k] = h := ⟨_, rfl⟩
      rw [hh] at hox hok htk hgk
      obtain ⟨t, ht⟩ : ∃ t, textN h = t := ⟨_, rfl⟩
      rw [ht] at htk hgk
      have htl : t.length ≤ 4398047559681 := by rw [← ht]; exact textN_ok hok
      have htx := kn_NText (slW x) h t ht wr hox.nmAt hok
      obtain ⟨xa, xn, xc⟩ := x
      have hkey := key_text t htl
      obtain ⟨ct, hct⟩ : ∃ ct, ((hosts.take k).map textN).count t = ct := ⟨_, rfl⟩
      have hcl : ct ≤ 1048576 := by rw [← hct]; have q := List.count_le_length (a := t) (l := (hosts.take k).map textN); rw [List.length_map, List.length_take] at q; omega
      have HHX := Lib.hid hox; have HOK := Lib.hid hok; have HTK := Lib.hid htk; have HGK := Lib.hid hgk; have HCT := Lib.hid hct
      clear hh ht htl hox hok htk hgk hct hkl
      generalize (⟨t.toArray⟩ : ByteArray) = s at *
      unfold slW at htx hcx
      simp only at htx hcx
      go_wp2_with fail
      refine htx.mono ?_
      rintro e w3 ⟨rfl, hb3⟩
      have HM3 := Lib.hid (HM.out.kept ⟨hb3.os, hb3.tape, hb3.output, hb3.size, fun g q1 _ => hb3.block g q1⟩ (row := none) (by simp))
      have HX3 := Lib.hid ((hb3.block _ (kblock_lt HX.out)).trans HX.out)
      have HO3 := Lib.hid (HO.out.below hb3)
      have HG3 := Lib.hid (OwnK.below HG.out hb3)
      have HGF3 := Lib.hid (HGF.out.move (FarKeep.of_below hb3))
      have HHX3 := Lib.hid (HHX.out.below hb3)
      have HB3 : Hid (Below W0.heap.size W0 w3 ∧ T0 ≤ w3.heap.size) := Lib.hid ⟨HB.out.1.trans (hb3.mono HB.out.1.size), Nat.le_trans HB.out.2 hb3.size⟩
      have HSA3 : Hid (∀ g, W0.heap.size ≤ g → g < W1.heap.size → g ≠ Bx → w3.heap[g]? = W1.heap[g]?) := Lib.hid (fun g q1 q2 q3 => (hb3.block g (by have := HB.out.2; have := HSZ.out; omega)).trans (HSA.out g q1 q2 q3))
      have HAT : Hid (∀ c : Int, D.atKey (.string t) (.lit (.int .i64 0)) = .lit (.int .i64 c) → c = (ct : Int)) := Lib.hid (fun c e => by
        rw [HC.out.2 t, HCT.out] at e
        injection e with e; injection e with _ e; exact e.symm)
      clear htx hb3 hcx HM HX HO HG HGF HHX HB HSA
      have HCS : Hid (CntD (D.put (.string t) (.lit (.int .i64 ((ct : Int) + 1)))) ((hosts.take (k + 1)).map textN)) := Lib.hid (by
        have q := HC.out.snoc t
        rw [HCT.out] at q
        rw [HTK.out]
        simpa using q)
      have HAT2 : Hid (∀ c : Int, (D.put (.string t) (.lit (.int .i64 ((ct : Int) + 1)))).atKey (.string t) (.lit (.int .i64 0)) = .lit (.int .i64 c) → c = (ct : Int) + 1) := Lib.hid (fun c e => by
        rw [Maps.atKey_put_same (k := .string t) HC.out.1 trivial] at e
        injection e with e; injection e with _ e; exact e.symm)
      have HUP : Hid (∀ w4, w3.grownBy w4 (some W1.heap.size) → (Below W0.heap.size W0 w4 ∧ T0 ≤ w4.heap.size) ∧ w4.heap[Bx]? = some (.cells #[.int .i64 4, .slice p3 nd k3, .slice sa sn sc, .bool false, .slice ga gn gc] 84) ∧ FarKeep T0 w3 w4 ∧ (∀ g, W0.heap.size ≤ g → g < W1.heap.size → g ≠ Bx → w4.heap[g]? = W1.heap[g]?)) := Lib.hid (fun w4 hg4 => ⟨⟨HB3.out.1.grown hg4 HB3.out.1.size (fun j hj => by cases hj; have := HBX.out; have := HBXL.out; omega), Nat.le_trans HB3.out.2 hg4.size⟩, (hg4.block Bx (kblock_lt HX3.out) (fun e => by injection e with e; have := HBX.out; omega)).trans HX3.out, fun g q1 q2 => hg4.block g q2 (fun e => by injection e with e; have := HSZ.out; omega), fun g q1 q2 q3 => (hg4.block g (by have := HB3.out.2; have := HSZ.out; omega) (fun e => by injection e with e; omega)).trans (HSA3.out g q1 q2 q3)⟩)
      have HCT0 : Hid (t ∈ (hosts.take k).map textN ↔ 0 < ct) := Lib.hid (by rw [← HCT.out]; exact count_pos)
      clear HC HCT HTK
      by_cases hpos : 0 < ct
      · have hgt : (1 : Int) < (ct : Int) + 1 := by omega
        have HGK : Hid (glsM rs (hosts.take (k + 1)) = glsM rs (hosts.take k)) := Lib.hid (by rw [HGK.out, if_pos (.inl (HCT0.out.2 hpos)), List.append_nil])
        go_wp2_with (first
          | (at_lookup; refine wpList_lookup_own_int _ rfl _ _ 190 rfl 9 3 .i64 keyStr Tryz.underlying190 Tryz.underlying3 (zeroInt _) W1.heap.size k D rfl HM3.out _ _ rfl hkey ?_; intro c hat hwc; obtain rfl := HAT.out c hat; clear hat hwc)
          | (at_mapUpdate; refine wpList_mapUpdate_own _ rfl _ _ _ 190 rfl 9 3 keyStr Tryz.underlying190 _ W1.heap.size k D rfl HM3.out (by unfold maxLen; omega) _ _ _ rfl rfl hkey _ [] (plainElem_int Tryz.underlying3 (WalkArith.wf_i64 (by omega))) ?_; intro w4 hown4 hg4; have HM4 := Lib.hid hown4; have HU4 := Lib.hid (HUP.out w4 hg4); clear hown4 hg4)
          | (at_lookup; refine wpList_lookup_own_int _ rfl _ _ 190 rfl 9 3 .i64 keyStr Tryz.underlying190 Tryz.underlying3 (zeroInt _) W1.heap.size (k + 1) _ rfl HM4.out _ _ rfl hkey ?_; intro c hat hwc; obtain rfl := HAT2.out c hat; clear hat hwc)
          | fail)
        obtain ⟨u1, u2, u3, u4⟩ := HU4.out
        have R3 := Lib.hid (HO3.out.move u3)
        have R4 := Lib.hid (OwnK.move HG3.out u3)
        have R5 : Hid (GlF _ T0 css (glsM rs (hosts.take (k + 1)))) := Lib.hid (by rw [HGK.out]; exact HGF3.out.move u3)
        have U1 := Lib.hid u1; have U2 := Lib.hid u2; have U4 := Lib.hid u4
        clear u1 u2 u3 u4 HO3 HG3 HGF3 HX3 HM3 HB3 HSA3 HUP HU4 HHX3
        go_roundw
        case measure => simp [intOf]; omega
        case rel => exact ⟨k + 1, ga, gn, gc, css, _, by go_num, by omega, U1, U2, R3, R4, R5, HM4, HCS, U4⟩
      · obtain rfl : ct = 0 := by omega
        have HGL4 := Lib.hid (fun (vh : Value) (W : World) (hb : Below w.heap.size w W) (h1 : NmAt W vh h) => HGL.out vh h W hb h1 HOK.out)
        clear hpos HGL
        go_wp2_with (first
          | (at_lookup; refine wpList_lookup_own_int _ rfl _ _ 190 rfl 9 3 .i64 keyStr Tryz.underlying190 Tryz.underlying3 (zeroInt _) W1.heap.size k D rfl HM3.out _ _ rfl hkey ?_; intro c hat hwc; obtain rfl := HAT.out c hat; clear hat hwc)
          | (at_mapUpdate; refine wpList_mapUpdate_own _ rfl _ _ _ 190 rfl 9 3 keyStr Tryz.underlying190 _ W1.heap.size k D rfl HM3.out (by unfold maxLen; omega) _ _ _ rfl rfl hkey _ [] (plainElem_int Tryz.underlying3 (WalkArith.wf_i64 (by omega))) ?_; intro w4 hown4 hg4; have HM4 := Lib.hid hown4; have HU4 := Lib.hid (HUP.out w4 hg4); have x04 := (HU4.out.1.1.block _ (kblock_lt X0.out)).trans X0.out; have y0 := kcell x04 0 _ rfl; have y1 := kcell x04 1 _ rfl; clear hown4 hg4 x04)
          | (at_lookup; refine wpList_lookup_own_int _ rfl _ _ 190 rfl 9 3 .i64 keyStr Tryz.underlying190 Tryz.underlying3 (zeroInt _) W1.heap.size (k + 1) _ rfl HM4.out _ _ rfl hkey ?_; intro c hat hwc; obtain rfl := HAT2.out c hat; clear hat hwc)
          | fail)
        obtain ⟨u1, u2, u3, u4⟩ := HU4.out
        have HO4 := Lib.hid (HO3.out.move u3)
        have HG4 := Lib.hid (OwnK.move HG3.out u3)
        have HGF4 := Lib.hid (HGF3.out.move u3)
        have HX4 := Lib.hid (HHX3.out.move u3)
        have hgl := HGL4.out (.slice xa xn xc) w4 (HB0.out.trans (u1.1.mono HB0.out.size)) HX4.out.nmAt
        have U1 := Lib.hid u1; have U2 := Lib.hid u2; have U4 := Lib.hid u4
        clear u1 u2 u3 u4 HO3 HG3 HGF3 HX3 HM3 HB3 HSA3 HUP HU4 HHX3 HGL4 HAT HAT2
        go_wp2_with fail
        refine hgl.mono ?_
        rintro e w5 ⟨vd, rfl, hd5, hb5⟩
        obtain ⟨da, dc, rfl⟩ : ∃ a c, vd = .slice a (glueM rs h).length c := by
          obtain ⟨ds, q1, q2, _⟩ := hd5
          obtain ⟨a, c, e⟩ := OwnK.shape q1
          exact ⟨a, c, by rw [e, q2]⟩
        obtain ⟨gl, hgl2⟩ : ∃ gl, glueM rs h = gl := ⟨_, rfl⟩
        rw [hgl2] at hd5 HGK ⊢
        obtain ⟨dn, hdn⟩ : ∃ dn, gl.length = dn := ⟨_, rfl⟩
        rw [hdn]
        have HM5 := Lib.hid (HM4.out.kept ⟨hb5.os, hb5.tape, hb5.output, hb5.size, fun g q1 _ => hb5.block g q1⟩ (row := none) (by simp))
        have HX5 := Lib.hid ((hb5.block _ (kblock_lt U2.out)).trans U2.out)
        have HO5 := Lib.hid (HO4.out.below hb5)
        have HG5 := Lib.hid (OwnK.below HG4.out hb5)
        have HGF5 := Lib.hid (HGF4.out.move (FarKeep.of_below hb5))
        have HH5 := Lib.hid (HX4.out.below hb5)
        have HD5 : Hid (OwnDts w5 T0 (.slice da dn dc) gl) := Lib.hid (by rw [← hdn]; exact hd5.weaken U1.out.2)
        have HB5 : Hid (Below W0.heap.size W0 w5 ∧ T0 ≤ w5.heap.size) := Lib.hid ⟨U1.out.1.trans (hb5.mono U1.out.1.size), Nat.le_trans U1.out.2 hb5.size⟩
        have HS5 : Hid (∀ g, W0.heap.size ≤ g → g < W1.heap.size → g ≠ Bx → w5.heap[g]? = W1.heap[g]?) := Lib.hid (fun g q1 q2 q3 => (hb5.block g (by have := U1.out.2; have := HSZ.out; omega)).trans (U4.out g q1 q2 q3))
        have HDN := Lib.hid hdn
        have HNT : Hid (¬ t ∈ (hosts.take k).map textN) := Lib.hid (fun e => by have := HCT0.out.1 e; omega)
        clear hgl hgl2 hd5 hb5 HM4 U1 U2 HO4 HG4 HGF4 HX4 U4 hdn HCT0 y0 y1
        by_cases hd0 : dn = 0
        · have HGK : Hid (glsM rs (hosts.take (k + 1)) = glsM rs (hosts.take k)) := Lib.hid (by rw [HGK.out, if_pos (.inr (List.eq_nil_of_length_eq_zero (by rw [HDN.out]; exact hd0))), List.append_nil])
          have R5 : Hid (GlF w5 T0 css (glsM rs (hosts.take (k + 1)))) := Lib.hid (by rw [HGK.out]; exact HGF5.out)
          subst hd0
          go_wp2
          go_roundw
          case measure => simp [intOf]; omega
          case rel => exact ⟨k + 1, ga, gn, gc, css, _, by go_num, by omega, HB5, HX5, HO5, HG5, R5, HM5, HCS, HS5⟩
        · have hdz : (0 : Int) < (dn : Int) := by omega
          have HGK : Hid (glsM rs (hosts.take (k + 1)) = glsM rs (hosts.take k) ++ [(h, gl)]) := Lib.hid (by rw [HGK.out, if_neg (by rintro (e | e); exact HNT.out e; rw [e] at HDN; exact hd0 HDN.out.symm)])
          have HLN := Lib.hid (show css.length ≤ 1048576 by have q1 := HGF5.out.1; have q2 := glsM_len rs (hosts.take k); rw [List.length_take] at q2; omega)
          have y4 := kcell HX5.out 4 _ rfl
          go_wp2_with (at_builtin; refine wpl_append_c' w5 rfl (.tmp 43) (.tmp 47) elem_glue (by decide) rfl T0 (.slice ga gn gc) css rfl HG5.out [.slice xa xn xc, .slice da dn dc] rfl (by intro u hu; simp only [List.mem_cons, List.not_mem_nil, or_false] at hu; rcases hu with rfl | rfl <;> rfl) 1 (by rfl) HB5.out.2 (by have := HLN.out; unfold maxLen; omega) (by have := HLN.out; omega) ?_; intro v6 w6 hown6 hg6; have x6 := (hg6.block Bx (kblock_lt HX5.out) (fun e => by have := OwnK.base_le HG5.out Bx e.symm; have := HBX.out; have := HSZ.out; omega)).trans HX5.out; have y6 := kcell x6 4 _ rfl; have f6 := kfrozen x6 4; obtain ⟨a9, m9, c9, e9⟩ : ∃ a m c, v6 = .slice a m c := (by obtain ⟨a, c, e⟩ := OwnK.shape hown6; exact ⟨a, _, c, e⟩); subst e9; have HO6 := Lib.hid hown6; have HG6 := Lib.hid hg6; have HX6 := Lib.hid x6; clear hown6 hg6 x6)
          have R3 := HO5.out.keptC HG5.out HG6.out (by decide) (by decide)
          have R5 : GlF w6 T0 (css ++ [[.slice xa xn xc, .slice da dn dc]]) (glsM rs (hosts.take (k + 1))) := by
            rw [HGK.out]
            exact (HGF5.out.keptC HG5.out HG6.out).snoc (x0 := (xa, xn, xc)) (x1 := (da, dn, dc)) (HH5.out.kept_c HG5.out (by decide) HG6.out) (HD5.out.keptC HG5.out HG6.out (by decide) (by decide) (by decide) (by decide) (by decide))
          have hgb := grownBy_set w6 Bx 4 (.slice a9 m9 c9)
          have hbt : Bx < T0 := by have := HBX.out; have := HSZ.out; omega
          have hfk : FarKeep T0 w6 (w6.setCell ⟨Bx, 4, none⟩ (.slice a9 m9 c9)) := FarKeep.set w6 Bx 4 _ hbt
          have hob : ∀ g, (Value.slice ga gn gc).ownBlock = some g → T0 ≤ g := fun g e => OwnK.base_le HG5.out g e
          have hb6 : Below W0.heap.size W0 w6 := HB5.out.1.grown HG6.out HB5.out.1.size (fun r e => by have := hob r e; have := HSZ.out; have := HBX.out; have := HBXL.out; omega)
          have hm6 := HM5.out.kept HG6.out (fun e => by have := hob _ e.symm; have := HSZ.out; omega)
          have Q1 : Hid (Below W0.heap.size W0 (w6.setCell ⟨Bx, 4, none⟩ (.slice a9 m9 c9)) ∧ T0 ≤ (w6.setCell ⟨Bx, 4, none⟩ (.slice a9 m9 c9)).heap.size) := Lib.hid ⟨hb6.setCell (p := ⟨Bx, 4, none⟩) HBXL.out _, Nat.le_trans (Nat.le_trans HB5.out.2 HG6.out.size) hgb.size⟩
          have Q2 : Hid ((w6.setCell ⟨Bx, 4, none⟩ (.slice a9 m9 c9)).heap[Bx]? = some (.cells #[.int .i64 4, .slice p3 nd k3, .slice sa sn sc, .bool false, .slice a9 m9 c9] 84)) := Lib.hid (kset HX6.out 4 _)
          have Q3 := Lib.hid (R3.move hfk)
          have Q4 := Lib.hid (OwnK.move HO6.out hfk)
          have Q5 := Lib.hid (R5.move hfk)
          have Q6 := Lib.hid (hm6.kept hgb (fun e => by injection e with e; have := HBX.out; omega))
          have Q7 : Hid (∀ g, W0.heap.size ≤ g → g < W1.heap.size → g ≠ Bx → (w6.setCell ⟨Bx, 4, none⟩ (.slice a9 m9 c9)).heap[g]? = W1.heap[g]?) := Lib.hid (fun g q1 q2 q3 => (hgb.block g (by have := HB5.out.2; have := HSZ.out; have := HG6.out.size; omega) (fun e => by injection e with e; exact q3 e)).trans ((HG6.out.block g (by have := HB5.out.2; have := HSZ.out; omega) (fun e => by have := hob g e.symm; have := HSZ.out; omega)).trans (HS5.out g q1 q2 q3)))
          clear R3 R5 hgb hbt hfk hob hb6 hm6 y4 y6 f6
          go_roundw
          case measure => simp [intOf]; omega
          case rel => exact ⟨k + 1, a9, m9, c9, _, _, by go_num, by omega, Q1, Q2, Q3, Q4, Q5, Q6, HCS, Q7⟩
    · obtain rfl : k = hn := by omega
      have HGF2 : Hid (GlF wr T0 css (glsM rs hosts)) := Lib.hid (by
        have q := HGF.out
        rw [List.take_of_length_le (by rw [HHN.out]; exact Nat.le_refl _)] at q
        exact q)
      have x2 := (HB.out.1.block _ (kblock_lt X2.out)).trans X2.out
      have HX2 := Lib.hid x2
      have q0 := kcell HX.out 0 _ rfl; have q1 := kcell HX.out 1 _ rfl; have q2 := kcell HX.out 2 _ rfl; have q3 := kcell HX.out 3 _ rfl; have q4 := kcell HX.out 4 _ rfl
      have z0 := kcell x2 0 _ rfl; have z1 := kcell x2 1 _ rfl; have z2 := kcell x2 2 _ rfl; have z3 := kcell x2 3 _ rfl; have z4 := kcell x2 4 _ rfl
      have u0 := kfrozen x2 0; have u1 := kfrozen x2 1; have u2 := kfrozen x2 2; have u3 := kfrozen x2 3; have u4 := kfrozen x2 4
      clear x2 HGF HM HC HO
      go_wp2
      refine bodyPost_ret (lk_fin rfl _ HX2.out rfl rfl rfl rfl rfl rfl) rfl ?_
      rw [HRF.out]
      have hw2 : w.heap.size + 1 + 1 < W0.heap.size := kblock_lt X2.out
      have hbw := HB0.out.trans (HB.out.1.mono HB0.out.size)
      have hbf := put5_below hbw (show w.heap.size ≤ w.heap.size + 1 + 1 by omega) (.int .i64 4) (.slice p3 nd k3) (.slice sa sn sc) (.bool false) (.slice ga gn gc)
      refine ⟨_, rfl, fun W' hk => ?_, hbf⟩
      have hf5 := put5_far (n := W0.heap.size) wr hw2 (.int .i64 4) (.slice p3 nd k3) (.slice sa sn sc) (.bool false) (.slice ga gn gc)
      have hsz5 := (put5_grown wr (w.heap.size + 1 + 1) (.int .i64 4) (.slice p3 nd k3) (.slice sa sn sc) (.bool false) (.slice ga gn gc)).size
      have hN0 : N ≤ W0.heap.size := by have := HNN.out; have := HZ0.out; omega
      have hfw : FarKeep W0.heap.size wr W' := hf5.trans hsz5 (hk.mono hN0)
      have hWT : W0.heap.size ≤ T0 := by have := HSZ.out; have := HBX.out; have := HBXL.out; omega
      refine ⟨(p3, nd, k3), (sa, sn, sc), (ga, gn, gc), rfl, HSD.out W' ((FarKeep.of_below hbf).trans hbf.size hk), HST.out W' (fun g q1 q2 q3 => (hfw g q1 (by have := HB.out.2; have := HSZ.out; omega)).trans (HSA.out g q1 q2 q3)), ?_⟩
      exact (HGF2.out.move (hfw.mono hWT)).glR (OwnK.move HG.out (hfw.mono hWT))
end Go.Proofs.YtckammgnmgkieaaGreat

