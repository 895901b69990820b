/-
  zone.New: what it makes lies behind all that was there.
-/
import Derived.Test.YteppgeiejknhoaaMQ24
namespace Go.Proofs.Yteppgeiejknhoaa
open Go.RowKit Go.Shelf
set_option maxRecDepth 20000
set_option linter.unusedVariables false
set_option linter.unusedSimpArgs false
theorem own_base {W : World} {base base' : Nat} {v : Value} {css : List (List Value)} (h : OwnC 7 50 W base v css) (hb : base' ≤ base) : OwnC 7 50 W base' v css := by
  refine ⟨h.1, ?_⟩
  rcases h.2 with h1 | ⟨g, cap, cur, e, h1, h2⟩
  · exact .inl h1
  · exact .inr ⟨g, cap, cur, e, Nat.le_trans hb h1, h2⟩
/-- A zone whose parts lie from a block on. -/
def ZonF (W : World) (B : Nat) (za : Option Addr) (zn zc : Nat) (v1 : Option Addr) (m c : Nat) (o : Nm) (rs : List Rc) : Prop :=
  OwnG 9 strV W B (.slice za zn zc) o ∧ NmOK o ∧ (∃ css, OwnC 7 50 W B (.slice v1 m c) css ∧ css.length = rs.length ∧ ∀ j (h1 : j < css.length) (h2 : j < rs.length), FrAt W B css[j] rs[j]) ∧ (∀ r ∈ rs, RcOK r) ∧ m ≤ 1048576
theorem ZonF.zonS {W : World} {B : Nat} {za v1 : Option Addr} {zn zc m c : Nat} {o : Nm} {rs : List Rc} (h : ZonF W B za zn zc v1 m c o rs) : ZonS W za zn zc v1 m c o rs := by
  obtain ⟨h1, h2, ⟨css, h3, h4, h5⟩, h6, h7⟩ := h
  refine ⟨h1.nmAt, h2, ⟨css, SlK.of_own h3 (fun cs hc => ?_), ⟨h4, fun i a b => (h5 i a b).rcAt⟩⟩, h6, h7⟩
  obtain ⟨i, hi, rfl⟩ := List.mem_iff_getElem.1 hc
  exact (h5 i hi (by omega)).rcAt.len
theorem ZonF.set {W : World} {B A : Nat} {za v1 : Option Addr} {zn zc m c : Nat} {o : Nm} {rs : List Rc} (h : ZonF W B za zn zc v1 m c o rs) (hA : A < B) (j : Nat) (u : Value) : ZonF (W.setCell ⟨A, j, none⟩ u) B za zn zc v1 m c o rs := by
  obtain ⟨h1, h2, ⟨css, h3, h4, h5⟩, h6, h7⟩ := h
  have hg := grownBy_set W A j u
  exact ⟨h1.kept hg (.inr fun e => by have := h1.base_le A e; omega), h2, ⟨css, OwnK.kept h3 hg (.inr fun e => by have := OwnK.base_le h3 A e; omega), h4, fun i a b => (h5 i a b).keptX hA hg⟩, h6, h7⟩
def NewPostF (w : World) (o : Nm) (rs : List Rc) (e : Ending) (w' : World) : Prop := ∃ za zn zc v1 m c, e = .returned (.agg #[.slice za zn zc, .slice v1 m c]) ∧ ZonF w' w.heap.size za zn zc v1 m c o rs ∧ Below w.heap.size w w'
set_option maxRecDepth 100000 in
set_option maxHeartbeats 8000000 in
theorem zone_NewF {w : World} (vo vl : Value) (o : Nm) (l : List Rc) (hO : NmAt w vo o) (hko : NmOK o) (hL : RowC w vl l) (hOK : ∀ r ∈ l, RcOK r) (hl : l.length ≤ 1048576) :
    Calls Try.prog 12 #[vo, vl] w (NewPostF w o (canonM l)) := by
  have HCL := Lib.hid (fun (W : World) (hb : Below w.heap.size w W) => clone_Name vo o W (hO.below hb).1 (hO.below hb).2 (by have := hko.1; omega))
  have HCN := Lib.hid (fun (W : World) (hb : Below w.heap.size w W) => by
    obtain ⟨css, h1, h2⟩ := hL.below hb
    exact rec_Canon vl css l W h1 h2 hOK (by rw [h2.1]; exact hl))
  have HOKC := Lib.hid (canonM_ok' l hOK)
  have HLC := Lib.hid (show (canonM l).length ≤ 1048576 by have := canonM_length l; omega)
  obtain ⟨ao, co, rfl, -⟩ := nmAt_sl.1 hO
  obtain ⟨al, cl, el⟩ : ∃ a c, vl = .slice a l.length c := by
    obtain ⟨css, ⟨a, c, e, _⟩, h2⟩ := hL
    exact ⟨a, c, by rw [e, h2.1]⟩
  subst el
  generalize (List.map strV o).length = qo at *
  obtain ⟨C, hC⟩ : ∃ C, canonM l = C := ⟨_, rfl⟩
  unfold CanonPost at HCN
  rw [hC] at HCN HOKC HLC ⊢
  have hB0 := (Below.refl w.heap.size w).alloc (Nat.le_refl _) (.cells #[.slice none 0 0, .slice none 0 0] 30)
  have X0 := Lib.hid (knew w (.cells #[.slice none 0 0, .slice none 0 0] 30))
  have hc := HCL.out _ hB0
  have HB0 := Lib.hid hB0
  have HKO := Lib.hid hko
  clear hO hko hL hOK hl hB0 HCL hC
  go_enter Try.func12, Try.ntmps12
  go_wp2_with fail
  refine hc.mono ?_
  rintro e w1 ⟨v1, rfl, ho1, hb1⟩
  obtain ⟨a1, c1, rfl⟩ := ho1.shape
  have HB1 := Lib.hid (HB0.out.trans (hb1.mono HB0.out.size))
  have X1 := Lib.hid ((hb1.block w.heap.size (kblock_lt X0.out)).trans X0.out)
  have HO1 := Lib.hid (ho1.weaken HB0.out.size)
  have hc2 := HCN.out w1 HB1.out
  clear ho1 hb1 hc HB0 X0 HCN
  go_wp2_with fail
  refine hc2.mono ?_
  rintro e w2 ⟨v2, css, rfl, ho2, hl2, hf2, hb2⟩
  obtain ⟨a2, c2, rfl⟩ := OwnK.shape ho2
  have HB2 := Lib.hid (HB1.out.trans (hb2.mono HB1.out.size))
  have x2 := (hb2.block w.heap.size (kblock_lt X1.out)).trans X1.out
  have HO2 := Lib.hid (HO1.out.below hb2)
  obtain ⟨m, hm⟩ : ∃ m, css.length = m := ⟨_, rfl⟩
  rw [hm] at ho2 ⊢
  have HR2 := Lib.hid (And.intro ho2 (And.intro hl2 hf2))
  have HX2 := Lib.hid x2
  have hsz : w.heap.size < w1.heap.size := kblock_lt X1.out
  have y0 := kcell x2 0 _ rfl; have y1 := kcell x2 1 _ rfl; have z0 := kfrozen x2 0; have z1 := kfrozen x2 1
  have HM := Lib.hid hm
  clear ho2 hl2 hf2 hb2 hc2 HB1 X1 HO1 x2 hm
  go_wp2_with fail
  have q0 := kset HX2.out 0 (.slice a1 o.length c1)
  have q1 := kset q0 1 (.slice a2 m c2)
  refine bodyPost_ret (results_zone rfl _ _ rfl rfl rfl q1) rfl ?_
  obtain ⟨h1, h2, h3⟩ := HR2.out
  have g0 := grownBy_set w2 w.heap.size 0 (.slice a1 o.length c1)
  have g1 := grownBy_set (w2.setCell ⟨w.heap.size, 0, none⟩ (.slice a1 o.length c1)) w.heap.size 1 (.slice a2 m c2)
  refine ⟨a1, _, c1, a2, m, c2, rfl, ⟨(HO2.out.keptB HX2.out (by decide) 0 _).keptB q0 (by decide) 1 _, HKO.out, ⟨css, own_base (OwnK.keptB (OwnK.keptB h1 HX2.out (by decide) 0 _) q0 (by decide) 1 _) (by omega), by have := HM.out; omega, fun i a b => (((h3 i a b).keptX hsz g0).keptX hsz g1).weaken (by omega)⟩, HOKC.out, by have := HM.out; have := HLC.out; omega⟩, ?_⟩
  exact (HB2.out.setCell (p := ⟨w.heap.size, 0, none⟩) (Nat.le_refl _) _).setCell (p := ⟨w.heap.size, 1, none⟩) (Nat.le_refl _) _
end Go.Proofs.Yteppgeiejknhoaa
