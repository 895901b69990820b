import Derived.Maps.OwnOps
import Derived.Maps.Views
import Derived.Deep.RegionHeld3
import Derived.Deep.CutRange
import Derived.Test.YtnpnfajgphpabaaGreatMQ10
import Derived.Test.YtnpnfajgphpabaaGreatMQ07
import Derived.Test.YtnpnfajgphpabaaGreatMQ28
namespace Go.Proofs.YtnpnfajgphpabaaGreat
set_option linter.unusedVariables false
set_option linter.unusedSimpArgs false
set_option maxRecDepth 100000
set_option maxHeartbeats 8000000
open Go.RowKit Go.Shelf
theorem FrSet.below {W W' : World} {base : Nat} {cs : List Value} {s : St} (h : FrSet W base cs s) (hb : Below W.heap.size W W') : FrSet W' base cs s := by
 obtain ⟨x0, x3, ds, e, h1, h2, h3, h4⟩ := h
 refine ⟨x0, x3, ds, e, h1.below hb, OwnK.below h2 hb, h3, fun j a b => ?_⟩
 obtain ⟨vn, vu, vt, vr, e2, h6⟩ := h4 j a b
 exact ⟨vn, vu, vt, vr, e2, h6.below hb⟩
theorem DRow.one {W : World} {base : Nat} {vn vu vt vr : Value} {d : Dat} (h : DRow W base vn vu vt vr d) : vn.oneCell' = true ∧ vu.oneCell' = true ∧ vt.oneCell' = true ∧ vr.oneCell' = true := by
 obtain ⟨⟨vs, k1, k2, k3⟩, i1, i2, i3⟩ := h
 obtain ⟨_, _, rfl⟩ := k1.shape; obtain ⟨_, _, rfl⟩ := i1.shape; obtain ⟨_, _, rfl⟩ := i2.shape; obtain ⟨_, _, rfl⟩ := i3.shape
 exact ⟨rfl, rfl, rfl, rfl⟩
theorem FarKeep.refl (n : Nat) (W : World) : FarKeep n W W := fun _ _ _ => rfl
theorem FarKeep.trans {n : Nat} {a b c : World} (h : FarKeep n a b) (hs : a.heap.size ≤ b.heap.size) (g : FarKeep n b c) : FarKeep n a c := fun i h1 h2 => (g i h1 (Nat.lt_of_lt_of_le h2 hs)).trans (h i h1 h2)
theorem FarKeep.of_below {n : Nat} {a b : World} (h : Below a.heap.size a b) : FarKeep n a b := fun i _ h2 => h.block i h2
theorem FarKeep.set {n : Nat} (W : World) (B j : Nat) (v : Value) (hB : B < n) : FarKeep n W (W.setCell ⟨B, j, none⟩ v) := fun i h1 h2 => (qaf W B j v).block i h2 (fun e => by injection e; omega)
theorem DRow.move {W W' : World} {base : Nat} {vn vu vt vr : Value} {d : Dat} (h : DRow W base vn vu vt vr d) (hf : FarKeep base W W') : DRow W' base vn vu vt vr d := by
 obtain ⟨⟨vs, k1, k2, k3⟩, i1, i2, i3⟩ := h
 exact ⟨⟨vs, k1.move hf, k2, fun i a b => (k3 i a b).move hf⟩, i1.move hf, i2.move hf, i3.move hf⟩
theorem FrSet.move {W W' : World} {base : Nat} {cs : List Value} {s : St} (h : FrSet W base cs s) (hf : FarKeep base W W') : FrSet W' base cs s := by
 obtain ⟨x0, x3, ds, e, h1, h2, h3, h4⟩ := h
 refine ⟨x0, x3, ds, e, h1.move hf, OwnK.move h2 hf, h3, fun j a b => ?_⟩
 obtain ⟨vn, vu, vt, vr, e2, h6⟩ := h4 j a b
 exact ⟨vn, vu, vt, vr, e2, h6.move hf⟩
theorem OwnNms.move {W W' : World} {base : Nat} {v : Value} {ns : List Nm} (h : OwnNms W base v ns) (hf : FarKeep base W W') : OwnNms W' base v ns := by
 obtain ⟨vs, h1, h2, h3⟩ := h
 exact ⟨vs, h1.move hf, h2, fun j a b => (h3 j a b).move hf⟩
def slW (x : Option Addr × Nat × Nat) : Value := .slice x.1 x.2.1 x.2.2
def DtsR (W : World) (v : Value) (l : List Dat) : Prop := ∃ ds, SlK W v ds ∧ Dts W ds l
theorem DtsR.below {W W' : World} {v : Value} {l : List Dat} (h : DtsR W v l) (hb : Below W.heap.size W W') : DtsR W' v l := by
 obtain ⟨ds, h1, h2⟩ := h
 exact ⟨ds, h1.below hb, h2.1, fun j a b => ⟨(h2.2 j a b).1, (h2.2 j a b).2.below hb⟩⟩
theorem DtsR.nil (W : World) : DtsR W (.slice none 0 0) [] := ⟨[], SlK.nil W, rfl, fun j a => absurd a (by simp)⟩
def GlR (W : World) (v : Value) (l : List (Nm × List Dat)) : Prop := ∃ css : List (List Value), SlK W v css ∧ css.length = l.length ∧
 ∀ j (h1 : j < css.length) (h2 : j < l.length), ∃ x0 x1 : Option Addr × Nat × Nat, css[j] = [slW x0, slW x1] ∧ NmAt W (slW x0) l[j].1 ∧ DtsR W (slW x1) l[j].2
theorem GlR.below {W W' : World} {v : Value} {l : List (Nm × List Dat)} (h : GlR W v l) (hb : Below W.heap.size W W') : GlR W' v l := by
 obtain ⟨css, h1, h2, h3⟩ := h
 refine ⟨css, h1.below hb, h2, fun j a b => ?_⟩
 obtain ⟨x0, x1, e, k1, k2⟩ := h3 j a b
 exact ⟨x0, x1, e, k1.below hb, k2.below hb⟩
theorem GlR.nil (W : World) : GlR W (.slice none 0 0) [] := ⟨[], SlK.nil W, rfl, fun j a => absurd a (by simp)⟩
def LkAt (W : World) (cs : List Value) (r : Lk) : Prop := ∃ xd xn xg : Option Addr × Nat × Nat, cs = [.int .i64 r.kind, slW xd, slW xn, .bool r.wild, slW xg] ∧ DtsR W (slW xd) r.data ∧ NmAt W (slW xn) r.name ∧ GlR W (slW xg) r.glue
theorem LkAt.below {W W' : World} {cs : List Value} {r : Lk} (h : LkAt W cs r) (hb : Below W.heap.size W W') : LkAt W' cs r := by
 obtain ⟨xd, xn, xg, e, h1, h2, h3⟩ := h
 exact ⟨xd, xn, xg, e, h1.below hb, h2.below hb, h3.below hb⟩
theorem DtsR.first {W : World} {b off n c : Nat} {l : List Dat} (h : DtsR W (.slice (some ⟨b, off, none⟩) n c) l) (h0 : 0 < l.length) : DtsR W (.slice (some ⟨b, off, none⟩) 1 1) (l.take 1) := by
 obtain ⟨ds, ⟨a', c', e, h1, h2, h3⟩, h4⟩ := h
 injection e with e1 e2 e3
 have hd : 0 < ds.length := by rw [h4.1]; exact h0
 have hl : (ds.take 1).length = 1 := by rw [List.length_take]; omega
 refine ⟨ds.take 1, ⟨some ⟨b, off, none⟩, 1, by rw [hl], by rw [hl]; exact qN0, (fun e => by cases e), ?_⟩, (by rw [hl, List.length_take]; omega), fun j a1 a2 => ?_⟩
 ·rcases h3 with h3 | ⟨b', off', e4, h5, h6⟩
  ·subst h3; simp at hd
  ·refine .inr ⟨b, off, rfl, ?_, fun j u hu => ?_⟩
   ·rw [e4] at e1; injection e1 with e1; injection e1 with e5 e6; rw [e5]; exact h5
   ·rw [e4] at e1; injection e1 with e1; injection e1 with e5 e6
    rw [e5, e6]
    apply h6
    have hp : (ds.take 1).flatten <+: ds.flatten := by
     conv => rhs; rw [← List.take_append_drop 1 ds, List.flatten_append]
     exact List.prefix_append _ _
    obtain ⟨t, ht⟩ := hp
    rw [← ht, List.getElem?_append_left (List.getElem?_eq_some_iff.1 hu).1]; exact hu
 ·have q := h4.2 j (by rw [List.length_take] at a1; omega) (by rw [List.length_take] at a2; omega)
  simp only [List.getElem_take]
  exact q
def OwnDts (W : World) (base : Nat) (v : Value) (l : List Dat) : Prop := ∃ ds : List (List Value), OwnC 5 44 W base v ds ∧ ds.length = l.length ∧
 ∀ j (h1 : j < ds.length) (h2 : j < l.length), ∃ vn vu vt vr, ds[j] = [.int .i64 l[j].ty, vn, vu, vt, vr] ∧ DRow W base vn vu vt vr l[j]
theorem DRow.weaken {W : World} {base b2 : Nat} {vn vu vt vr : Value} {d : Dat} (h : DRow W base vn vu vt vr d) (hb : b2 ≤ base) : DRow W b2 vn vu vt vr d := by
 obtain ⟨⟨vs, k1, k2, k3⟩, i1, i2, i3⟩ := h
 exact ⟨⟨vs, k1.weaken hb, k2, fun i a b => (k3 i a b).weaken hb⟩, i1.weaken hb, i2.weaken hb, i3.weaken hb⟩
theorem OwnDts.weaken {W : World} {base b2 : Nat} {v : Value} {l : List Dat} (h : OwnDts W base v l) (hb : b2 ≤ base) : OwnDts W b2 v l := by
 obtain ⟨ds, h1, h2, h3⟩ := h
 refine ⟨ds, OwnK.weaken h1 hb, h2, fun j a b => ?_⟩
 obtain ⟨vn, vu, vt, vr, e, k⟩ := h3 j a b
 exact ⟨vn, vu, vt, vr, e, k.weaken hb⟩
theorem OwnK.kept_cc {k k2 : Nat} {T T' : TypeId} {W W' : World} {base base' : Nat} {v v' : Value} {xss yss : List (List Value)} (h : OwnC k T W base v xss) (h' : OwnC k2 T' W base' v' yss) (hT : T ≠ T') (hg : W.grownBy W' v'.ownBlock) : OwnC k T W' base v xss := by
 refine OwnK.kept h hg ?_
 rcases h.2 with ⟨rfl, _⟩ | ⟨g, cap, cur, rfl, _, hh, _⟩
 ·left; rfl
 ·right
  rcases h'.2 with ⟨rfl, _⟩ | ⟨g', cap', cur', rfl, _, hh', _⟩
  ·simp [Value.ownBlock]
  ·intro e
   simp only [Value.ownBlock, Option.some.injEq] at e
   subst e
   rw [hh] at hh'
   injection hh' with hh'
   injection hh' with _ hh'
   exact hT hh'
theorem OwnDts.move {W W' : World} {base : Nat} {v : Value} {l : List Dat} (h : OwnDts W base v l) (hf : FarKeep base W W') : OwnDts W' base v l := by
 obtain ⟨ds, h1, h2, h3⟩ := h
 refine ⟨ds, OwnK.move h1 hf, h2, fun j a b => ?_⟩
 obtain ⟨vn, vu, vt, vr, e, k⟩ := h3 j a b
 exact ⟨vn, vu, vt, vr, e, k.move hf⟩
def CntD (D : DataW Unit) (ts : List (List UInt8)) : Prop := Maps.IsMap D ∧ ∀ x : List UInt8, D.atKey (.string x) (.lit (.int .i64 0)) = .lit (.int .i64 (ts.count x : Nat))
theorem CntD.snoc {D : DataW Unit} {ts : List (List UInt8)} (h : CntD D ts) (t : List UInt8) : CntD (D.put (.string t) (.lit (.int .i64 ((ts.count t + 1 : Nat) : Int)))) (ts ++ [t]) := by
 refine ⟨?_, fun x => ?_⟩
 ·obtain ⟨es, rfl⟩ := h.1
  exact ⟨_, DataW.put_eq es _ _⟩
 ·by_cases e : x = t
  ·subst e
   rw [Maps.atKey_put_same (k := .string x) h.1 trivial, List.count_append]
   simp
  ·rw [Maps.atKey_put_other (by intro h; injection h with h; exact e h), h.2 x, List.count_append]
   have : List.count x [t] = 0 := by rw [List.count_eq_zero]; simpa using e
   rw [this, Nat.add_zero]
def GlF (W : World) (base : Nat) (css : List (List Value)) (l : List (Nm × List Dat)) : Prop := css.length = l.length ∧ ∀ j (h1 : j < css.length) (h2 : j < l.length), ∃ x0 x1 : Option Addr × Nat × Nat, css[j] = [slW x0, slW x1] ∧ OwnG 9 strV W base (slW x0) l[j].1 ∧ OwnDts W base (slW x1) l[j].2
theorem GlF.move {W W' : World} {base : Nat} {css : List (List Value)} {l : List (Nm × List Dat)} (h : GlF W base css l) (hf : FarKeep base W W') : GlF W' base css l := by
 refine ⟨h.1, fun j a b => ?_⟩
 obtain ⟨x0, x1, e, k1, k2⟩ := h.2 j a b
 exact ⟨x0, x1, e, k1.move hf, k2.move hf⟩
theorem GlF.snoc {W : World} {base : Nat} {css : List (List Value)} {l : List (Nm × List Dat)} (h : GlF W base css l) {x0 x1 : Option Addr × Nat × Nat} {n : Nm} {ds : List Dat} (h0 : OwnG 9 strV W base (slW x0) n) (h1 : OwnDts W base (slW x1) ds) : GlF W base (css ++ [[slW x0, slW x1]]) (l ++ [(n, ds)]) := by
 refine ⟨by simp [h.1], fun i a b => ?_⟩
 by_cases hi : i < css.length
 ·have hi2 : i < l.length := by have := h.1; omega
  rw [List.getElem_append_left hi, List.getElem_append_left hi2]
  exact h.2 i hi hi2
 ·have e1 : i = css.length := by simp at a; omega
  have e2 : i = l.length := by have := h.1; omega
  rw [List.getElem_append_right (by omega), List.getElem_append_right (by omega)]
  simp only [show i - css.length = 0 by omega, show i - l.length = 0 by omega, List.getElem_cons_zero]
  exact ⟨x0, x1, rfl, h0, h1⟩
theorem qg5 {n : Nm} (h : NmOK n) (s : Nat) : NmOK (ancN n s) := ⟨by unfold ancN; rw [List.length_drop]; have := h.1; omega, fun x hx => h.2 x (List.mem_of_mem_drop hx)⟩
theorem qb2 {n : Nm} {k : Nat} (h : k ≤ n.length) : n.drop k = ancN n (n.length - k) := by unfold ancN; congr 1; omega
theorem qfJ {W : World} {a : Option Addr} {q c : Nat} {n : Nm} (h : NmAt W (.slice a q c) n) {k : Nat} (hk : k ≤ q) :
 (c = k ∧ NmAt W (.slice a (q - k) (c - k)) (n.drop k)) ∨ (¬ c = k ∧ q = 0 ∧ k = 0 ∧ (∃ ad, a = some ad) ∧ NmAt W (.slice a (q - k) (c - k)) (n.drop k)) ∨ (¬ c = k ∧ 0 < q ∧ ∃ g off, a = some ⟨g, off, none⟩ ∧ NmAt W (.slice (some ⟨g, off + k, none⟩) (q - k) (c - k)) (n.drop k)) := by
 have hq := nm_len h
 have hc := nm_cap h
 have h0 := h.1
 have h1 := h.2
 obtain ⟨a1, n1, c1, e1, hc1, hn1⟩ := h1
 injection e1 with ea en ec
 subst ea en ec
 by_cases e : c = k
 ·left
  have hqk : q = k := by omega
  have hd : n.drop k = [] := List.drop_eq_nil_of_le (by omega)
  refine ⟨e, ⟨⟨a, c - k, by rw [hd]; congr 1; simp; omega, .inl hd⟩, ⟨a, _, _, rfl, by omega, fun ha => by have := hn1 ha; omega⟩⟩⟩
 ·right
  by_cases hz : q = 0
  ·left
   have hk0 : k = 0 := by omega
   have hn0 : n = [] := List.eq_nil_of_length_eq_zero (by omega)
   refine ⟨e, hz, hk0, ?_, ?_⟩
   ·cases a with
    | none => exact absurd (hn1 rfl) (by omega)
    | some ad => exact ⟨ad, rfl⟩
   ·rw [hk0, hn0]; rw [hn0] at h; exact h
  ·right
   refine ⟨e, by omega, ?_⟩
   obtain ⟨a2, c2, e2, hx⟩ := h0
   injection e2 with e3 e4 e5
   rcases hx with hx | ⟨g, off, hx, _⟩
   ·rw [hx] at hq; simp at hq; omega
   ·subst e3
    subst hx
    refine ⟨g, off, rfl, ?_⟩
    have h9 := h.1
    subst hq
    have hd := qds h9 hc k hk (c - k)
    rw [if_neg e] at hd
    exact ⟨hd, ⟨_, _, _, rfl, by omega, fun e => by cases e⟩⟩
theorem qdT {w : World} {za v1 : Option Addr} {zn zc m c : Nat} {o n : Nm} {rs : List Rc} {vn : Value} (t : Int) (h : ZonS w za zn zc v1 m c o rs) (hO : NmAt w vn n) (hko : NmOK n) :
 Calls Tryz.prog 25 #[.agg #[.slice za zn zc, .slice v1 m c], vn, .int .i64 t] w fun e w' => e = .returned (.bool (hasM rs n t)) ∧ Below w.heap.size w w' := by
 obtain ⟨-, -, ⟨css, hA, hR⟩, hOK, hl⟩ := h
 obtain ⟨hln, hx⟩ : css.length = m ∧ m ≤ c := by
  obtain ⟨a', c', e, h1, _⟩ := id hA
  cases e; exact ⟨rfl, h1⟩
 have HSO := qH0 (show hasM rs n t = rs.any fun r => decide (r.data.ty = t) && sameN r.owner n from rfl)
 have HA := qH0 hA; have HR := qH0 hR; have HLN := qH0 hln; have HOK := qH0 hOK
 have HDL := qH0 (show rs.length = m by rw [← hR.1]; exact hln)
 have HNO := qH0 hO; have HKN := qH0 hko
 obtain ⟨ao, co, rfl, -⟩ := nmAt_sl.1 hO
 generalize (List.map strV n).length = qo at *
 generalize hasM rs n t = res at *
 have X0 := knew w (.cells #[.slice za zn zc, .slice v1 m c] 37)
 have HB0 := qH0 ((Below.refl w.heap.size w).alloc (qN0) (.cells #[.slice za zn zc, .slice v1 m c] 37))
 obtain ⟨w2, hw2⟩ : ∃ w2, w.alloc (.cells #[.slice za zn zc, .slice v1 m c] 37) = w2 := ⟨_, rfl⟩
 rw [hw2] at X0 HB0
 have HY := qH0 (fun W (hb : Below w2.heap.size w2 W) => And.intro (kcell ((hb.block _ (qaa X0)).trans X0) 0 _ rfl) (kcell ((hb.block _ (qaa X0)).trans X0) 1 _ rfl))
 clear hO hko hA hR hOK hln X0
 go_enter Tryz.func25, Tryz.ntmps25
 go_wp2
 clear hw2
 go_loopw [7] (fun vi wr => ∃ k : Nat, vi = .int .i64 k ∧ k ≤ m ∧ Hid (((rs.take k).any fun r => decide (r.data.ty = t) && sameN r.owner n) = false) ∧ Hid (Below w2.heap.size w2 wr)) (fun vi _ => m - (intOf vi).toNat)
 case atStart => exact ⟨0, rfl, Nat.zero_le _, qH0 (by simp), qH0 (qL0)⟩
 case round =>
  obtain ⟨k, rfl, hk, HN, HB⟩ := hrel
  obtain ⟨y0, y1⟩ := HY.out wr HB.out
  by_cases hlt : k < m
  ·have hltz : (k : Int) < (m : Int) := by omega
   have hk1 : k < css.length := by have := HLN.out; omega
   have hk2 : k < rs.length := by have := HDL.out; omega
   obtain ⟨b, off, rfl, hb, hel⟩ := HA.out.elem HR.out.ck (by omega)
   have h0 := HR.out.2 k hk1 hk2
   have hokr := (HOK.out _ (List.getElem_mem hk2)).1
   have hany := qgl (p := fun r => decide (r.data.ty = t) && sameN r.owner n) hk2
   obtain ⟨d, hd⟩ : ∃ d, rs[k]'hk2 = d := ⟨_, rfl⟩
   have hdm : d ∈ rs := by rw [← hd]; exact List.getElem_mem _
   rw [hd] at h0 hokr hany
   rw [HN.out, Bool.false_or] at hany
   have hsh := h0.shape
   obtain ⟨⟨p0, q0, k0⟩, ⟨p3, q3, k3⟩, ⟨p4, q4, k4⟩, ⟨p5, q5, k5⟩, ⟨p6, q6, k6⟩, e0⟩ := hsh
   simp only at e0
   have hwr : Below w.heap.size w wr := qB0 HB0.out HB.out
   obtain ⟨c0', c1', c2', c3, c4, c5, c6⟩ := hel k hk1 _ _ _ _ _ _ _ e0 wr hwr
   have hown0 : NmAt w (.slice p0 q0 k0) d.owner := by
    obtain ⟨_, _, _, _, _, e5, g1, _⟩ := h0
    rw [e0] at e5
    simp only [List.cons.injEq, and_true] at e5
    rw [e5.1]; exact g1
   have hn := qbS (.slice p0 q0 k0) (.slice ao qo co) d.owner n _ rfl _ (hown0.below hwr) (HNO.out.below hwr) hokr HKN.out
   have HANY := qH0 hany; have HDM := qH0 hdm
   clear h0 hd e0 hel hown0 hokr hany hdm hk1 hk2 hwr c1' c3 c4 c5 c6
   obtain ⟨ty, hty⟩ : ∃ ty, d.data.ty = ty := ⟨_, rfl⟩
   have HTY := qH0 hty
   rw [hty] at c2'
   clear hty
   by_cases ht : ty = t
   ·subst ht
    go_wp2_with fail
    refine hn.mono ?_
    rintro e w3 ⟨rfl, hb3⟩
    have HB3 := qH0 (qB0 HB.out hb3)
    clear hn hb3 c0' c2' y0 y1
    obtain ⟨q, hq⟩ : ∃ q, sameN d.owner n = q := ⟨_, rfl⟩
    have HQ := qH0 hq
    rw [hq] at HANY ⊢
    clear hq
    cases q
    ·go_wp2
     go_roundw
     case measure => simp [intOf]; omega
     case rel => exact ⟨k + 1, by go_num, by omega, qH0 (by rw [HANY.out, Bool.and_false]), HB3⟩
    ·have H1 : Hid (res = true) := qH0 (by rw [HSO.out, List.any_eq_true]; exact ⟨d, HDM.out, by rw [HQ.out, HTY.out]; simp⟩)
     go_wp2
     go_ret
     exact ⟨by rw [H1.out]; rfl, qB0 HB0.out HB3.out⟩
   ·have htn : (ty == t) = false := by simpa using ht
    have HF := qH0 (show decide (d.data.ty = t) = false by rw [HTY.out]; simpa using ht)
    clear hn
    go_wp2
    go_roundw
    case measure => simp [intOf]; omega
    case rel => exact ⟨k + 1, by go_num, by omega, qH0 (by rw [HANY.out, HF.out, Bool.false_and]), HB⟩
  ·obtain rfl : k = m := by omega
   have hn := HN.out
   rw [List.take_of_length_le (by have := HDL.out; omega)] at hn
   have H1 : Hid (res = false) := qH0 (by rw [HSO.out]; exact hn)
   clear hn
   go_wp2
   go_ret
   exact ⟨by rw [H1.out]; rfl, qB0 HB0.out HB.out⟩
theorem qjC {w : World} {za v1 : Option Addr} {zn zc m c : Nat} {o n : Nm} {rs : List Rc} {vn : Value} (h : ZonS w za zn zc v1 m c o rs) (hO : NmAt w vn n) (hko : NmOK n) :
 Calls Tryz.prog 64 #[.agg #[.slice za zn zc, .slice v1 m c], vn] w (qfi w n (cutM o rs n)) := by
 have HZU := qH0 (fun (W : World) (hb : Below w.heap.size w W) => qfy vn (.slice za zn zc) n o _ rfl W (hO.below hb) (h.1.below hb) hko h.2.1)
 have HKO := qH0 h.2.1
 obtain ⟨ao, cn, rfl, -⟩ := nmAt_sl.1 hO
 obtain ⟨qn, hqn⟩ : ∃ q, (List.map strV n).length = q := ⟨_, rfl⟩
 have HQN := qH0 (show n.length = qn by rw [← hqn, List.length_map])
 rw [hqn] at hO HZU ⊢
 clear hqn
 have HNO := qH0 hO; have HKN := qH0 hko
 have X0 := knew w (.cells #[.slice za zn zc, .slice v1 m c] 37)
 have HB0 := qH0 ((Below.refl w.heap.size w).alloc (qN0) (.cells #[.slice za zn zc, .slice v1 m c] 37))
 obtain ⟨w2, hw2⟩ : ∃ w2, w.alloc (.cells #[.slice za zn zc, .slice v1 m c] 37) = w2 := ⟨_, rfl⟩
 obtain ⟨B, hB⟩ : ∃ B, w.heap.size = B := ⟨_, rfl⟩
 have hHB : Below w.heap.size w w2 := by rw [← hw2]; exact HB0.out
 have HB0 := qH0 hHB
 rw [hw2, hB] at X0
 have HY := qH0 (fun W (hb : Below w2.heap.size w2 W) => And.intro (kcell ((hb.block _ (qaa X0)).trans X0) 0 _ rfl) (kcell ((hb.block _ (qaa X0)).trans X0) 1 _ rfl))
 have HZ := qH0 (fun W (hb : Below w2.heap.size w2 W) => h.below (qB0 hHB hb))
 have KS := qH0 (fun W W' (hS : W.cell? ⟨B, 0, none⟩ = some (.slice za zn zc) ∧ W.cell? ⟨B, 1, none⟩ = some (.slice v1 m c) ∧ Below w2.heap.size w2 W) (hb : Below W.heap.size W W') => (show W'.cell? ⟨B, 0, none⟩ = some (.slice za zn zc) ∧ W'.cell? ⟨B, 1, none⟩ = some (.slice v1 m c) ∧ Below w2.heap.size w2 W' from ⟨(HY.out W' (hS.2.2.trans (hb.mono hS.2.2.size))).1, (HY.out W' (hS.2.2.trans (hb.mono hS.2.2.size))).2, hS.2.2.trans (hb.mono hS.2.2.size)⟩))
 have HZN := qH0 (show zn = o.length from nm_len h.1)
 have hcu := HZU.out w2 hHB
 obtain ⟨y0, y1⟩ := HY.out w2 (qL0)
 clear h hO hko X0 hHB HZU
 go_enter Tryz.func64, Tryz.ntmps64
 go_wp2_with fail
 clear hw2 hB
 refine hcu.mono ?_
 rintro e w3 ⟨rfl, hb3⟩
 have HB3 := qH0 hb3
 clear hcu y0 y1 hb3
 obtain ⟨u, hu⟩ : ∃ u, underN n o = u := ⟨_, rfl⟩
 have HU := qH0 hu
 rw [hu]
 clear hu
 cases u
 ·have H1 : Hid (cutM o rs n = none) := qH0 (by unfold cutM; rw [HU.out]; rfl)
  go_wp2
  go_ret2
  exact ⟨none, 0, 0, by rw [H1.out]; rfl, by rw [H1.out]; exact nm_nil _, qB0 HB0.out HB3.out⟩
 have hqle : zn ≤ qn := by have := qeu HU.out; have := HQN.out; have := HZN.out; omega
 have hqn20 : qn ≤ 1048576 := by have := HKN.out.1; have := HQN.out; omega
 obtain ⟨y0, y1⟩ := HY.out w3 HB3.out
 have HNONE := qH0 (fun (hn : ∀ s, zn < s → s < qn + 1 → hasM rs (ancN n s) 2 = false) => (show cutM o rs n = none from qjd (fun s a b => hn s (by have := HZN.out; omega) (by have := HQN.out; omega))))
 have HSOME := qH0 (fun (k : Nat) (hk : (k : Int) ≤ (qn : Int) - (zn : Int) - 1) (hh : hasM rs (n.drop k) 2 = true) (hn : ∀ s, zn < s → s < qn - k → hasM rs (ancN n s) 2 = false) => (show cutM o rs n = some (qn - k) from qi5 HU.out (by have := HZN.out; omega) (by have := HQN.out; omega) (by rw [qb2 (by have := HQN.out; omega), HQN.out] at hh; exact hh) (fun j a b => hn j (by have := HZN.out; omega) (by omega))))
 go_wp2
 clear y0 y1
 go_loopw [6] (fun vi wr => ∃ i : Int, vi = .int .i64 i ∧ -1 ≤ i ∧ i ≤ (qn : Int) - (zn : Int) - 1 ∧ Hid (∀ s : Nat, zn < s → (s : Int) < (qn : Int) - i → hasM rs (ancN n s) 2 = false) ∧ Hid (Below w2.heap.size w2 wr)) (fun vi _ => (intOf vi + 1).toNat)
 case atStart => exact ⟨(qn : Int) - (zn : Int) - 1, by go_num, by omega, by omega, qH0 (fun s a b => by omega), HB3⟩
 case round =>
  obtain ⟨i, rfl, hi1, hi2, HN, HB⟩ := hrel
  obtain ⟨y0, y1⟩ := HY.out wr HB.out
  by_cases hlt : 0 ≤ i
  ·obtain ⟨k, rfl⟩ : ∃ k : Nat, i = (k : Int) := ⟨i.toNat, by omega⟩
   have hkz : (0 : Int) ≤ (k : Int) := by omega
   have hkq : (k : Int) ≤ (qn : Int) := by omega
   have hqc : qn ≤ cn := nm_cap HNO.out
   have hkcz : (k : Int) ≤ (cn : Int) := by omega
   have hqcz : (qn : Int) ≤ (cn : Int) := by omega
   have hS0 : wr.drew.cell? ⟨B, 0, none⟩ = some (.slice za zn zc) ∧ wr.drew.cell? ⟨B, 1, none⟩ = some (.slice v1 m c) ∧ Below w2.heap.size w2 wr.drew := ⟨y0, y1, HB.out.trans ⟨rfl, rfl, rfl, qN0, fun _ _ => rfl⟩⟩
   have HKO' := qH0 (show NmOK (n.drop k) by rw [qb2 (by have := HQN.out; omega)]; exact qg5 HKN.out _)
   have hsuf := qfJ HNO.out (show k ≤ qn by omega)
   rcases hsuf with ⟨hck, hm⟩ | ⟨hck, hq0, hk0, ⟨ad, rfl⟩, hm⟩ | ⟨hck, hq0, g, off, rfl, hm⟩
   ·omega
   ·omega
   ·have HC := qH0 (fun (W : World) (hS : W.cell? ⟨B, 0, none⟩ = some (.slice za zn zc) ∧ W.cell? ⟨B, 1, none⟩ = some (.slice v1 m c) ∧ Below w2.heap.size w2 W) => qdT 2 (HZ.out W hS.2.2) (hm.below (HB0.out.trans (hS.2.2.mono HB0.out.size))) HKO'.out)
    have HM := qH0 (fun (W : World) (hb : Below w2.heap.size w2 W) => hm.below (qB0 HB0.out hb))
    clear hm
    go_wp2_with fail
    go_region_held3 (fun W => W.cell? ⟨B, 0, none⟩ = some (.slice za zn zc) ∧ W.cell? ⟨B, 1, none⟩ = some (.slice v1 m c) ∧ Below w2.heap.size w2 W) (first | with_reducible assumption)
     (first | ((with_reducible refine (HC.out _ (by with_reducible assumption)).mono ?_); rintro e w9 ⟨rfl, hb9⟩; have hS9 := KS.out _ _ (by with_reducible assumption) hb9; clear hb9))
    have HB9 := qH0 hS9.2.2
    clear hS9 HC hS0 y0 y1
    obtain ⟨E, hE⟩ : ∃ E, hasM rs (n.drop k) 2 = E := ⟨_, rfl⟩
    have HE := qH0 hE
    rw [hE]
    clear hE
    cases E
    ·go_wp2
     go_roundw
     case measure => simp [intOf]
     case rel => exact ⟨(k : Int) - 1, by go_num, by omega, by omega, qH0 (fun s a b => by
      by_cases hs : (s : Int) < (qn : Int) - (k : Int)
      ·exact HN.out s a hs
      ·obtain rfl : s = qn - k := by omega
       have := HE.out
       rw [qb2 (by have := HQN.out; omega), HQN.out] at this; exact this), HB9⟩
    ·have H1 := qH0 (HSOME.out k (by omega) HE.out (fun s a b => HN.out s a (by omega)))
     have H2 := qH0 (show ancN n (qn - k) = n.drop k by rw [qb2 (by have := HQN.out; omega), HQN.out])
     go_wp2
     go_ret2
     exact ⟨_, _, _, by rw [H1.out]; rfl, by rw [H1.out]; show NmAt _ _ (ancN n (qn - k)); rw [H2.out]; exact HM.out _ HB9.out, qB0 HB0.out HB9.out⟩
  ·obtain rfl : i = -1 := by omega
   have H1 := qH0 (HNONE.out (fun s a b => HN.out s a (by omega)))
   go_wp2
   go_ret2
   exact ⟨none, 0, 0, by rw [H1.out]; rfl, by rw [H1.out]; exact nm_nil _, qB0 HB0.out HB.out⟩
theorem qdL {w : World} {za v1 : Option Addr} {zn zc m c : Nat} {o n : Nm} {rs : List Rc} {vn : Value} (h : ZonS w za zn zc v1 m c o rs) (hO : NmAt w vn n) (hko : NmOK n) :
 Calls Tryz.prog 29 #[.agg #[.slice za zn zc, .slice v1 m c], vn] w fun e w' => e = .returned (.int .i64 (whereM o rs n)) ∧ Below w.heap.size w w' := by
 have HU := qH0 (fun (W : World) (hb : Below w.heap.size w W) => qfy vn (.slice za zn zc) n o _ rfl W (hO.below hb) (h.1.below hb) hko h.2.1)
 have HC := qH0 (fun (W : World) (hb : Below w.heap.size w W) => qjC (h.below hb) (hO.below hb) hko)
 have HWH := qH0 (show whereM o rs n = if underN n o then (match cutM o rs n with | none => 1 | some s => if s = n.length then 2 else 3) else 0 from rfl)
 have HCS := qH0 (fun s (h : cutM o rs n = some s) => (qfP h).2.2)
 obtain ⟨ao, co, rfl, -⟩ := nmAt_sl.1 hO
 obtain ⟨qo, hqo⟩ : ∃ q, (List.map strV n).length = q := ⟨_, rfl⟩
 have hqn : n.length = qo := by rw [← hqo, List.length_map]
 have HQN := qH0 hqn
 rw [hqo] at HU HC ⊢
 generalize whereM o rs n = res at *
 have hB0 := (Below.refl w.heap.size w).alloc (qN0) (.cells #[.slice za zn zc, .slice v1 m c] 37)
 have X0 := qH0 (knew w (.cells #[.slice za zn zc, .slice v1 m c] 37))
 have hu := HU.out _ hB0
 have HB0 := qH0 hB0
 clear h hO hko hqo hqn hB0 HU
 go_enter Tryz.func29, Tryz.ntmps29
 go_wp2_with fail
 refine hu.mono ?_
 rintro e w1 ⟨rfl, hb1⟩
 have HB1 := qH0 (qB0 HB0.out hb1)
 have h0 := (hb1.block w.heap.size (qaa X0.out)).trans X0.out
 have y0 := kcell h0 0 _ rfl
 have y1 := kcell h0 1 _ rfl
 clear h0 hb1 hu HB0 X0
 by_cases hu : underN n o = true
 ·rw [hu] at HWH ⊢
  have hc := HC.out w1 HB1.out
  have HU := qH0 hu
  clear hu HC
  obtain ⟨r, hr⟩ : ∃ r, cutM o rs n = r := ⟨_, rfl⟩
  rw [hr] at hc HWH
  have HR := qH0 hr
  clear hr
  go_wp2_with fail
  refine hc.mono ?_
  rintro e w2 ⟨a2, k2, c2, rfl, hnm, hb2⟩
  have hk2 := nm_len hnm
  have HB2 := qH0 (qB0 HB1.out hb2)
  clear hc hb2 hnm y0 y1
  cases r with
  | none =>
   have H1 : Hid (res = 1) := qH0 (by rw [HWH.out]; rfl)
   clear HWH hk2
   go_wp2
   go_ret
   exact ⟨by rw [H1.out]; rfl, HB2.out⟩
  | some s =>
   have hsq := HCS.out s HR.out
   have hks : k2 = s := by rw [hk2]; exact qc4 hsq
   clear hk2
   subst hks
   by_cases hq : k2 = qo
   ·have hbb : ((k2 : Int) == (qo : Int)) = true := by simp; omega
    have H1 : Hid (res = 2) := qH0 (by rw [HWH.out]; simp [HQN.out, hq])
    clear HWH hq hsq
    go_wp2
    go_ret
    exact ⟨by rw [H1.out]; rfl, HB2.out⟩
   ·have hbb : ((k2 : Int) == (qo : Int)) = false := by simp; omega
    have H1 : Hid (res = 3) := qH0 (by rw [HWH.out]; simp [HQN.out, hq])
    clear HWH hq hsq
    go_wp2
    go_ret
    exact ⟨by rw [H1.out]; rfl, HB2.out⟩
 ·simp only [Bool.not_eq_true] at hu
  rw [hu] at HWH ⊢
  have H1 : Hid (res = 0) := qH0 (by rw [HWH.out]; rfl)
  clear hu HWH HC
  go_wp2
  go_ret
  exact ⟨by rw [H1.out]; rfl, HB1.out⟩
end Go.Proofs.YtnpnfajgphpabaaGreat
