import Derived.Maps.OwnOps
import Derived.Maps.Views
import Derived.Deep.RegionHeld3
import Derived.Deep.CutRange
import Derived.Test.YtckammgnmgkieaaGreatMQ37
import Derived.Test.YtckammgnmgkieaaGreatMQ22
namespace Go.Proofs.YtckammgnmgkieaaGreat
set_option linter.unusedVariables false
set_option linter.unusedSimpArgs false
set_option maxRecDepth 100000
set_option maxHeartbeats 8000000
open Go.RowKit Go.Shelf
theorem qdB {α : Type} {p : α → Bool} {l : List α} {k : Nat} (h : k < l.length) : (l.take (k + 1)).any p = ((l.take k).any p || p l[k]) := by
 rw [List.take_succ_eq_append_getElem h, List.any_append]; simp
theorem qey {o n : Nm} {rs : List Rc} (hn : NmOK n) : NmOK (encM o rs n) := by
 unfold encM
 split
 ·exact ⟨by unfold ancN; rw [List.length_drop]; have := hn.1; omega, fun x hx => hn.2 x (List.mem_of_mem_drop hx)⟩
 ·exact ⟨by simp, by simp⟩
theorem qdH {o n : Nm} (rs : List Rc) : (encM o rs n).length ≤ n.length := by
 unfold encM
 split
 ·unfold ancN; rw [List.length_drop]; omega
 ·simp
def qeJ (w : World) (l : Nm) (ok : Bool) (e : Ending) (w' : World) : Prop := ∃ a k c, e = .returned (.tuple #[.slice a k c, .bool ok]) ∧ NmAt w' (.slice a k c) (if ok then l else []) ∧ Below w.heap.size w w'
theorem qi6 {w : World} {za v1 : Option Addr} {zn zc m c : Nat} {o n : Nm} {rs : List Rc} {vn : Value} (h : ZonS w za zn zc v1 m c o rs) (hO : NmAt w vn n) (hko : NmOK n) (hn1 : n.length < 1048576) :
 Calls Tryz.prog 33 #[.agg #[.slice za zn zc, .slice v1 m c], vn] w (qeJ w (starM o rs n) (qaT o rs n)) := by
 have HC := qH0 (fun (W : World) (hb : Below w.heap.size w W) => qhd (h.below hb) (hO.below hb) hko)
 have hE := qey (o := o) (rs := rs) hko
 have hEl := qdH (o := o) (n := n) rs
 have hS : NmOK (starM o rs n) := ⟨by unfold starM; rw [List.length_cons]; omega, fun x hx => by
  unfold starM at hx
  rcases List.mem_cons.1 hx with rfl | hx
  ·decide
  ·exact hE.2 x hx⟩
 obtain ⟨-, -, ⟨css, hA, hR⟩, hOK, hl⟩ := h
 obtain ⟨hln, hx⟩ : css.length = m ∧ m ≤ c := by
  obtain ⟨a', c', e, h1, _⟩ := id hA
  cases e; exact ⟨rfl, h1⟩
 have HST := qH0 (show starM o rs n = [42] :: encM o rs n from rfl)
 have HSO := qH0 (show qaT o rs n = rs.any fun r => sameN r.owner (starM o rs n) from rfl)
 have HE := qH0 hE
 have HA := qH0 hA; have HR := qH0 hR; have HLN := qH0 hln; have HOK := qH0 hOK
 have HDL := qH0 (show rs.length = m by rw [← hR.1]; exact hln)
 obtain ⟨ao, co, rfl, -⟩ := nmAt_sl.1 hO
 generalize (List.map strV n).length = qo at *
 obtain ⟨S, hSS⟩ : ∃ S, starM o rs n = S := ⟨_, rfl⟩
 rw [hSS] at HST HSO hS ⊢
 generalize qaT o rs n = res at *
 have HS := qH0 hS
 have hB0 := (Below.refl w.heap.size w).alloc (qN0) (.cells #[.slice za zn zc, .slice v1 m c] 57)
 have X0 := qH0 (knew w (.cells #[.slice za zn zc, .slice v1 m c] 57))
 have hc := HC.out _ hB0
 have HB0 := qH0 hB0
 clear hO hko hB0 HC hA hR hOK hln hE hEl hS hSS hn1
 go_enter Tryz.func33, Tryz.ntmps33
 go_wp2_with fail
 refine hc.mono ?_
 rintro e w1 ⟨a1, k1, c1, rfl, hn1, hb1⟩
 have HB1 := qH0 (qB0 HB0.out hb1)
 have X1 := qH0 ((hb1.block w.heap.size (qaa X0.out)).trans X0.out)
 have hc2 := qk9 ⟨#[42]⟩ (.slice a1 k1 c1) (encM o rs n) S S.length (by rw [HST.out]) rfl w1 hn1 HE.out
 clear hc hn1 hb1 HB0 X0 HE
 go_wp2_with fail
 refine hc2.mono ?_
 rintro e w2 ⟨a2, c2, rfl, hn2, hb2⟩
 have HB2 := qH0 (qB0 HB1.out hb2)
 have x2 := (hb2.block w.heap.size (qaa X1.out)).trans X1.out
 have HN2 := qH0 hn2
 have y0 := kcell x2 0 _ rfl; have y1 := kcell x2 1 _ rfl
 generalize S.length = sl at *
 clear hc2 hn2 hb2 HB1 X1 x2
 go_wp2
 clear y0 y1
 go_loopw [16] (fun vi wr => ∃ k : Nat, vi = .int .i64 k ∧ k ≤ m ∧ Hid (((rs.take k).any fun r => sameN r.owner S) = false) ∧ Hid (Below w2.heap.size w2 wr)) (fun vi _ => m - (intOf vi).toNat)
 case atStart => exact ⟨0, rfl, Nat.zero_le _, qH0 (by simp), qH0 (qL0)⟩
 case round =>
  obtain ⟨k, rfl, hk, HN, HB⟩ := hrel
  by_cases hlt : k < m
  ·have hltz : (k : Int) < (m : Int) := by omega
   have hk1 : k < css.length := by have := HLN.out; omega
   have hk2 : k < rs.length := by have := HDL.out; omega
   obtain ⟨b, off, rfl, hb, hel⟩ := HA.out.elem HR.out.ck (by omega)
   have h0 := HR.out.2 k hk1 hk2
   have hokr := (HOK.out _ (List.getElem_mem hk2)).1
   have hany := qdB (p := fun r => sameN r.owner S) hk2
   obtain ⟨d, hd⟩ : ∃ d, rs[k]'hk2 = d := ⟨_, rfl⟩
   have hdm : d ∈ rs := by rw [← hd]; exact List.getElem_mem _
   rw [hd] at h0 hokr hany
   rw [HN.out, Bool.false_or] at hany
   have hsh := h0.shape
   obtain ⟨⟨p0, q0, k0⟩, ⟨p3, q3, k3⟩, ⟨p4, q4, k4⟩, ⟨p5, q5, k5⟩, ⟨p6, q6, k6⟩, e0⟩ := hsh
   simp only at e0
   have hwr : Below w.heap.size w wr := qB0 HB2.out HB.out
   obtain ⟨c0', c1', c2', c3, c4, c5, c6⟩ := hel k hk1 _ _ _ _ _ _ _ e0 wr hwr
   have hown0 : NmAt w (.slice p0 q0 k0) d.owner := by
    obtain ⟨_, _, _, _, _, e5, g1, _⟩ := h0
    rw [e0] at e5
    simp only [List.cons.injEq, and_true] at e5
    rw [e5.1]; exact g1
   have hbb := HB.out.alloc HB.out.size (.cells #[.slice p0 q0 k0, .int .u32 (d.ttl : Int), .int .i64 d.data.ty, .slice p3 q3 k3, .slice p4 q4 k4, .slice p5 q5 k5, .slice p6 q6 k6] 103)
   have hww := hwr.alloc hwr.size (.cells #[.slice p0 q0 k0, .int .u32 (d.ttl : Int), .int .i64 d.data.ty, .slice p3 q3 k3, .slice p4 q4 k4, .slice p5 q5 k5, .slice p6 q6 k6] 103)
   have hn := qbL (.slice p0 q0 k0) (.slice a2 sl c2) d.owner S _ rfl _ (hown0.below hww) (HN2.out.below hbb) hokr HS.out
   have HBB := qH0 hbb; have HANY := qH0 hany; have HDM := qH0 hdm
   clear h0 hd e0 hel hown0 hokr hany hdm hk1 hk2 hwr hbb hww
   generalize (d.ttl : Int) = tr at *
   generalize d.data.ty = ty at *
   go_wp2_with fail
   refine hn.mono ?_
   rintro e w3 ⟨rfl, hb3⟩
   have HB3 := qH0 (qB0 HBB.out hb3)
   clear hn hb3 HBB c0' c1' c2' c3 c4 c5 c6
   obtain ⟨q, hq⟩ : ∃ q, sameN d.owner S = q := ⟨_, rfl⟩
   have HQ := qH0 hq
   rw [hq] at HANY ⊢
   clear hq
   cases q
   ·go_wp2
    go_roundw
    case measure => simp [intOf]; omega
    case rel => exact ⟨k + 1, by go_num, by omega, HANY, HB3⟩
   ·have H1 : Hid (res = true) := qH0 (by rw [HSO.out, List.any_eq_true]; exact ⟨d, HDM.out, HQ.out⟩)
    go_wp2
    go_ret2
    exact ⟨a2, _, c2, by rw [H1.out]; rfl, by rw [H1.out, if_pos rfl]; exact HN2.out.below HB3.out, qB0 HB2.out HB3.out⟩
  ·obtain rfl : k = m := by omega
   have hn := HN.out
   rw [List.take_of_length_le (by have := HDL.out; omega)] at hn
   have H1 : Hid (res = false) := qH0 (by rw [HSO.out]; exact hn)
   clear hn
   go_wp2
   go_ret2
   exact ⟨none, 0, 0, by rw [H1.out]; rfl, by rw [H1.out]; exact nm_nil _, qB0 HB2.out HB.out⟩
theorem qhb {S T : TypeId} {k bytes : Nat} {ops : Array Oper} {rest : List Oper} {o : Oper} {a : Act} {Q : Exit → Act → World → Prop} (W : World) (hgd : o.guard = none) (s x : Operand) (hE : ElemK k T S bytes) (hk0 : 0 < k)
 (ho : o.op = .call { callee := .builtin .append, args := #[s, x], argTypes := #[S, S] })
 (base : Nat) (v : Value) (xs : List (List Value)) (hs : a.eval s = v) (hown : OwnC k T W base v xs)
 (src : Value) (yss : List (List Value)) (hx : a.eval x = src) (hsrc : SlK W src yss) (hy : ∀ ys ∈ yss, ys.length = k) (hy1 : ∀ ys ∈ yss, ∀ u ∈ ys, u.oneCell' = true)
 (hbase : base ≤ W.heap.size) (hk : xs.length + yss.length ≤ maxLen) (hk2 : (xs.length + yss.length) * bytes ≤ 140737488355328)
 (h : ∀ v' w', OwnC k T w' base v' (xs ++ yss) → W.grownBy w' v.ownBlock → wpList Tryz.prog ops Q rest (a.put o.dst v') w') :
 wpList Tryz.prog ops Q (o :: rest) a W := by
 obtain ⟨ht, i, z, hi, hz, hz1, hz2, hzc⟩ := hE
 obtain ⟨a0, c0, rfl, hc0, hn0, hcells⟩ := id hsrc
 cases a0 with
 | none =>
  have e3 := hn0 rfl
  subst e3
  obtain rfl : yss = [] := List.eq_nil_of_length_eq_zero (by omega)
  refine wpList_append_own_none hgd s x S ho base T i k ht hi v _ _ hs hown hx ?_
  exact h v W (by rw [List.append_nil]; exact hown) ⟨rfl, rfl, rfl, qN0, fun _ _ _ => rfl⟩
 | some ad =>
  have hcell : ∀ j u, yss.flatten[j]? = some u → W.cell? (ad.add j) = some u := by
   intro j u hj
   rcases hcells with e | ⟨b, off, e, _, hc⟩
   ·subst e; simp at hj
   ·cases e
    rw [Addr.add_lit]; exact hc j u hj
  have hlen : ∀ l : List (List Value), (∀ ys ∈ l, ys.length = k) → l.flatten.length = l.length * k := by
   intro l
   induction l with
   | nil => intro _; simp
   | cons y t ih =>
    intro hl
    rw [List.flatten_cons, List.length_append, hl y (by simp), ih fun ys hys => hl ys (by simp [hys]), List.length_cons, Nat.succ_mul]
    omega
  refine wpList_append_own _ hgd s x S ho base T i z k bytes ht hi hz hz1 hz2 hzc hk0 v xs.length (xs.flatMap fun cs => cs) hs hown ad yss.length c0 yss.flatten hx (hlen yss hy) hcell (by intro u hu; obtain ⟨ys, hys, hu⟩ := List.mem_flatten.1 hu; exact hy1 ys hys u hu) hk hk2 hbase ?_
  intro v' w' h1 h2 _
  refine h v' w' ?_ h2
  unfold OwnC OwnK
  rw [List.length_append, List.flatMap_append]
  have e : (yss.flatMap fun cs => cs) = yss.flatten := by rw [List.flatMap_id']
  rw [e]
  exact h1
theorem DRow.keptC {W W' : World} {base base' k : Nat} {vn vu vt vr v' : Value} {yss : List (List Value)} {d : Dat} (h : DRow W base vn vu vt vr d) (h' : OwnC k 101 W base' v' yss) (hg : W.grownBy W' v'.ownBlock) : DRow W' base vn vu vt vr d := by
 obtain ⟨⟨vs, k1, k2, k3⟩, i1, i2, i3⟩ := h
 exact ⟨⟨vs, k1.kept_c h' (by decide) hg, k2, fun i a b => (k3 i a b).kept_c h' (by decide) hg⟩, i1.kept_c h' (by decide) hg, i2.kept_c h' (by decide) hg, i3.kept_c h' (by decide) hg⟩
theorem FrSet.below {W W' : World} {base : Nat} {cs : List Value} {s : St} (h : FrSet W base cs s) (hb : Below W.heap.size W W') : FrSet W' base cs s := by
 obtain ⟨x0, x3, ds, e, h1, h2, h3, h4⟩ := h
 refine ⟨x0, x3, ds, e, h1.below hb, OwnK.below h2 hb, h3, fun j a b => ?_⟩
 obtain ⟨vn, vu, vt, vr, e2, h6⟩ := h4 j a b
 exact ⟨vn, vu, vt, vr, e2, h6.below hb⟩
theorem qfw : ∀ (l : List Nat), ∀ x ∈ l, x ≤ l.sum
 | [], x, h => by cases h
 | y :: t, x, h => by
  rw [List.sum_cons]
  rcases List.mem_cons.1 h with rfl | h
  ·omega
  ·have := qfw t x h; omega
theorem qbO (l : List Rc) (o : Nm) (t : Int) : ((ofM l o t).getD ⟨[], 0, 0, []⟩).data.length ≤ l.length := by
 cases h : ofM l o t with
 | none => simp
 | some s =>
  have hs : s ∈ setsM (canonM (l.filter (belM o t))) := by unfold ofM at h; exact List.mem_of_mem_head? h
  have h1 := qdL (canonM (l.filter (belM o t))).length (canonM (l.filter (belM o t))) (qN0)
  have h2 := qfw _ _ (List.mem_map.2 ⟨s, hs, rfl⟩ : s.data.length ∈ (setsM (canonM (l.filter (belM o t)))).map fun s => s.data.length)
  have h3 := qaL (l.filter (belM o t))
  have h4 := List.length_filter_le (belM o t) l
  show s.data.length ≤ l.length
  omega
theorem DRow.one {W : World} {base : Nat} {vn vu vt vr : Value} {d : Dat} (h : DRow W base vn vu vt vr d) : vn.oneCell' = true ∧ vu.oneCell' = true ∧ vt.oneCell' = true ∧ vr.oneCell' = true := by
 obtain ⟨⟨vs, k1, k2, k3⟩, i1, i2, i3⟩ := h
 obtain ⟨_, _, rfl⟩ := k1.shape; obtain ⟨_, _, rfl⟩ := i1.shape; obtain ⟨_, _, rfl⟩ := i2.shape; obtain ⟨_, _, rfl⟩ := i3.shape
 exact ⟨rfl, rfl, rfl, rfl⟩
theorem FarKeep.refl (n : Nat) (W : World) : FarKeep n W W := fun _ _ _ => rfl
theorem FarKeep.trans {n : Nat} {a b c : World} (h : FarKeep n a b) (hs : a.heap.size ≤ b.heap.size) (g : FarKeep n b c) : FarKeep n a c := fun i h1 h2 => (g i h1 (Nat.lt_of_lt_of_le h2 hs)).trans (h i h1 h2)
theorem FarKeep.of_below {n : Nat} {a b : World} (h : Below a.heap.size a b) : FarKeep n a b := fun i _ h2 => h.block i h2
theorem FarKeep.set {n : Nat} (W : World) (B j : Nat) (v : Value) (hB : B < n) : FarKeep n W (W.setCell ⟨B, j, none⟩ v) := fun i h1 h2 => (qah W B j v).block i h2 (fun e => by injection e; omega)
theorem DRow.move {W W' : World} {base : Nat} {vn vu vt vr : Value} {d : Dat} (h : DRow W base vn vu vt vr d) (hf : FarKeep base W W') : DRow W' base vn vu vt vr d := by
 obtain ⟨⟨vs, k1, k2, k3⟩, i1, i2, i3⟩ := h
 exact ⟨⟨vs, k1.move hf, k2, fun i a b => (k3 i a b).move hf⟩, i1.move hf, i2.move hf, i3.move hf⟩
theorem FrSet.move {W W' : World} {base : Nat} {cs : List Value} {s : St} (h : FrSet W base cs s) (hf : FarKeep base W W') : FrSet W' base cs s := by
 obtain ⟨x0, x3, ds, e, h1, h2, h3, h4⟩ := h
 refine ⟨x0, x3, ds, e, h1.move hf, OwnK.move h2 hf, h3, fun j a b => ?_⟩
 obtain ⟨vn, vu, vt, vr, e2, h6⟩ := h4 j a b
 exact ⟨vn, vu, vt, vr, e2, h6.move hf⟩
theorem OwnNms.move {W W' : World} {base : Nat} {v : Value} {ns : List Nm} (h : OwnNms W base v ns) (hf : FarKeep base W W') : OwnNms W' base v ns := by
 obtain ⟨vs, h1, h2, h3⟩ := h
 exact ⟨vs, h1.move hf, h2, fun j a b => (h3 j a b).move hf⟩
def slW (x : Option Addr × Nat × Nat) : Value := .slice x.1 x.2.1 x.2.2
def DtsR (W : World) (v : Value) (l : List Dat) : Prop := ∃ ds, SlK W v ds ∧ Dts W ds l
theorem DtsR.below {W W' : World} {v : Value} {l : List Dat} (h : DtsR W v l) (hb : Below W.heap.size W W') : DtsR W' v l := by
 obtain ⟨ds, h1, h2⟩ := h
 exact ⟨ds, h1.below hb, h2.1, fun j a b => ⟨(h2.2 j a b).1, (h2.2 j a b).2.below hb⟩⟩
theorem DtsR.nil (W : World) : DtsR W (.slice none 0 0) [] := ⟨[], SlK.nil W, rfl, fun j a => absurd a (by simp)⟩
def GlR (W : World) (v : Value) (l : List (Nm × List Dat)) : Prop := ∃ css : List (List Value), SlK W v css ∧ css.length = l.length ∧
 ∀ j (h1 : j < css.length) (h2 : j < l.length), ∃ x0 x1 : Option Addr × Nat × Nat, css[j] = [slW x0, slW x1] ∧ NmAt W (slW x0) l[j].1 ∧ DtsR W (slW x1) l[j].2
theorem GlR.below {W W' : World} {v : Value} {l : List (Nm × List Dat)} (h : GlR W v l) (hb : Below W.heap.size W W') : GlR W' v l := by
 obtain ⟨css, h1, h2, h3⟩ := h
 refine ⟨css, h1.below hb, h2, fun j a b => ?_⟩
 obtain ⟨x0, x1, e, k1, k2⟩ := h3 j a b
 exact ⟨x0, x1, e, k1.below hb, k2.below hb⟩
theorem GlR.nil (W : World) : GlR W (.slice none 0 0) [] := ⟨[], SlK.nil W, rfl, fun j a => absurd a (by simp)⟩
def LkAt (W : World) (cs : List Value) (r : Lk) : Prop := ∃ xd xn xg : Option Addr × Nat × Nat, cs = [.int .i64 r.kind, slW xd, slW xn, .bool r.wild, slW xg] ∧ DtsR W (slW xd) r.data ∧ NmAt W (slW xn) r.name ∧ GlR W (slW xg) r.glue
theorem LkAt.below {W W' : World} {cs : List Value} {r : Lk} (h : LkAt W cs r) (hb : Below W.heap.size W W') : LkAt W' cs r := by
 obtain ⟨xd, xn, xg, e, h1, h2, h3⟩ := h
 exact ⟨xd, xn, xg, e, h1.below hb, h2.below hb, h3.below hb⟩
theorem qbb (W : World) (k : Int) (b : Bool) : LkAt W [.int .i64 k, .slice none 0 0, .slice none 0 0, .bool b, .slice none 0 0] ⟨k, [], [], b, []⟩ :=
 ⟨(none, 0, 0), (none, 0, 0), (none, 0, 0), rfl, DtsR.nil W, (OwnG.nmAt (OwnG.nil W 0) : NmAt W (.slice none 0 0) []), GlR.nil W⟩
def LkPost (N : Nat) (w : World) (r : Lk) (e : Ending) (w' : World) : Prop := ∃ cs, e = .returned (.agg cs.toArray) ∧ (∀ W', FarKeep N w' W' → LkAt W' cs r) ∧ Below w.heap.size w w'
theorem FrSet.dtsR {W : World} {base : Nat} {x0 x3 : Option Addr × Nat × Nat} {y t : Int} {s : St} (h : FrSet W base [slW x0, .int .i64 y, .int .u32 t, slW x3] s) : DtsR W (slW x3) s.data := by
 obtain ⟨z0, z3, ds, e, q1, q2, q3, q4⟩ := h
 simp only [List.cons.injEq, and_true] at e
 obtain ⟨-, -, -, e3⟩ := e
 have e3 : slW x3 = .slice z3.1 z3.2.1 z3.2.2 := e3
 rw [e3]
 have hD : Dts W ds s.data := ⟨q3, fun i h1 h2 => by
  obtain ⟨vn, vu, vt, vr, e2, h6⟩ := q4 i h1 h2
  rw [e2]; exact ⟨rfl, h6.datAt⟩⟩
 exact ⟨ds, SlK.of_own q2 hD.ck, hD⟩
theorem DtsR.first {W : World} {b off n c : Nat} {l : List Dat} (h : DtsR W (.slice (some ⟨b, off, none⟩) n c) l) (h0 : 0 < l.length) : DtsR W (.slice (some ⟨b, off, none⟩) 1 1) (l.take 1) := by
 obtain ⟨ds, ⟨a', c', e, h1, h2, h3⟩, h4⟩ := h
 injection e with e1 e2 e3
 have hd : 0 < ds.length := by rw [h4.1]; exact h0
 have hl : (ds.take 1).length = 1 := by rw [List.length_take]; omega
 refine ⟨ds.take 1, ⟨some ⟨b, off, none⟩, 1, by rw [hl], by rw [hl]; exact qN0, (fun e => by cases e), ?_⟩, (by rw [hl, List.length_take]; omega), fun j a1 a2 => ?_⟩
 ·rcases h3 with h3 | ⟨b', off', e4, h5, h6⟩
  ·subst h3; simp at hd
  ·refine .inr ⟨b, off, rfl, ?_, fun j u hu => ?_⟩
   ·rw [e4] at e1; injection e1 with e1; injection e1 with e5 e6; rw [e5]; exact h5
   ·rw [e4] at e1; injection e1 with e1; injection e1 with e5 e6
    rw [e5, e6]
    apply h6
    have hp : (ds.take 1).flatten <+: ds.flatten := by
     conv => rhs; rw [← List.take_append_drop 1 ds, List.flatten_append]
     exact List.prefix_append _ _
    obtain ⟨t, ht⟩ := hp
    rw [← ht, List.getElem?_append_left (List.getElem?_eq_some_iff.1 hu).1]; exact hu
 ·have q := h4.2 j (by rw [List.length_take] at a1; omega) (by rw [List.length_take] at a2; omega)
  simp only [List.getElem_take]
  exact q
theorem qb5 {fn : Func} {t : Tmp} (h : fn.results = #[.cell t 84]) (tmps : Array Value) (W : World) {a : Nat} {x0 x1 x2 x3 x4 : Value} (h0 : x0.oneCell' = true) (h1 : x1.oneCell' = true) (h2 : x2.oneCell' = true) (h3 : x3.oneCell' = true) (h4 : x4.oneCell' = true)
 (ht : tmps.getD t undef = .pointer (some ⟨a, 0, none⟩)) (y0 : W.cell? ⟨a, 0, none⟩ = some x0) (y1 : W.cell? ⟨a, 1, none⟩ = some x1) (y2 : W.cell? ⟨a, 2, none⟩ = some x2) (y3 : W.cell? ⟨a, 3, none⟩ = some x3) (y4 : W.cell? ⟨a, 4, none⟩ = some x4) : (results fn tmps).run Tryz.prog W = .ok (.agg #[x0, x1, x2, x3, x4]) W := by
 have ht' : tmps[t]?.getD undef = .pointer (some ⟨a, 0, none⟩) := by rw [← ht]; simp
 have hu : ∀ w, Sem.run Tryz.prog (underlying 84) w = .ok _ w := run_underlying Tryz.underlying84
 simp [results, h, ht', loadVar, asAddr, go_sem, hu, y0, y1, y2, y3, y4, isAgg]
def put5 (W : World) (B : Nat) (v0 v1 v2 v3 v4 : Value) : World := ((((W.setCell ⟨B, 0, none⟩ v0).setCell ⟨B, 1, none⟩ v1).setCell ⟨B, 2, none⟩ v2).setCell ⟨B, 3, none⟩ v3).setCell ⟨B, 4, none⟩ v4
theorem qce {W : World} {B : Nat} {z0 z1 z2 z3 z4 : Value} (h : W.heap[B]? = some (.cells #[z0, z1, z2, z3, z4] 84)) (v0 v1 v2 v3 v4 : Value) : (put5 W B v0 v1 v2 v3 v4).heap[B]? = some (.cells #[v0, v1, v2, v3, v4] 84) := by
 have q0 := kset h 0 v0
 have q1 := kset q0 1 v1
 have q2 := kset q1 2 v2
 have q3 := kset q2 3 v3
 exact kset q3 4 v4
theorem qar (W : World) (B : Nat) (v0 v1 v2 v3 v4 : Value) : W.grownBy (put5 W B v0 v1 v2 v3 v4) (some B) := by
 have g0 := qah W B 0 v0
 have g1 := qah (W.setCell ⟨B, 0, none⟩ v0) B 1 v1
 have g2 := qah ((W.setCell ⟨B, 0, none⟩ v0).setCell ⟨B, 1, none⟩ v1) B 2 v2
 have g3 := qah (((W.setCell ⟨B, 0, none⟩ v0).setCell ⟨B, 1, none⟩ v1).setCell ⟨B, 2, none⟩ v2) B 3 v3
 have g4 := qah ((((W.setCell ⟨B, 0, none⟩ v0).setCell ⟨B, 1, none⟩ v1).setCell ⟨B, 2, none⟩ v2).setCell ⟨B, 3, none⟩ v3) B 4 v4
 have tr : ∀ {a b c : World}, a.grownBy b (some B) → b.grownBy c (some B) → a.grownBy c (some B) := fun h g =>
  ⟨g.os.trans h.os, g.tape.trans h.tape, g.output.trans h.output, Nat.le_trans h.size g.size, fun i hi hne => (g.block i (Nat.lt_of_lt_of_le hi h.size) hne).trans (h.block i hi hne)⟩
 exact tr (tr (tr (tr g0 g1) g2) g3) g4
theorem qas {n : Nat} {w W : World} (h : Below n w W) {B : Nat} (hB : n ≤ B) (v0 v1 v2 v3 v4 : Value) : Below n w (put5 W B v0 v1 v2 v3 v4) :=
 ((((h.setCell (p := ⟨B, 0, none⟩) hB _).setCell (p := ⟨B, 1, none⟩) hB _).setCell (p := ⟨B, 2, none⟩) hB _).setCell (p := ⟨B, 3, none⟩) hB _).setCell (p := ⟨B, 4, none⟩) hB _
theorem qaR {n : Nat} (W : World) {B : Nat} (hB : B < n) (v0 v1 v2 v3 v4 : Value) : FarKeep n W (put5 W B v0 v1 v2 v3 v4) := fun i h1 h2 => (qar W B v0 v1 v2 v3 v4).block i h2 (fun e => by injection e; omega)
theorem lk_fin {fn : Func} {t : Tmp} (h : fn.results = #[.cell t 84]) (tmps : Array Value) {W : World} {a : Nat} {z0 z1 z2 z3 z4 x0 x1 x2 x3 x4 : Value} (hx : W.heap[a]? = some (.cells #[z0, z1, z2, z3, z4] 84)) (h0 : x0.oneCell' = true) (h1 : x1.oneCell' = true) (h2 : x2.oneCell' = true) (h3 : x3.oneCell' = true) (h4 : x4.oneCell' = true)
 (ht : tmps.getD t undef = .pointer (some ⟨a, 0, none⟩)) : (results fn tmps).run Tryz.prog (put5 W a x0 x1 x2 x3 x4) = .ok (.agg #[x0, x1, x2, x3, x4]) (put5 W a x0 x1 x2 x3 x4) := by
 have hb := qce hx x0 x1 x2 x3 x4
 exact qb5 h tmps _ h0 h1 h2 h3 h4 ht (kcell hb 0 _ rfl) (kcell hb 1 _ rfl) (kcell hb 2 _ rfl) (kcell hb 3 _ rfl) (kcell hb 4 _ rfl)
theorem qd2 (v u : Value) (l m : List Dat) (w : World) (hA : DtsR w v l) (hU : DtsR w u m) (hOK : ∀ r ∈ l, DatOK r) (hOK2 : ∀ r ∈ m, DatOK r) (hl : l.length ≤ 1048576) (hl2 : m.length ≤ 1048576) :
 Calls Tryz.prog 100 #[v, u] w fun e w' => e = .returned (.bool (qap l m)) ∧ Below w.heap.size w w' := by
 obtain ⟨css, h1, h2⟩ := hA
 obtain ⟨ess, h3, h4⟩ := hU
 have hc := qkG v u css ess l m w h1 h2 h3 h4 hOK hOK2 (by rw [h2.1]; exact hl) (by rw [h4.1]; exact hl2)
 obtain ⟨a, c, rfl, -⟩ := h1
 obtain ⟨b, d, rfl, -⟩ := h3
 generalize css.length = n1 at *
 generalize ess.length = n2 at *
 clear h2 h4 hOK hOK2 hl hl2
 go_enter Tryz.func100, Tryz.ntmps100
 go_wp2_with fail
 refine hc.mono ?_
 rintro e w1 ⟨rfl, hb⟩
 clear hc
 go_wp2
 go_ret
 exact ⟨rfl, hb⟩
theorem qhn (x0 x1 y0 y1 : Option Addr × Nat × Nat) (a b : Nm × List Dat) (w : World) (hA : NmAt w (slW x0) a.1) (hA2 : DtsR w (slW x1) a.2) (hB : NmAt w (slW y0) b.1) (hB2 : DtsR w (slW y1) b.2) (hka : NmOK a.1) (hkb : NmOK b.1) (hOK : ∀ r ∈ a.2, DatOK r) (hOK2 : ∀ r ∈ b.2, DatOK r) (hl : a.2.length ≤ 1048576) (hl2 : b.2.length ≤ 1048576) :
 Calls Tryz.prog 102 #[.agg #[slW x0, slW x1], .agg #[slW y0, slW y1]] w fun e w' => e = .returned (.bool (sameN a.1 b.1 && qap a.2 b.2)) ∧ Below w.heap.size w w' := by
 have HN := qH0 (fun (W : World) (hb : Below w.heap.size w W) => qbL (slW x0) (slW y0) a.1 b.1 _ rfl W (hA.below hb) (hB.below hb) hka hkb)
 have HD := qH0 (fun (W : World) (hb : Below w.heap.size w W) => qd2 (slW x1) (slW y1) a.2 b.2 W (hA2.below hb) (hB2.below hb) hOK hOK2 hl hl2)
 clear hA hA2 hB hB2 hka hkb hOK hOK2 hl hl2
 obtain ⟨a0, a1, a2⟩ := x0
 obtain ⟨a3, a4, a5⟩ := x1
 obtain ⟨b0, b1, b2⟩ := y0
 obtain ⟨b3, b4, b5⟩ := y1
 unfold slW at *
 simp only at *
 have hB0 : Below w.heap.size w ((w.alloc (.cells #[.slice a0 a1 a2, .slice a3 a4 a5] 143)).alloc (.cells #[.slice b0 b1 b2, .slice b3 b4 b5] 143)) := ((Below.refl w.heap.size w).alloc (qN0) _).alloc (by simp) _
 have hn := HN.out _ hB0
 have X0 := qH0 ((Below.heap_alloc (w.alloc (.cells #[.slice a0 a1 a2, .slice a3 a4 a5] 143)) (.cells #[.slice b0 b1 b2, .slice b3 b4 b5] 143) w.heap.size (by simp)).trans (knew w _))
 have X1 := qH0 (knew (w.alloc (.cells #[.slice a0 a1 a2, .slice a3 a4 a5] 143)) (.cells #[.slice b0 b1 b2, .slice b3 b4 b5] 143))
 rw [World.size_alloc] at X1
 have HB0 := qH0 hB0
 clear hB0 HN
 generalize sameN a.1 b.1 = r1 at *
 generalize qap a.2 b.2 = r2 at *
 go_enter Tryz.func102, Tryz.ntmps102
 go_wp2_with fail
 refine hn.mono ?_
 rintro e w1 ⟨rfl, hb1⟩
 have HB1 := qH0 (qB0 HB0.out hb1)
 have x0 := (hb1.block _ (qaa X0.out)).trans X0.out
 have x1 := (hb1.block _ (qaa X1.out)).trans X1.out
 have k1 := kcell x0 1 _ rfl
 have k3 := kcell x1 1 _ rfl
 have hd := HD.out _ HB1.out
 clear hn hb1 x0 x1 X0 X1 HB0 HD
 cases r1 with
 | false =>
  clear hd
  go_wp2
  go_ret
  exact ⟨rfl, HB1.out⟩
 | true =>
  go_wp2_with fail
  refine hd.mono ?_
  rintro e w2 ⟨rfl, hb2⟩
  have HB2 := qH0 (qB0 HB1.out hb2)
  clear hd hb2
  go_wp2
  go_ret
  exact ⟨by simp, HB2.out⟩
theorem qgV {W : World} {p0 p3 : Option Addr} {q0 k0 k3 n : Nat} {y t : Int} {s : St} (h : SetR W [.slice p0 q0 k0, .int .i64 y, .int .u32 t, .slice p3 n k3] s) (hp : pointD s = true) :
 ∃ b off g go m c v0, p3 = some ⟨b, off, none⟩ ∧ n = s.data.length ∧ 0 < n ∧ n ≤ k3 ∧ 0 < m ∧ NmAt W v0 (firstN s) ∧ ∀ W', Below W.heap.size W W' → W'.cell? ⟨b, off + 1, none⟩ = some (.slice (some ⟨g, go, none⟩) m c) ∧ W'.cell? ⟨g, go, none⟩ = some v0 := by
 obtain ⟨ds, hA, hR, hn⟩ := h.dts (x0 := (p0, q0, k0)) (x3 := (p3, n, k3))
 have hc : n ≤ k3 := by
  obtain ⟨a', c', e, h1, _⟩ := id hA
  injection e with _ _ e3
  rw [hR.1] at h1; have e4 : k3 = c' := e3; omega
 have h0 : 0 < s.data.length := by
  rcases Nat.eq_zero_or_pos s.data.length with h | h
  ·rw [qdP h] at hp; cases hp
  ·exact h
 rw [qcS h0] at hp
 have hp := of_decide_eq_true hp
 have hd1 : 0 < ds.length := by rw [hR.1]; exact h0
 obtain ⟨b, off, rfl, hb, hel⟩ := hA.elem5 hR.ck hd1
 have hd := (hR.2 0 hd1 h0).2
 have hf : firstN s = s.data[0].names[0] := by
  unfold firstN
  rw [List.head?_eq_getElem?, List.getElem?_eq_getElem h0]
  simp only [Option.map_some, Option.getD_some]
  rw [List.headD_eq_head?_getD, List.head?_eq_getElem?, List.getElem?_eq_getElem hp]; rfl
 obtain ⟨an, cn, x4, x5, x6, vs, e0, s1, sl, hcn, s2⟩ := qcn hd
 have hv : 0 < vs.length := by omega
 obtain ⟨a', c', e1, h1, _, h2⟩ := id s1
 rcases h2 with h2 | ⟨g, go, e2, hg, h3⟩
 ·subst h2; simp at hv
 ·injection e1 with e1 _ _
  rw [e2] at e1
  refine ⟨b, off, g, go, s.data[0].names.length, cn, vs[0], rfl, hn, by omega, hc, hp, by rw [hf]; exact s2 0 hv hp, fun W' hB => ?_⟩
  have hcl := hel 0 hd1 _ _ _ _ _ e0 W' hB
  refine ⟨by have := hcl.2.1; rw [e1] at this; simpa using this, ?_⟩
  have := h3 0 hv
  rw [Nat.add_zero] at this
  exact Below.cell hB (p := ⟨g, go, none⟩) hg |>.trans this
theorem ofM_ok {l : List Rc} {o : Nm} {t : Int} {s : St} (hl : ∀ r ∈ l, RcOK r) (h : ofM l o t = some s) : NmOK s.owner ∧ ∀ d ∈ s.data, DatOK d := by
 unfold ofM at h
 exact qfY (fun r hr => hl r (List.mem_filter.1 hr).1) (List.mem_of_mem_head? h)
def at2M (r1 r2 : Option St) : Lk := match r1 with
 | some s => ⟨1, s.data, [], false, []⟩
 | none => match r2 with
  | some c => if pointD c then ⟨5, c.data.take 1, firstN c, false, []⟩ else ⟨2, [], [], false, []⟩
  | none => ⟨2, [], [], false, []⟩
theorem atM_eq (l : List Rc) (n : Nm) (t : Int) : atM l n t = at2M (ofM l n t) (ofM l n 5) := rfl
theorem qkl {s : St} (h0 : 0 < s.data.length) (hp : 0 < s.data[0].names.length) : firstN s = s.data[0].names[0] := by
 unfold firstN
 rw [List.head?_eq_getElem?, List.getElem?_eq_getElem h0]
 simp only [Option.map_some, Option.getD_some]
 rw [List.headD_eq_head?_getD, List.head?_eq_getElem?, List.getElem?_eq_getElem hp]; rfl
theorem qjW {s : St} (hp : pointD s = true) : ∃ h0 : 0 < s.data.length, 0 < s.data[0].names.length := by
 have h0 : 0 < s.data.length := by
  rcases Nat.eq_zero_or_pos s.data.length with h | h
  ·rw [qdP h] at hp; cases hp
  ·exact h
 rw [qcS h0] at hp
 exact ⟨h0, of_decide_eq_true hp⟩
theorem qbC {s : St} (hp : pointD s = true) : ∃ d ∈ s.data, firstN s ∈ d.names := by
 obtain ⟨h0, h1⟩ := qjW hp
 exact ⟨_, List.getElem_mem h0, by rw [qkl h0 h1]; exact List.getElem_mem h1⟩
theorem qjc (v vo : Value) (o : Nm) (t : Int) (l : List Rc) (w : World) (h : RowC w v l) (hO : NmAt w vo o) (hko : NmOK o) (hOK : ∀ r ∈ l, RcOK r) (hl : l.length ≤ 1048576) :
 Calls Tryz.prog 95 #[v, vo, .int .i64 t] w (LkPost w.heap.size w (atM l o t)) := by
 have HOF := qH0 (fun (t : Int) (W : World) (hb : Below w.heap.size w W) => qf2 v vo o t l W (h.below hb) (hO.below hb) hko hOK hl)
 have HNL := qH0 (fun s (e : ofM l o 5 = some s) (hp : pointD s = true) => show (firstN s).length ≤ 8796093022000 from by
  obtain ⟨d, h1, h2⟩ := qbC hp
  have := (((ofM_ok hOK e).2 d h1).2.2.1 _ h2).1
  omega)
 have HAT := qH0 (atM_eq l o t)
 generalize atM l o t = res at *
 obtain ⟨av, nv, cv, rfl⟩ : ∃ a n c, v = .slice a n c := by obtain ⟨css, ⟨a, c, e, _⟩, _⟩ := h; exact ⟨a, _, c, e⟩
 obtain ⟨ao, co, rfl, -⟩ := nmAt_sl.1 hO
 generalize (List.map strV o).length = qo at *
 unfold qb9 at HOF
 have hB0 := (Below.refl w.heap.size w).alloc (qN0) (.cells #[.int .i64 0, .slice none 0 0, .slice none 0 0, .bool false, .slice none 0 0] 84)
 have X0 := qH0 (knew w (.cells #[.int .i64 0, .slice none 0 0, .slice none 0 0, .bool false, .slice none 0 0] 84))
 have hc := HOF.out t _ hB0
 have HB0 := qH0 hB0
 have HS0 := qH0 (show (w.alloc (.cells #[.int .i64 0, .slice none 0 0, .slice none 0 0, .bool false, .slice none 0 0] 84)).heap.size = w.heap.size + 1 by simp)
 clear h hO hko hOK hl hB0
 obtain ⟨r1, hr1⟩ : ∃ r, ofM l o t = r := ⟨_, rfl⟩
 rw [hr1] at hc HAT
 clear hr1
 go_enter Tryz.func95, Tryz.ntmps95
 cases r1 with
 | some s =>
  simp only [Option.isSome_some, Option.getD_some] at hc
  have HAT : Hid (res = ⟨1, s.data, [], false, []⟩) := qH0 HAT.out
  clear HOF HNL
  go_wp2_with fail
  refine hc.mono ?_
  rintro e w1 ⟨cs1, rfl, hf1, hb1⟩
  obtain ⟨⟨p0, q0, r0⟩, ⟨p3, q3, r3⟩, ds1, rfl, f1⟩ := id hf1
  have hA1 := (Below.refl w1.heap.size w1).alloc (qN0) (.cells #[.slice p0 q0 r0, .int .i64 s.ty, .int .u32 (s.ttl : Int), .slice p3 q3 r3] 38)
  have hb2 := qB0 hb1 hA1
  have x0 := (hb2.block w.heap.size (qaa X0.out)).trans X0.out
  have HX := qH0 x0
  have z0 := kcell x0 0 _ rfl; have z1 := kcell x0 1 _ rfl; have z2 := kcell x0 2 _ rfl; have z3 := kcell x0 3 _ rfl; have z4 := kcell x0 4 _ rfl
  have u0 := qab x0 0; have u1 := qab x0 1; have u2 := qab x0 2; have u3 := qab x0 3; have u4 := qab x0 4
  have HBW := qH0 (qB0 HB0.out hb2)
  have HF := qH0 (hf1.below hA1)
  have hx5 := knew w1 (.cells #[.slice p0 q0 r0, .int .i64 s.ty, .int .u32 (s.ttl : Int), .slice p3 q3 r3] 38)
  have y3 := kcell hx5 3 _ rfl
  clear hc hf1 f1 hb1 hA1 hb2 x0 HB0 X0 hx5
  generalize (s.ttl : Int) = tt at *
  generalize s.ty = ty at *
  go_wp2
  refine bodyPost_ret (lk_fin rfl _ HX.out rfl rfl rfl rfl rfl rfl) rfl ?_
  rw [HAT.out]
  refine ⟨_, rfl, fun W' hk => ?_, qas HBW.out (qN0) _ _ _ _ _⟩
  have hfs := HF.out.move (((qaR _ (by rw [HS0.out]; omega) _ _ _ _ _).trans (qar _ _ _ _ _ _ _).size (hk.mono (by rw [HS0.out]; omega))))
  exact ⟨(p3, q3, r3), (none, 0, 0), (none, 0, 0), rfl, hfs.dtsR (x0 := (p0, q0, r0)) (x3 := (p3, q3, r3)), (OwnG.nmAt (OwnG.nil W' 0) : NmAt W' (.slice none 0 0) []), GlR.nil W'⟩
 | none =>
  simp only [Option.isSome_none, Option.getD_none] at hc
  obtain ⟨r2, hr2⟩ : ∃ r, ofM l o 5 = r := ⟨_, rfl⟩
  rw [hr2] at HAT HNL
  have HR2 := qH0 hr2
  clear hr2
  go_wp2_with fail
  refine hc.mono ?_
  rintro e w1 ⟨cs1, rfl, hf1, hb1⟩
  obtain ⟨⟨p0, q0, r0⟩, ⟨p3, q3, r3⟩, ds1, rfl, f1⟩ := id hf1
  have hA1 := (Below.refl w1.heap.size w1).alloc (qN0) (.cells #[.slice p0 q0 r0, .int .i64 ((⟨[], 0, 0, []⟩ : St).ty), .int .u32 (((⟨[], 0, 0, []⟩ : St).ttl : Nat) : Int), .slice p3 q3 r3] 38)
  have hb2 := qB0 hb1 hA1
  have x0 := (hb2.block w.heap.size (qaa X0.out)).trans X0.out
  have X1 := qH0 x0
  have HB1 := qH0 (qB0 HB0.out hb2)
  have HS1 := qH0 (show w.heap.size + 1 ≤ (w1.alloc (.cells #[.slice p0 q0 r0, .int .i64 ((⟨[], 0, 0, []⟩ : St).ty), .int .u32 (((⟨[], 0, 0, []⟩ : St).ttl : Nat) : Int), .slice p3 q3 r3] 38)).heap.size by have := HS0.out; have := hb2.size; omega)
  have hc2 := HOF.out 5 _ HB1.out
  rw [HR2.out] at hc2
  clear hc hf1 f1 hb1 hA1 hb2 x0 HB0 X0 HOF HR2 HS0
  generalize ((⟨[], 0, 0, []⟩ : St).ttl : Int) = tt at *
  generalize (⟨[], 0, 0, []⟩ : St).ty = ty at *
  cases r2 with
  | none =>
   simp only [Option.isSome_none, Option.getD_none] at hc2
   go_wp2_with fail
   refine hc2.mono ?_
   rintro e w2 ⟨cs2, rfl, hf2, hb2⟩
   obtain ⟨⟨g0, h0, i0⟩, ⟨g3, h3, i3⟩, ds2, rfl, f2⟩ := id hf2
   have hA2 := (Below.refl w2.heap.size w2).alloc (qN0) (.cells #[.slice g0 h0 i0, .int .i64 ((⟨[], 0, 0, []⟩ : St).ty), .int .u32 (((⟨[], 0, 0, []⟩ : St).ttl : Nat) : Int), .slice g3 h3 i3] 38)
   have hb3 := qB0 hb2 hA2
   have x0 := (hb3.block w.heap.size (qaa X1.out)).trans X1.out
   have HX := qH0 x0
   have z0 := kcell x0 0 _ rfl; have z1 := kcell x0 1 _ rfl; have z2 := kcell x0 2 _ rfl; have z3 := kcell x0 3 _ rfl; have z4 := kcell x0 4 _ rfl
   have u0 := qab x0 0; have u1 := qab x0 1; have u2 := qab x0 2; have u3 := qab x0 3; have u4 := qab x0 4
   have HBW := qH0 (qB0 HB1.out hb3)
   clear hc2 hf2 f2 hb2 hA2 hb3 x0 HB1 X1 HS1
   generalize ((⟨[], 0, 0, []⟩ : St).ttl : Int) = tt at *
   generalize (⟨[], 0, 0, []⟩ : St).ty = ty at *
   go_wp2
   refine bodyPost_ret (lk_fin rfl _ HX.out rfl rfl rfl rfl rfl rfl) rfl ?_
   rw [HAT.out]
   exact ⟨_, rfl, fun W' hk => qbb W' 2 false, qas HBW.out (qN0) _ _ _ _ _⟩
  | some s =>
   simp only [Option.isSome_some, Option.getD_some] at hc2
   have HAT : Hid (res = if pointD s then ⟨5, s.data.take 1, firstN s, false, []⟩ else ⟨2, [], [], false, []⟩) := qH0 HAT.out
   go_wp2_with fail
   refine hc2.mono ?_
   rintro e w2 ⟨cs2, rfl, hf2, hb2⟩
   obtain ⟨⟨g0, h0, i0⟩, ⟨g3, h3, i3⟩, ds2, rfl, f2⟩ := id hf2
   have hA2 := (Below.refl w2.heap.size w2).alloc (qN0) (.cells #[.slice g0 h0 i0, .int .i64 s.ty, .int .u32 (s.ttl : Int), .slice g3 h3 i3] 38)
   have hb3 := qB0 hb2 hA2
   have X2 := qH0 ((hb3.block w.heap.size (qaa X1.out)).trans X1.out)
   have HB2 := qH0 (qB0 HB1.out hb3)
   have hf3 := hf2.below hA2
   have HF := qH0 hf3
   have X9 := qH0 (knew w2 (.cells #[.slice g0 h0 i0, .int .i64 s.ty, .int .u32 (s.ttl : Int), .slice g3 h3 i3] 38))
   have y0 := kcell X9.out 0 _ rfl; have y1 := kcell X9.out 1 _ rfl; have y2 := kcell X9.out 2 _ rfl; have y3 := kcell X9.out 3 _ rfl
   have hp := qcC _ s _ hf3.setR
   clear hc2 hf2 f2 hb2 hA2 hb3 HB1 X1 hf3
   generalize (s.ttl : Int) = tt at *
   generalize s.ty = ty at *
   generalize (w1.alloc (Obj.cells #[.slice p0 q0 r0, _, _, .slice p3 q3 r3] 38)).heap.size = base2 at *
   cases hpd : pointD s with
   | false =>
    rw [hpd] at hp HAT
    go_wp2_with fail
    refine hp.mono ?_
    rintro e w3 ⟨rfl, hb3⟩
    have x0 := (hb3.block w.heap.size (qaa X2.out)).trans X2.out
    have HX := qH0 x0
    have z0 := kcell x0 0 _ rfl; have z1 := kcell x0 1 _ rfl; have z2 := kcell x0 2 _ rfl; have z3 := kcell x0 3 _ rfl; have z4 := kcell x0 4 _ rfl
    have u0 := qab x0 0; have u1 := qab x0 1; have u2 := qab x0 2; have u3 := qab x0 3; have u4 := qab x0 4
    have HBW := qH0 (qB0 HB2.out hb3)
    clear hp hb3 x0 X2 HB2 X9 HF y0 y1 y2 y3 HNL hpd
    go_wp2
    refine bodyPost_ret (lk_fin rfl _ HX.out rfl rfl rfl rfl rfl rfl) rfl ?_
    rw [HAT.out]
    exact ⟨_, rfl, fun W' hk => qbb W' 2 false, qas HBW.out (qN0) _ _ _ _ _⟩
   | true =>
    rw [hpd] at hp HAT
    obtain ⟨b, off, gn, go, m, cn, v0, rfl, hn, hn0, hn1, hm0, hnm, hcl⟩ := qgV HF.out.setR hpd
    change h3 = s.data.length at hn
    change 0 < h3 at hn0
    change h3 ≤ i3 at hn1
    have hfl := HNL.out s rfl hpd
    have HFL := qH0 hfl
    have HCL := qH0 hcl; have HNM := qH0 hnm
    have hn0z : (0 : Int) < (h3 : Int) := by omega
    have hm0z : (0 : Int) < (m : Int) := by omega
    have hn1z : (1 : Int) ≤ (h3 : Int) := by omega
    have hn2z : (1 : Int) ≤ (i3 : Int) := by omega
    have HDL := qH0 (show 0 < s.data.length by omega)
    clear hn hcl hnm hfl hpd HNL
    go_wp2_with fail
    refine hp.mono ?_
    rintro e w3 ⟨rfl, hb3⟩
    obtain ⟨k1, k2⟩ := HCL.out w3 hb3
    have X3 := qH0 ((hb3.block w.heap.size (qaa X2.out)).trans X2.out)
    have x9 := (hb3.block w2.heap.size (qaa X9.out)).trans X9.out
    have j3 := kcell x9 3 _ rfl
    have HX9 := qH0 x9
    have HB3 := qH0 (qB0 HB2.out hb3)
    have hcl := qaZ v0 (firstN s) w3 (HNM.out.below hb3).1 (HNM.out.below hb3).2 HFL.out
    have HF3 := qH0 (HF.out.below hb3)
    clear hp hb3 x9 X2 HB2 X9 HF HCL HNM HFL y0 y1 y2 y3
    go_wp2_with fail
    refine hcl.mono ?_
    rintro e w4 ⟨v4, rfl, ho4, hb4⟩
    obtain ⟨a4, c4, rfl⟩ := ho4.shape
    generalize List.length (firstN s) = n4 at *
    have x0 := (hb4.block w.heap.size (qaa X3.out)).trans X3.out
    have x9 := (hb4.block w2.heap.size (qaa HX9.out)).trans HX9.out
    have j3 := kcell x9 3 _ rfl
    have HX := qH0 x0
    have z0 := kcell x0 0 _ rfl; have z1 := kcell x0 1 _ rfl; have z2 := kcell x0 2 _ rfl; have z3 := kcell x0 3 _ rfl; have z4 := kcell x0 4 _ rfl
    have u0 := qab x0 0; have u1 := qab x0 1; have u2 := qab x0 2; have u3 := qab x0 3; have u4 := qab x0 4
    have HBW := qH0 (qB0 HB3.out hb4)
    have HF4 := qH0 (HF3.out.below hb4)
    have HO4 := qH0 ho4
    have HS3 := qH0 HB3.out.size
    have HS4 := qH0 (qaa X3.out)
    clear hcl hb4 ho4 x0 x9 X3 HX9 HB3 HF3 k1 k2
    go_wp2
    refine bodyPost_ret (lk_fin rfl _ HX.out rfl rfl rfl rfl rfl rfl) rfl ?_
    rw [HAT.out]
    refine ⟨_, rfl, fun W' hk => ?_, qas HBW.out (qN0) _ _ _ _ _⟩
    have hfs := HF4.out.move (((qaR _ (by have := HS1.out; omega) _ _ _ _ _).trans (qar _ _ _ _ _ _ _).size (hk.mono (by have := HS1.out; omega))))
    have hnm := HO4.out.move (((qaR _ HS4.out _ _ _ _ _).trans (qar _ _ _ _ _ _ _).size (hk.mono HS3.out)))
    exact ⟨(some ⟨b, off, none⟩, 1, 1), (a4, n4, c4), (none, 0, 0), rfl, (hfs.dtsR (x0 := (g0, h0, i0)) (x3 := (some ⟨b, off, none⟩, h3, i3))).first HDL.out, hnm.nmAt, GlR.nil W'⟩
def RcArg (W : World) (cs : List Value) (r : Rc) : Prop :=
 ∃ vo vn vu vt vr, cs = [vo, .int .u32 (r.ttl : Int), .int .i64 r.data.ty, vn, vu, vt, vr] ∧ NmArg W vo r.owner ∧ DatArg W (.agg #[.int .i64 r.data.ty, vn, vu, vt, vr]) r.data ∧ r.ttl < 2 ^ 32
theorem RcArg.rcAt {W : World} {cs : List Value} {r : Rc} (h : RcArg W cs r) : RcAt W cs r := by
 obtain ⟨vo, vn, vu, vt, vr, e, h1, h2, _⟩ := h
 exact ⟨vo, vn, vu, vt, vr, e, h1.1, h2.1⟩
def fewR (r : Rc) : Bool := fewN r.owner && fewD r.data
theorem RcArg.ok {W : World} {cs : List Value} {r : Rc} (h : RcArg W cs r) (hf : fewR r = true) : RcOK r := by
 obtain ⟨vo, vn, vu, vt, vr, e, h1, h2, h3⟩ := h
 simp only [fewR, Bool.and_eq_true] at hf
 exact ⟨qbU hf.1, h3, qmT h2 hf.2⟩
def fewRs (l : List Rc) : Bool := decide (l.length ≤ 60) && l.all fewR
theorem qmw {l : List Rc} {k : Nat} (h : k < l.length) : (l.drop k).all fewR = (fewR l[k] && (l.drop (k + 1)).all fewR) := by
 rw [List.drop_eq_getElem_cons h]; rfl
theorem qlC (v : Value) (css : List (List Value)) (l : List Rc) (w0 w : World) (hA : SlK w0 v css) (hR : css.length = l.length ∧ ∀ i (h1 : i < css.length) (h2 : i < l.length), RcArg w0 css[i] l[i]) (hwz : Below w0.heap.size w0 w) :
 Calls Tryz.prog 12 #[v] w fun e w' => e = .returned (.bool (fewRs l)) ∧ Below w.heap.size w w' := by
 obtain ⟨a, c, rfl, hc1, -, -⟩ := id hA
 obtain ⟨n, hn⟩ : ∃ n, css.length = n := ⟨_, rfl⟩
 rw [hn] at hA hc1 ⊢
 have HA := qH0 hA; have HR := qH0 hR; have HWZ := qH0 hwz; have HLN := qH0 hn
 have HLL := qH0 (show l.length = n by rw [← hn]; exact hR.1.symm)
 obtain ⟨res, hres⟩ : ∃ r, fewRs l = r := ⟨_, rfl⟩
 rw [hres]
 have HRES := qH0 hres
 clear hA hR hwz hn hres
 by_cases h60 : 60 < n
 ·have h60z : (60 : Int) < (n : Int) := by omega
  have HE : Hid (res = false) := qH0 (by
   rw [← HRES.out]; unfold fewRs
   rw [decide_eq_false (by have := HLL.out; omega)]; rfl)
  go_enter Tryz.func12, Tryz.ntmps12
  go_wp2
  go_ret
  exact ⟨by rw [HE.out]; rfl, qL0⟩
 ·have h60z : ¬ (60 : Int) < (n : Int) := by omega
  have HE0 : Hid (res = l.all fewR) := qH0 (by
   rw [← HRES.out]; unfold fewRs
   rw [decide_eq_true (by have := HLL.out; omega)]; rfl)
  go_enter Tryz.func12, Tryz.ntmps12
  go_wp2
  go_loopw [3] (fun vi wr => ∃ (k : Nat), vi = .int .i64 k ∧ k ≤ n ∧ Hid (res = (l.drop k).all fewR) ∧ Hid (Below w.heap.size w wr)) (fun vi _ => n - (intOf vi).toNat)
  case atStart => exact ⟨0, rfl, Nat.zero_le _, qH0 HE0.out, qH0 (qL0)⟩
  case round =>
   obtain ⟨k, rfl, hk, HC, HB⟩ := hrel
   by_cases hlt : k < n
   ·have hltz : (k : Int) < (n : Int) := by omega
    have hk1 : k < css.length := by have := HLN.out; omega
    have hk2 : k < l.length := by have := HLL.out; omega
    have hck : ∀ cs ∈ css, cs.length = 7 := fun cs hc => by
     obtain ⟨i, hi, rfl⟩ := List.mem_iff_getElem.1 hc
     exact (HR.out.2 i hi (by have := HR.out.1; omega)).rcAt.len
    obtain ⟨b, off, rfl, hb, hel⟩ := HA.out.elem hck (by omega)
    have hbz : Below w0.heap.size w0 wr := qB0 HWZ.out HB.out
    have h0 := HR.out.2 k hk1 hk2
    have hst := qmw hk2
    obtain ⟨r, hr⟩ : ∃ r, l[k]'hk2 = r := ⟨_, rfl⟩
    rw [hr] at h0 hst
    clear hr
    obtain ⟨⟨p0, q0, r0⟩, ⟨p3, q3, r3⟩, ⟨p4, q4, r4⟩, ⟨p5, q5, r5⟩, ⟨p6, q6, r6⟩, e0⟩ := h0.rcAt.shape
    simp only at e0
    obtain ⟨c0, c1, c2, c3, c4, c5, c6⟩ := hel k hk1 _ _ _ _ _ _ _ e0 wr hbz
    have HEL := qH0 (fun W hb => hel k hk1 _ _ _ _ _ _ _ e0 W hb)
    rw [e0] at h0
    obtain ⟨_, _, _, _, _, e5, g1, g2, _⟩ := h0
    simp only [List.cons.injEq, and_true, true_and] at e5
    obtain ⟨rfl, rfl, rfl, rfl, rfl⟩ := e5
    obtain ⟨fn1, hf1⟩ : ∃ b, fewN r.owner = b := ⟨_, rfl⟩
    obtain ⟨fn2, hf2⟩ : ∃ b, fewD r.data = b := ⟨_, rfl⟩
    have hkf := kn_Few _ r.owner _ hf1 w0 wr g1 (g1.1.below hbz)
    have HDF := qH0 (fun W (hb : Below w0.heap.size w0 W) => qlY _ r.data W ⟨g2.1.below hb, g2.2⟩)
    rw [hf2] at HDF
    have HC2 : Hid (res = ((fn1 && fn2) && (l.drop (k + 1)).all fewR)) := qH0 (by rw [HC.out, hst]; unfold fewR; rw [hf1, hf2])
    have HBZ := qH0 hbz
    clear hst hf1 hf2 g1 g2 hbz hel e0 hck HC hk1 hk2
    cases fn1
    ·have HE : Hid (res = false) := qH0 (by rw [HC2.out]; rfl)
     clear HC2
     go_wp2_with fail
     refine hkf.mono ?_
     rintro e w2 ⟨rfl, hb2⟩
     have HB2 := qH0 (qB0 HB.out hb2)
     clear hb2 hkf
     go_wp2
     go_ret
     exact ⟨by rw [HE.out]; rfl, HB2.out⟩
    ·go_wp2_with fail
     refine hkf.mono ?_
     rintro e w2 ⟨rfl, hb2⟩
     have HB2 := qH0 (qB0 HB.out hb2)
     have hb0 : Below w0.heap.size w0 w2 := qB0 HBZ.out hb2
     obtain ⟨d0, d1, d2, d3, d4, d5, d6⟩ := HEL.out w2 hb0
     have hdf := HDF.out w2 hb0
     clear hb2 hkf hb0 c0 c1 c2 c3 c4 c5 c6 HEL HDF
     go_wp2_with fail
     refine hdf.mono ?_
     rintro e w3 ⟨rfl, hb3⟩
     have HB3 := qH0 (qB0 HB2.out hb3)
     clear hb3 hdf d0 d1 d2 d3 d4 d5 d6
     cases fn2
     ·have HE : Hid (res = false) := qH0 (by rw [HC2.out]; rfl)
      clear HC2
      go_wp2
      go_ret
      exact ⟨by rw [HE.out]; rfl, HB3.out⟩
     ·have HE : Hid (res = (l.drop (k + 1)).all fewR) := qH0 (by rw [HC2.out]; rfl)
      clear HC2
      go_wp2
      go_roundw
      case measure => simp [intOf]; omega
      case rel => exact ⟨k + 1, by go_num, by omega, HE, HB3⟩
   ·obtain rfl : k = n := by omega
    have HE : Hid (res = true) := qH0 (by
     rw [HC.out, List.drop_of_length_le (by have := HLL.out; omega)]; rfl)
    clear HC
    go_wp2
    go_ret
    exact ⟨by rw [HE.out]; rfl, HB.out⟩
theorem insR_P {P : Dat → Prop} {x : Rc} (hx : P x.data) : ∀ (l : List Rc), (∀ y ∈ l, P y.data) → ∀ y ∈ insR l x, P y.data
 | [], _, y, hy => by
  rw [insR, List.mem_singleton] at hy; subst hy; exact hx
 | z :: r, h, y, hy => by
  have hz := h z (by simp)
  rw [insR] at hy
  split at hy
  ·rcases List.mem_cons.1 hy with rfl | hy
   ·exact hz
   ·exact insR_P hx r (fun a ha => h a (by simp [ha])) y hy
  ·split at hy
   ·rcases List.mem_cons.1 hy with rfl | hy
    ·exact hz
    ·exact h y (by simp [hy])
   ·rcases List.mem_cons.1 hy with rfl | hy
    ·exact hx
    ·exact h y hy
theorem qfd {P : Dat → Prop} (l : List Rc) : (∀ r ∈ l, P r.data) → ∀ y ∈ canonM l, P y.data :=
 qaW (P := fun l => (∀ r ∈ l, P r.data) → ∀ y ∈ canonM l, P y.data) (fun _ y hy => by cases hy) (fun l x ih h y hy => by
  rw [qa2] at hy
  exact insR_P (h x (by simp)) _ (ih fun r hr => h r (by simp [hr])) y hy) l
theorem ofM_P {P : Dat → Prop} {l : List Rc} {o : Nm} {t : Int} {s : St} (hl : ∀ r ∈ l, P r.data) (h : ofM l o t = some s) : ∀ d ∈ s.data, P d := by
 rcases qc0 l o t with ⟨e, _⟩ | ⟨y, r, e, h2⟩
 ·rw [e] at h; cases h
 ·rw [h2] at h
  injection h with h
  subst h
  have hP : ∀ x ∈ y :: r, P x.data := fun x hx => qfd (l.filter (belM o t)) (fun r hr => hl r (List.mem_filter.1 hr).1) x (by rw [e]; exact hx)
  intro d hd
  simp only [stR, List.mem_cons, List.mem_map] at hd
  rcases hd with rfl | ⟨x, hx, rfl⟩
  ·exact hP y (by simp)
  ·exact hP x (by have := (List.takeWhile_sublist (p := belR y) (l := r)).subset hx; simp [this])
theorem qbj {q : Nm} {rs : List Rc} (hq : fewN q = true) (hr : ∀ r ∈ rs, fewR r = true) : ∀ s d, ofM (onM rs q) (ancN q s) 39 = some d → pointD d = true → ∀ k, NmOK (q.take k ++ firstN d) := by
 intro s d h hp k
 have hP := ofM_P (P := fun d => ∀ n ∈ d.names, fewN n = true) (l := onM rs q) (fun r h1 => by
  have h2 := hr r (List.mem_filter.1 h1).1
  simp only [fewR, fewD, Bool.and_eq_true] at h2
  exact of_decide_eq_true h2.2.2.1) h
 obtain ⟨d', h1, h2⟩ := qbC hp
 have h3 := of_decide_eq_true (hP d' h1 _ h2)
 have h4 := of_decide_eq_true hq
 refine ⟨?_, fun x hx => ?_⟩
 ·rw [List.length_append, List.length_take]; omega
 ·rcases List.mem_append.1 hx with hx | hx
  ·have := h4.2 x (List.mem_of_mem_take hx); omega
  ·have := h3.2 x hx; omega
def OwnDts (W : World) (base : Nat) (v : Value) (l : List Dat) : Prop := ∃ ds : List (List Value), OwnC 5 101 W base v ds ∧ ds.length = l.length ∧
 ∀ j (h1 : j < ds.length) (h2 : j < l.length), ∃ vn vu vt vr, ds[j] = [.int .i64 l[j].ty, vn, vu, vt, vr] ∧ DRow W base vn vu vt vr l[j]
theorem DRow.weaken {W : World} {base b2 : Nat} {vn vu vt vr : Value} {d : Dat} (h : DRow W base vn vu vt vr d) (hb : b2 ≤ base) : DRow W b2 vn vu vt vr d := by
 obtain ⟨⟨vs, k1, k2, k3⟩, i1, i2, i3⟩ := h
 exact ⟨⟨vs, k1.weaken hb, k2, fun i a b => (k3 i a b).weaken hb⟩, i1.weaken hb, i2.weaken hb, i3.weaken hb⟩
theorem OwnDts.weaken {W : World} {base b2 : Nat} {v : Value} {l : List Dat} (h : OwnDts W base v l) (hb : b2 ≤ base) : OwnDts W b2 v l := by
 obtain ⟨ds, h1, h2, h3⟩ := h
 refine ⟨ds, OwnK.weaken h1 hb, h2, fun j a b => ?_⟩
 obtain ⟨vn, vu, vt, vr, e, k⟩ := h3 j a b
 exact ⟨vn, vu, vt, vr, e, k.weaken hb⟩
theorem OwnK.kept_cc {k k2 : Nat} {T T' : TypeId} {W W' : World} {base base' : Nat} {v v' : Value} {xss yss : List (List Value)} (h : OwnC k T W base v xss) (h' : OwnC k2 T' W base' v' yss) (hT : T ≠ T') (hg : W.grownBy W' v'.ownBlock) : OwnC k T W' base v xss := by
 refine OwnK.kept h hg ?_
 rcases h.2 with ⟨rfl, _⟩ | ⟨g, cap, cur, rfl, _, hh, _⟩
 ·left; rfl
 ·right
  rcases h'.2 with ⟨rfl, _⟩ | ⟨g', cap', cur', rfl, _, hh', _⟩
  ·simp [Value.ownBlock]
  ·intro e
   simp only [Value.ownBlock, Option.some.injEq] at e
   subst e
   rw [hh] at hh'
   injection hh' with hh'
   injection hh' with _ hh'
   exact hT hh'
theorem OwnDts.keptC {W W' : World} {base base' k : Nat} {T : TypeId} {v v' : Value} {yss : List (List Value)} {l : List Dat} (h : OwnDts W base v l) (h' : OwnC k T W base' v' yss) (hg : W.grownBy W' v'.ownBlock) (h1 : 101 ≠ T) (h2 : 24 ≠ T) (h3 : 9 ≠ T) (h4 : 35 ≠ T) (h5 : 5 ≠ T) : OwnDts W' base v l := by
 obtain ⟨ds, k1, k2, k3⟩ := h
 refine ⟨ds, OwnK.kept_cc k1 h' h1 hg, k2, fun j a b => ?_⟩
 obtain ⟨vn, vu, vt, vr, e, ⟨⟨vs, q1, q2, q3⟩, i1, i2, i3⟩⟩ := k3 j a b
 exact ⟨vn, vu, vt, vr, e, ⟨⟨vs, q1.kept_c h' h2 hg, q2, fun i a b => (q3 i a b).kept_c h' h3 hg⟩, i1.kept_c h' h4 hg, i2.kept_c h' h3 hg, i3.kept_c h' h5 hg⟩⟩
theorem OwnDts.move {W W' : World} {base : Nat} {v : Value} {l : List Dat} (h : OwnDts W base v l) (hf : FarKeep base W W') : OwnDts W' base v l := by
 obtain ⟨ds, h1, h2, h3⟩ := h
 refine ⟨ds, OwnK.move h1 hf, h2, fun j a b => ?_⟩
 obtain ⟨vn, vu, vt, vr, e, k⟩ := h3 j a b
 exact ⟨vn, vu, vt, vr, e, k.move hf⟩
theorem OwnDts.dtsR {W : World} {base : Nat} {v : Value} {l : List Dat} (h : OwnDts W base v l) : DtsR W v l := by
 obtain ⟨ds, h1, h2, h3⟩ := h
 have hD : Dts W ds l := ⟨h2, fun i a b => by
  obtain ⟨vn, vu, vt, vr, e, k⟩ := h3 i a b
  rw [e]; exact ⟨rfl, k.datAt⟩⟩
 exact ⟨ds, SlK.of_own h1 hD.ck, hD⟩
def qgA (w : World) (ds : List Dat) (e : Ending) (w' : World) : Prop := ∃ v, e = .returned v ∧ OwnDts w' w.heap.size v ds ∧ Below w.heap.size w w'
theorem qjU {w : World} {za v1 : Option Addr} {zn zc m c : Nat} {o h : Nm} {rs : List Rc} {vh : Value} (hz : ZonS w za zn zc v1 m c o rs) (hO : NmAt w vh h) (hko : NmOK h) :
 Calls Tryz.prog 42 #[.agg #[.slice za zn zc, .slice v1 m c], vh] w (qgA w (glueM rs h)) := by
 obtain ⟨-, -, ⟨css, hA, hR⟩, hOK, hl⟩ := hz
 have hln : rs.length = m := by
  obtain ⟨a', c', e, h1, _⟩ := id hA
  cases e; exact hR.1.symm
 have HOF := qH0 (fun (t : Int) (W : World) (hb : Below w.heap.size w W) => qf2 (.slice v1 m c) vh h t rs W ⟨css, hA.below hb, hR.below hb⟩ (hO.below hb) hko hOK (by omega))
 have HL1 := qH0 (show ((ofM rs h 1).getD ⟨[], 0, 0, []⟩).data.length ≤ 1048576 by have := qbO rs h 1; omega)
 have HL2 := qH0 (show ((ofM rs h 28).getD ⟨[], 0, 0, []⟩).data.length ≤ 1048576 by have := qbO rs h 28; omega)
 have HG := qH0 (show glueM rs h = ((ofM rs h 1).getD ⟨[], 0, 0, []⟩).data ++ ((ofM rs h 28).getD ⟨[], 0, 0, []⟩).data from rfl)
 obtain ⟨ao, co, rfl, -⟩ := nmAt_sl.1 hO
 generalize (List.map strV h).length = qo at *
 unfold qb9 at HOF
 generalize glueM rs h = res at *
 have hB0 := (Below.refl w.heap.size w).alloc (qN0) (.cells #[.slice za zn zc, .slice v1 m c] 57)
 have X0 := qH0 (knew w (.cells #[.slice za zn zc, .slice v1 m c] 57))
 have hc := HOF.out 1 _ hB0
 obtain ⟨s1, hs1⟩ : ∃ s, (ofM rs h 1).getD ⟨[], 0, 0, []⟩ = s := ⟨_, rfl⟩
 obtain ⟨s2, hs2⟩ : ∃ s, (ofM rs h 28).getD ⟨[], 0, 0, []⟩ = s := ⟨_, rfl⟩
 rw [hs1] at HL1 HG hc
 rw [hs2] at HL2 HG
 have HS2 := qH0 hs2
 have HB0 := qH0 hB0
 clear hA hR hOK hO hko hB0 hs1 hs2
 generalize (ofM rs h 1).isSome = k1 at *
 go_enter Tryz.func42, Tryz.ntmps42
 go_wp2_with fail
 refine hc.mono ?_
 rintro e w1 ⟨cs1, rfl, hf1, hb1⟩
 obtain ⟨⟨p0, q0, r0⟩, ⟨p3, q3, r3⟩, ds1, rfl, f1⟩ := id hf1
 have HB1 := qH0 (qB0 HB0.out hb1)
 have hA1 := (Below.refl w1.heap.size w1).alloc (qN0) (.cells #[.slice p0 q0 r0, .int .i64 s1.ty, .int .u32 (s1.ttl : Int), .slice p3 q3 r3] 38)
 have hBA := qB0 HB1.out hA1
 have X1 := qH0 ((hb1.block w.heap.size (qaa X0.out)).trans X0.out)
 have y1 := kcell X1.out 1 _ rfl
 have y2 := kcell ((hA1.block w.heap.size (qaa X1.out)).trans X1.out) 1 _ rfl
 have x5 := knew w1 (.cells #[.slice p0 q0 r0, .int .i64 s1.ty, .int .u32 (s1.ttl : Int), .slice p3 q3 r3] 38)
 have hc2 := HOF.out 28 _ hBA
 rw [HS2.out] at hc2
 have HF1 := qH0 (hf1.below hA1); have HBA := qH0 hBA; have X5 := qH0 x5
 clear hc hf1 f1 hb1 HB0 X0 hBA x5 HOF hA1
 generalize (ofM rs h 28).isSome = k2 at *
 go_wp2_with fail
 refine hc2.mono ?_
 rintro e w2 ⟨cs2, rfl, hf2, hb2⟩
 obtain ⟨⟨t0, t1, t2⟩, ⟨t3, t4, t5⟩, ds2, rfl, g2⟩ := id hf2
 have hA2 := (Below.refl w2.heap.size w2).alloc (qN0) (.cells #[.slice t0 t1 t2, .int .i64 s2.ty, .int .u32 (s2.ttl : Int), .slice t3 t4 t5] 38)
 have x5 := (hA2.block w1.heap.size (by have := hb2.size; simp at this; omega)).trans ((hb2.block w1.heap.size (by simp)).trans X5.out)
 have x7 := knew w2 (.cells #[.slice t0 t1 t2, .int .i64 s2.ty, .int .u32 (s2.ttl : Int), .slice t3 t4 t5] 38)
 have z5 := kcell x5 3 _ rfl
 have z7 := kcell x7 3 _ rfl
 have hbw := qB0 HBA.out hb2
 have HBW := qH0 (qB0 hbw hA2)
 have h1 := (HF1.out.below hb2).below hA2
 have h2 := hf2.below hA2
 have HH1 := qH0 h1; have HH2 := qH0 h2
 have HSZ := qH0 (show w.heap.size ≤ (w1.alloc (.cells #[.slice p0 q0 r0, .int .i64 s1.ty, .int .u32 (s1.ttl : Int), .slice p3 q3 r3] 38)).heap.size from HBA.out.size)
 clear hc2 hf2 g2 hb2 hA2 x5 x7 hbw h1 h2 y1 y2 HF1 HBA X1 X5 HB1
 generalize (w1.alloc (.cells #[.slice p0 q0 r0, .int .i64 s1.ty, .int .u32 (s1.ttl : Int), .slice p3 q3 r3] 38)).heap.size = base2 at *
 obtain ⟨xa, xb, da, ea, -, oa, la, fa⟩ := HH1.out
 obtain ⟨ya, yb, db, eb, -, ob, lb, fb⟩ := HH2.out
 simp only [List.cons.injEq, and_true, true_and] at ea eb
 obtain ⟨-, e3⟩ := ea
 obtain ⟨-, e4⟩ := eb
 rw [← e3] at oa
 rw [← e4] at ob
 have oa := OwnK.weaken oa (show w.heap.size ≤ _ by simp)
 have hk5 : ∀ cs ∈ db, cs.length = 5 ∧ ∀ u ∈ cs, u.oneCell' = true := fun cs hc => by
  obtain ⟨i, hi, rfl⟩ := List.mem_iff_getElem.1 hc
  obtain ⟨vn, vu, vt, vr, e2, h6⟩ := fb i hi (by omega)
  obtain ⟨n1, n2, n3, n4⟩ := h6.one
  rw [e2]
  refine ⟨rfl, fun u hu => ?_⟩
  simp only [List.mem_cons, List.not_mem_nil, or_false] at hu
  rcases hu with rfl | rfl | rfl | rfl | rfl
  ·rfl
  all_goals assumption
 have hsb := SlK.of_own ob (fun cs hc => (hk5 cs hc).1)
 have hww := HBW.out.size
 have HLA := qH0 la; have HLB := qH0 lb; have HFA := qH0 fa; have HFBB := qH0 fb; have HOA := qH0 oa; have HOB := qH0 ob; have HK5 := qH0 hk5
 clear la lb fa fb e3 e4 HH1 HH2
 have HSB := qH0 hsb
 have HWW := qH0 hww
 clear oa ob hsb hk5 hww
 have HK1 := qH0 (show da.length + db.length ≤ maxLen by have := HLA.out; have := HLB.out; have := HL1.out; have := HL2.out; unfold maxLen; omega)
 have HK2 := qH0 (show (da.length + db.length) * 104 ≤ 140737488355328 by have := HLA.out; have := HLB.out; have := HL1.out; have := HL2.out; omega)
 go_wp2_with (at_builtin; refine qhb _ rfl (.tmp 24) (.tmp 26) qhM (by decide) rfl w.heap.size (.slice p3 q3 r3) da rfl HOA.out (.slice t3 t4 t5) db rfl HSB.out (fun cs hc => (HK5.out cs hc).1) (fun cs hc => (HK5.out cs hc).2) HWW.out HK1.out HK2.out ?_; intro v3 w3 hown3 hg3)
 have HOW := qH0 hown3; have HGG := qH0 hg3
 clear hown3 hg3
 go_ret
 have hA : ∀ j (h1 : j < da.length) (h2 : j < s1.data.length), ∃ vn vu vt vr, da[j] = [.int .i64 s1.data[j].ty, vn, vu, vt, vr] ∧ DRow w3 w.heap.size vn vu vt vr s1.data[j] := fun j h1 h2 => by
  obtain ⟨vn, vu, vt, vr, e2, h6⟩ := HFA.out j h1 h2
  exact ⟨vn, vu, vt, vr, e2, (h6.keptC HOA.out HGG.out).weaken (by simp)⟩
 have hB : ∀ j (h1 : j < db.length) (h2 : j < s2.data.length), ∃ vn vu vt vr, db[j] = [.int .i64 s2.data[j].ty, vn, vu, vt, vr] ∧ DRow w3 w.heap.size vn vu vt vr s2.data[j] := fun j h1 h2 => by
  obtain ⟨vn, vu, vt, vr, e2, h6⟩ := HFBB.out j h1 h2
  exact ⟨vn, vu, vt, vr, e2, (h6.keptC HOA.out HGG.out).weaken HSZ.out⟩
 have hla := HLA.out; have hlb := HLB.out
 refine ⟨v3, rfl, ⟨da ++ db, HOW.out, by rw [HG.out]; simp [hla, hlb], fun i h1 h2' => ?_⟩, HBW.out.grown HGG.out HWW.out (OwnK.base_le HOA.out)⟩
 have h2 : i < (s1.data ++ s2.data).length := by rw [← HG.out]; exact h2'
 have e0 : res[i] = (s1.data ++ s2.data)[i] := by simp only [HG.out]
 rw [e0]
 ·by_cases hi : i < da.length
  ·have hi2 : i < s1.data.length := by omega
   rw [List.getElem_append_left hi, List.getElem_append_left hi2]
   exact hA i hi hi2
  ·rw [List.getElem_append_right (by omega), List.getElem_append_right (by omega)]
   have e : i - da.length = i - s1.data.length := by omega
   simp only [e]
   exact hB _ _ _
theorem qdx (h : Nm) : ∀ (l : List Nm) (seen : List (List UInt8)), toldM (l ++ [h]) seen = toldM l seen ++ if textN h ∈ seen ∨ textN h ∈ l.map textN then [] else [h]
 | [], seen => by
  by_cases e : textN h ∈ seen <;> simp [toldM, e]
 | x :: r, seen => by
  rw [List.cons_append]
  unfold toldM
  by_cases e : textN x ∈ seen
  ·rw [if_pos e, if_pos e, qdx h r seen]
   congr 1
   have : (textN h ∈ seen ∨ textN h ∈ (x :: r).map textN) ↔ (textN h ∈ seen ∨ textN h ∈ r.map textN) := by
    rw [List.map_cons, List.mem_cons]
    constructor
    ·rintro (h1 | h1 | h1)
     ·exact .inl h1
     ·exact .inl (h1 ▸ e)
     ·exact .inr h1
    ·rintro (h1 | h1)
     ·exact .inl h1
     ·exact .inr (.inr h1)
   simp only [this]
  ·rw [if_neg e, if_neg e, qdx h r (textN x :: seen), List.cons_append]
   congr 2
   have : (textN h ∈ seen ∨ textN h ∈ (x :: r).map textN) ↔ (textN h ∈ textN x :: seen ∨ textN h ∈ r.map textN) := by
    rw [List.map_cons, List.mem_cons, List.mem_cons, or_left_comm, or_assoc]
   simp only [this]
def glsM (rs : List Rc) (hs : List Nm) : List (Nm × List Dat) := (toldM hs []).filterMap fun h => if glueM rs h = [] then none else some (h, glueM rs h)
theorem qk2 {rs : List Rc} {hs : List Nm} {k : Nat} (h : k < hs.length) : glsM rs (hs.take (k + 1)) = glsM rs (hs.take k) ++ if textN hs[k] ∈ (hs.take k).map textN ∨ glueM rs hs[k] = [] then [] else [(hs[k], glueM rs hs[k])] := by
 unfold glsM
 rw [List.take_succ_eq_append_getElem h, qdx, List.filterMap_append]
 congr 1
 simp only [List.not_mem_nil, false_or]
 by_cases e : textN hs[k] ∈ (hs.take k).map textN
 ·rw [if_pos e, if_pos (.inl e)]; rfl
 ·by_cases g : glueM rs hs[k] = []
  ·rw [if_neg e, if_pos (.inr g)]; simp [g]
  ·rw [if_neg e, if_neg (by rintro (h | h); exact e h; exact g h)]; simp [g]
theorem qcX : ∀ (l : List Nm) (seen : List (List UInt8)), (toldM l seen).length ≤ l.length
 | [], seen => by simp [toldM]
 | x :: r, seen => by
  unfold toldM
  split
  ·have := qcX r seen; simp; omega
  ·have := qcX r (textN x :: seen); simp; omega
theorem qlE (rs : List Rc) (hs : List Nm) : (glsM rs hs).length ≤ hs.length := Nat.le_trans (List.length_filterMap_le _ _) (qcX hs [])
def CntD (D : DataW Unit) (ts : List (List UInt8)) : Prop := Maps.IsMap D ∧ ∀ x : List UInt8, D.atKey (.string x) (.lit (.int .i64 0)) = .lit (.int .i64 (ts.count x : Nat))
theorem qlV : CntD (.map []) [] := ⟨Maps.isMap_empty, fun x => rfl⟩
theorem CntD.snoc {D : DataW Unit} {ts : List (List UInt8)} (h : CntD D ts) (t : List UInt8) : CntD (D.put (.string t) (.lit (.int .i64 ((ts.count t + 1 : Nat) : Int)))) (ts ++ [t]) := by
 refine ⟨?_, fun x => ?_⟩
 ·obtain ⟨es, rfl⟩ := h.1
  exact ⟨_, DataW.put_eq es _ _⟩
 ·by_cases e : x = t
  ·subst e
   rw [Maps.atKey_put_same (k := .string x) h.1 trivial, List.count_append]
   simp
  ·rw [Maps.atKey_put_other (by intro h; injection h with h; exact e h), h.2 x, List.count_append]
   have : List.count x [t] = 0 := by rw [List.count_eq_zero]; simpa using e
   rw [this, Nat.add_zero]
theorem qll : ElemK 2 143 82 48 := ⟨Tryz.underlying82, _, _, rfl, rfl, rfl, rfl, rfl⟩
theorem qeA (w : World) : (zeroValue 3).run Tryz.prog w = .ok (.int .i64 0) w := by kernel_rfl
theorem keyStr : Maps.Keyed Tryz.prog 9 := Maps.string_keyed Tryz.underlying9
theorem qfl {ty : Int} {ds : List Dat} (h : ∀ d ∈ ds, DatOK d) : ∀ n ∈ qaM ty ds, NmOK n := by
 intro n hn
 unfold qaM at hn
 split at hn
 ·unfold tgtM at hn
  rw [List.mem_filterMap] at hn
  obtain ⟨d, hd, e⟩ := hn
  exact (h d hd).2.2.1 n (List.mem_of_mem_head? (by rw [e]; rfl))
 ·cases hn
theorem qeR (ty : Int) (ds : List Dat) : (qaM ty ds).length ≤ ds.length := by
 unfold qaM
 split
 ·exact qii ds
 ·simp
theorem OwnNms.elemW {W : World} {base n c : Nat} {a : Option Addr} {ns : List Nm} (h : OwnNms W base (.slice a n c) ns) {k : Nat} (hk : k < ns.length) : ∃ b off x, a = some ⟨b, off, none⟩ ∧ W.cell? ⟨b, off + k, none⟩ = some (slW x) ∧ OwnG 9 strV W base (slW x) ns[k] := by
 obtain ⟨vs, h1, h2, h3⟩ := h
 have hk1 : k < vs.length := by omega
 obtain ⟨a', c', e, _, _, h4⟩ := SlAt.of_own h1
 rcases h4 with h4 | ⟨b, off, e2, hb, h5⟩
 ·rw [List.map_eq_nil_iff] at h4; subst h4; simp at hk1
 ·injection e with e _ _
  have := h5 k (by rw [List.length_map]; exact hk1)
  rw [List.getElem_map] at this
  obtain ⟨x, hx⟩ : ∃ x : Option Addr × Nat × Nat, slEnc vs[k] = slW x := ⟨_, rfl⟩
  rw [hx] at this
  exact ⟨b, off, x, by rw [e, e2], this, by rw [← hx]; exact h3 k hk1 hk⟩
theorem OwnNms.shapeW {W : World} {base : Nat} {v : Value} {ns : List Nm} (h : OwnNms W base v ns) : ∃ a c, v = .slice a ns.length c := by
 obtain ⟨vs, h1, h2, _⟩ := h
 obtain ⟨a, c, e⟩ := h1.shape
 exact ⟨a, c, by rw [e, h2]⟩
theorem OwnNms.keptC {W W' : World} {base base' k : Nat} {T : TypeId} {v v' : Value} {yss : List (List Value)} {ns : List Nm} (h : OwnNms W base v ns) (h' : OwnC k T W base' v' yss) (hg : W.grownBy W' v'.ownBlock) (h2 : 24 ≠ T) (h3 : 9 ≠ T) : OwnNms W' base v ns := by
 obtain ⟨vs, q1, q2, q3⟩ := h
 exact ⟨vs, q1.kept_c h' h2 hg, q2, fun i a b => (q3 i a b).kept_c h' h3 hg⟩
def GlF (W : World) (base : Nat) (css : List (List Value)) (l : List (Nm × List Dat)) : Prop := css.length = l.length ∧ ∀ j (h1 : j < css.length) (h2 : j < l.length), ∃ x0 x1 : Option Addr × Nat × Nat, css[j] = [slW x0, slW x1] ∧ OwnG 9 strV W base (slW x0) l[j].1 ∧ OwnDts W base (slW x1) l[j].2
theorem GlF.move {W W' : World} {base : Nat} {css : List (List Value)} {l : List (Nm × List Dat)} (h : GlF W base css l) (hf : FarKeep base W W') : GlF W' base css l := by
 refine ⟨h.1, fun j a b => ?_⟩
 obtain ⟨x0, x1, e, k1, k2⟩ := h.2 j a b
 exact ⟨x0, x1, e, k1.move hf, k2.move hf⟩
theorem GlF.keptC {W W' : World} {base base' : Nat} {v' : Value} {yss : List (List Value)} {css : List (List Value)} {l : List (Nm × List Dat)} (h : GlF W base css l) (h' : OwnC 2 143 W base' v' yss) (hg : W.grownBy W' v'.ownBlock) : GlF W' base css l := by
 refine ⟨h.1, fun j a b => ?_⟩
 obtain ⟨x0, x1, e, k1, k2⟩ := h.2 j a b
 exact ⟨x0, x1, e, k1.kept_c h' (by decide) hg, k2.keptC h' hg (by decide) (by decide) (by decide) (by decide) (by decide)⟩
theorem GlF.snoc {W : World} {base : Nat} {css : List (List Value)} {l : List (Nm × List Dat)} (h : GlF W base css l) {x0 x1 : Option Addr × Nat × Nat} {n : Nm} {ds : List Dat} (h0 : OwnG 9 strV W base (slW x0) n) (h1 : OwnDts W base (slW x1) ds) : GlF W base (css ++ [[slW x0, slW x1]]) (l ++ [(n, ds)]) := by
 refine ⟨by simp [h.1], fun i a b => ?_⟩
 by_cases hi : i < css.length
 ·have hi2 : i < l.length := by have := h.1; omega
  rw [List.getElem_append_left hi, List.getElem_append_left hi2]
  exact h.2 i hi hi2
 ·have e1 : i = css.length := by simp at a; omega
  have e2 : i = l.length := by have := h.1; omega
  rw [List.getElem_append_right (by omega), List.getElem_append_right (by omega)]
  simp only [show i - css.length = 0 by omega, show i - l.length = 0 by omega, List.getElem_cons_zero]
  exact ⟨x0, x1, rfl, h0, h1⟩
theorem GlF.glR {W : World} {base : Nat} {v : Value} {css : List (List Value)} {l : List (Nm × List Dat)} (h : GlF W base css l) (h' : OwnC 2 143 W base v css) : GlR W v l := by
 refine ⟨css, SlK.of_own h' (fun cs hc => ?_), h.1, fun j a b => ?_⟩
 ·obtain ⟨i, hi, rfl⟩ := List.mem_iff_getElem.1 hc
  obtain ⟨x0, x1, e, _⟩ := h.2 i hi (by have := h.1; omega)
  rw [e]; rfl
 ·obtain ⟨x0, x1, e, k1, k2⟩ := h.2 j a b
  exact ⟨x0, x1, e, k1.nmAt, k2.dtsR⟩
def RfB (n : Nat) (W : World) (l : Nm) (e : Ending) (w' : World) : Prop := ∃ sa sn sc, e = .returned (.slice sa sn sc) ∧ (∀ W', FarKeep n w' W' → NmAt W' (.slice sa sn sc) l) ∧ Below W.heap.size W w'
theorem rfB {n : Nat} {W w' : World} {l : Nm} {e : Ending} (hn : n ≤ W.heap.size) (h : ∃ v', e = .returned v' ∧ OwnG 9 strV w' W.heap.size v' l ∧ Below W.heap.size W w') : RfB n W l e w' := by
 obtain ⟨v, rfl, h1, h2⟩ := h
 obtain ⟨a, c, rfl⟩ := h1.shape
 exact ⟨a, _, c, rfl, fun W' hg => (h1.move (hg.mono hn)).nmAt, h2⟩
def RfA (W : World) (B : Nat) (l : Nm) (e : Ending) (w' : World) : Prop := ∃ sa sn sc, e = .returned (.slice sa sn sc) ∧ (∀ W', FarKeep (B + 1) w' W' → NmAt W' (.slice sa sn sc) l) ∧ Below W.heap.size W w' ∧ w'.heap[B]? = some (.cells #[.int .i64 0, .slice none 0 0, .slice none 0 0, .bool false, .slice none 0 0] 84)
theorem rfA {W w' : World} {B : Nat} {l : Nm} {e : Ending} (hB : B < W.heap.size) (hX : W.heap[B]? = some (.cells #[.int .i64 0, .slice none 0 0, .slice none 0 0, .bool false, .slice none 0 0] 84)) (h : ∃ v', e = .returned v' ∧ OwnG 9 strV w' W.heap.size v' l ∧ Below W.heap.size W w') : RfA W B l e w' := by
 obtain ⟨v, rfl, h1, h2⟩ := h
 obtain ⟨a, c, rfl⟩ := h1.shape
 exact ⟨a, _, c, rfl, fun W' hg => (h1.move (hg.mono hB)).nmAt, h2, (h2.block B hB).trans hX⟩
def RfW (W0 : World) (vd : Value) (n : Nm) (Bx : Nat) (vn : Value) (W : World) : Prop := W0.heap.size ≤ Bx ∧ W.heap[Bx]? = some (.cells #[.int .i64 4, vd, vn, .bool false, .slice none 0 0] 84) ∧ (∀ W', (∀ g, W0.heap.size ≤ g → g < W.heap.size → g ≠ Bx → W'.heap[g]? = W.heap[g]?) → NmAt W' vn n) ∧ Below W0.heap.size W0 W
end Go.Proofs.YtckammgnmgkieaaGreat
