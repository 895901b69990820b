import Derived.Deep.RegionHeld3
import Derived.Deep.RegionLaw
import Derived.Test.YtckammgnmgkieaaGreatMQ36
import Derived.Test.YtckammgnmgkieaaGreatMQ42
import Derived.Test.YtckammgnmgkieaaGreatMQ31
namespace Go.Proofs.YtckammgnmgkieaaGreat
set_option linter.unusedVariables false
set_option linter.unusedSimpArgs false
set_option maxRecDepth 100000
set_option maxHeartbeats 16000000
open Go.RowKit Go.Shelf
def qbB (W W' : World) : Prop := W.heap.size ≤ W'.heap.size ∧ ∀ p v, W.cell? p = some v → W'.cell? p = some v
theorem StrsAt.up {W W' : World} {v : Value} {xs : List (List UInt8)} (h : StrsAt W v xs) (hu : qbB W W') : StrsAt W' v xs := by
 obtain ⟨a, c, e, h⟩ := h
 refine ⟨a, c, e, ?_⟩
 rcases h with h | ⟨b, off, e2, hb, h⟩
 ·exact .inl h
 ·exact .inr ⟨b, off, e2, Nat.lt_of_lt_of_le hb hu.1, fun j hj => hu.2 _ _ (h j hj)⟩
theorem NmAt.up {W W' : World} {v : Value} {xs : Nm} (h : NmAt W v xs) (hu : qbB W W') : NmAt W' v xs := ⟨h.1.up hu, h.2⟩
theorem SlAt.up {W W' : World} {v : Value} {xs : List Value} (h : SlAt W v xs) (hu : qbB W W') : SlAt W' v xs := by
 obtain ⟨a, c, e, h1, h2, h⟩ := h
 refine ⟨a, c, e, h1, h2, ?_⟩
 rcases h with h | ⟨b, off, e2, hb, h⟩
 ·exact .inl h
 ·exact .inr ⟨b, off, e2, Nat.lt_of_lt_of_le hb hu.1, fun j hj => hu.2 _ _ (h j hj)⟩
theorem SlK.up {W W' : World} {v : Value} {css : List (List Value)} (h : SlK W v css) (hu : qbB W W') : SlK W' v css := by
 obtain ⟨a, c, e, h1, h2, h⟩ := h
 refine ⟨a, c, e, h1, h2, ?_⟩
 rcases h with h | ⟨b, off, e2, hb, h⟩
 ·exact .inl h
 ·exact .inr ⟨b, off, e2, Nat.lt_of_lt_of_le hb hu.1, fun j u hj => hu.2 _ _ (h j u hj)⟩
theorem NmsAt.up {W W' : World} {v : Value} {ns : List Nm} (h : NmsAt W v ns) (hu : qbB W W') : NmsAt W' v ns := by
 obtain ⟨vs, h1, h2, h3⟩ := h
 exact ⟨vs, h1.up hu, h2, fun j hj => (h3 j hj).up hu⟩
theorem DatAt.up {W W' : World} {v : Value} {d : Dat} (h : DatAt W v d) (hu : qbB W W') : DatAt W' v d := by
 obtain ⟨vn, vu, vt, vr, e, h1, h2, h3, h4⟩ := h
 exact ⟨vn, vu, vt, vr, e, h1.up hu, h2.up hu, h3.up hu, h4.up hu⟩
theorem DtsR.up {W W' : World} {v : Value} {l : List Dat} (h : DtsR W v l) (hu : qbB W W') : DtsR W' v l := by
 obtain ⟨ds, h1, h2⟩ := h
 exact ⟨ds, h1.up hu, h2.1, fun j a b => ⟨(h2.2 j a b).1, (h2.2 j a b).2.up hu⟩⟩
theorem GlR.up {W W' : World} {v : Value} {l : List (Nm × List Dat)} (h : GlR W v l) (hu : qbB W W') : GlR W' v l := by
 obtain ⟨css, h1, h2, h3⟩ := h
 refine ⟨css, h1.up hu, h2, fun j a b => ?_⟩
 obtain ⟨x0, x1, e, k1, k2⟩ := h3 j a b
 exact ⟨x0, x1, e, k1.up hu, k2.up hu⟩
theorem LkAt.up {W W' : World} {cs : List Value} {r : Lk} (h : LkAt W cs r) (hu : qbB W W') : LkAt W' cs r := by
 obtain ⟨xd, xn, xg, e, h1, h2, h3⟩ := h
 exact ⟨xd, xn, xg, e, h1.up hu, h2.up hu, h3.up hu⟩
theorem qdt {n : Nat} {W W' : World} {cs : List Value} {r : Lk} {row : Option Nat} (h : ∀ W'', FarKeep n W W'' → LkAt W'' cs r) (hg : W.grownBy W' row) (hr : ∀ b, row = some b → ∃ o : Obj, W.heap[b]? = some o ∧ o.isCells = false) : ∀ W'', FarKeep n W' W'' → LkAt W'' cs r := by
 intro W2 hf
 cases row with
 | none => exact h W2 (fun g q1 q2 => (hf g q1 (Nat.lt_of_lt_of_le q2 hg.size)).trans (hg.block g q2 (by simp)))
 | some b =>
  obtain ⟨ob, ho, hc⟩ := hr b rfl
  have hbl : b < W.heap.size := qaa ho
  by_cases hn : n ≤ b
  ·have e1 := hf b hn (Nat.lt_of_lt_of_le hbl hg.size)
   have hb2 : b < W2.heap.size := by
    rw [Array.getElem?_eq_getElem (Nat.lt_of_lt_of_le hbl hg.size)] at e1
    exact qaa e1
   have h3 := h (W2.putObj b ob) (fun g q1 q2 => by
    by_cases e : g = b
    ·subst e; exact (World.putObj_heap_same hb2).trans ho.symm
    ·exact (World.putObj_heap_other e).trans ((hf g q1 (Nat.lt_of_lt_of_le q2 hg.size)).trans (hg.block g q2 (fun e2 => e (by injection e2)))))
   refine h3.up ⟨by simp [World.putObj], fun p v hv => ?_⟩
   by_cases e : p.block = b
   ·exfalso
    have hs : (W2.putObj b ob).heap[p.block]? = some ob := by rw [e]; exact World.putObj_heap_same hb2
    unfold World.cell? at hv
    rw [hs] at hv
    cases ob <;> simp_all [Obj.isCells]
   ·have hs : (W2.putObj b ob).heap[p.block]? = W2.heap[p.block]? := World.putObj_heap_other e
    unfold World.cell? at hv ⊢
    rw [hs] at hv
    exact hv
  ·exact h W2 (fun g q1 q2 => (hf g q1 (Nat.lt_of_lt_of_le q2 hg.size)).trans (hg.block g q2 (fun e2 => by injection e2; omega)))
theorem qeI {f : Nat → Option Lk} {a N : Nat} (h : ∀ x : Fin N, f (a + x.val) = none) : (List.range' a N).findSome? f = none := by
 rw [List.findSome?_eq_none_iff]
 intro s hs
 rw [List.mem_range'_1] at hs
 have := h ⟨s - a, by omega⟩
 simp only at this
 rw [show a + (s - a) = s by omega] at this
 exact this
theorem qmP {f : Nat → Option Lk} {a N : Nat} {p : List (Fin N)} {x : Fin N} {r : Lk} (hp : p ++ [x] <+: List.finRange N) (h : ∀ y ∈ p, f (a + y.val) = none) (hx : f (a + x.val) = some r) : (List.range' a N).findSome? f = some r := by
 obtain ⟨h1, h2⟩ := qc4 hp
 have hxN := x.isLt
 have e1 : (List.range' a x.val).findSome? f = none := qeI (N := x.val) (fun y => h ⟨y.val, by have := y.isLt; omega⟩ (h2 _ (by simp)))
 rw [qiF a x.val N (by omega), List.findSome?_append, e1]
 rw [show N - x.val = (N - x.val - 1) + 1 by omega, List.range'_succ, List.findSome?_cons, hx]
 rfl
def LkX (w W2 : World) (o : Nm) (on rs : List Rc) (q : Nm) (B zn : Nat) {N : Nat} (c : Code) (pre : List (Fin N)) (W : World) : Prop :=
 c = .ret ∧ ∃ p x r, pre = p ++ [x] ∧ (∀ y ∈ p, stepM o on rs q (zn + y.val) = none) ∧ stepM o on rs q (zn + x.val) = some r ∧ Below w.heap.size w W ∧
  ∃ x0 x1 x2 x3 x4, W.heap[B]? = some (.cells #[x0, x1, x2, x3, x4] 84) ∧ x0.oneCell' = true ∧ x1.oneCell' = true ∧ x2.oneCell' = true ∧ x3.oneCell' = true ∧ x4.oneCell' = true ∧ ∀ W', FarKeep W2.heap.size W W' → LkAt W' [x0, x1, x2, x3, x4] r
theorem qm7 {w W2 : World} {o : Nm} {on rs : List Rc} {q : Nm} {B zn N : Nat} (c : Code) (hB : B < W2.heap.size) (hw : w.heap.size ≤ W2.heap.size) : OwnFrom W2.heap.size (LkX (N := N) w W2 o on rs q B zn c) := by
 rintro pre W W' row ⟨k1, p, x, r, k2, k3, k4, k5, x0, x1, x2, x3, x4, k6, i0, i1, i2, i3, i4, k7⟩ hg hr
 exact ⟨k1, p, x, r, k2, k3, k4, k5.grown hg k5.size (fun b e => by have := (hr b e).1; omega), x0, x1, x2, x3, x4, (hg.block B (qaa k6) (fun e => by have := (hr B e.symm).1; omega)).trans k6, i0, i1, i2, i3, i4, qdt k7 hg (fun b e => (hr b e).2)⟩
theorem LkAt.shape {W : World} {cs : List Value} {r : Lk} (h : LkAt W cs r) : ∃ x1 x2 x4 : Option Addr × Nat × Nat, cs = [.int .i64 r.kind, slW x1, slW x2, .bool r.wild, slW x4] := by
 obtain ⟨xd, xn, xg, e, _⟩ := h
 exact ⟨xd, xn, xg, e⟩
theorem qf5 {w W2 W : World} {o : Nm} {on rs : List Rc} {q : Nm} {B zn N : Nat} {pre : List (Fin N)} {x : Fin N} {r : Lk} {x1 x2 x4 : Option Addr × Nat × Nat} {z0 z1 z2 z3 z4 : Value} (hbox : W.heap[B]? = some (.cells #[z0, z1, z2, z3, z4] 84)) (hB : B < W2.heap.size) (hwB : w.heap.size ≤ B) (hw : Below w.heap.size w W)
 (hno : ∀ y ∈ pre, stepM o on rs q (zn + y.val) = none) (hx : stepM o on rs q (zn + x.val) = some r) (hk : ∀ W', FarKeep W2.heap.size W W' → LkAt W' [.int .i64 r.kind, slW x1, slW x2, .bool r.wild, slW x4] r) : LkX w W2 o on rs q B zn .ret (pre ++ [x]) (put5 W B (.int .i64 r.kind) (slW x1) (slW x2) (.bool r.wild) (slW x4)) :=
 ⟨rfl, pre, x, r, rfl, hno, hx, qas hw hwB _ _ _ _ _, _, _, _, _, _, qce hbox _ _ _ _ _, rfl, rfl, rfl, rfl, rfl, fun W' hf => hk W' ((qaR W hB _ _ _ _ _).trans (qar _ _ _ _ _ _ _).size hf)⟩
theorem qis {o : Nm} {on rs : List Rc} {q : Nm} {s : Nat} {ns : St} (h : o.length < s) (e : ofM on (ancN q s) 2 = some ns) : stepM o on rs q s = some (referM rs (ancN q s) ns) := by
 unfold stepM; rw [if_pos h, e]
theorem qiJ {o : Nm} {on rs : List Rc} {q : Nm} {s : Nat} (h : ¬ o.length < s ∨ ofM on (ancN q s) 2 = none) : stepM o on rs q s = match (if s < q.length then ofM on (ancN q s) 39 else none) with
 | some d => if pointD d then some (qaK q (ancN q s) d) else none
 | none => none := by
 unfold stepM
 have : (if o.length < s then ofM on (ancN q s) 2 else none) = none := by
  rcases h with h | h
  ·rw [if_neg h]
  ·rw [h]; simp
 rw [this]; rfl
theorem ql7 {o : Nm} {rs : List Rc} {q : Nm} {t : Int} (hu : underN q o = true) : lookM o rs q t = match (List.range' o.length (q.length + 1 - o.length)).findSome? (stepM o (onM rs q) rs q) with
 | some r => r
 | none => if qaq o rs q then atM (onM rs q) q t else if qaT o rs q then { atM rs (starM o rs q) t with wild := true } else ⟨3, [], [], false, []⟩ := by
 unfold lookM
 rw [hu]; rfl
def okR (r : Rc) : Bool := decide (checkR r = 0)
def goodRs (l : List Rc) : Bool := fewRs l && l.all okR
theorem qmA {α : Type} {p : α → Bool} {l : List α} {k : Nat} (h : k < l.length) : (l.take (k + 1)).all p = ((l.take k).all p && p l[k]) := by
 rw [List.take_succ_eq_append_getElem h, List.all_append]; simp
def RowArg (W : World) (v : Value) (l : List Rc) : Prop := ∃ css, SlK W v css ∧ (css.length = l.length ∧ ∀ i (h1 : i < css.length) (h2 : i < l.length), RcArg W css[i] l[i])
theorem RowArg.row {W : World} {v : Value} {l : List Rc} (h : RowArg W v l) : RowC W v l := by
 obtain ⟨css, h1, h2, h3⟩ := h
 exact ⟨css, h1, h2, fun i a b => (h3 i a b).rcAt⟩
theorem RowArg.ok {W : World} {v : Value} {l : List Rc} (h : RowArg W v l) (hf : fewRs l = true) : l.length ≤ 60 ∧ ∀ r ∈ l, RcOK r := by
 obtain ⟨css, h1, h2, h3⟩ := h
 simp only [fewRs, Bool.and_eq_true, decide_eq_true_eq, List.all_eq_true] at hf
 refine ⟨hf.1, fun r hr => ?_⟩
 obtain ⟨i, hi, rfl⟩ := List.mem_iff_getElem.1 hr
 exact (h3 i (by omega) hi).ok (hf.2 _ hr)
theorem qjI {r : Rc} (h : fewR r = true) : r.data.names.length ≤ 1048576 := by
 simp only [fewR, Bool.and_eq_true] at h
 have h2 := h.2
 simp only [fewD, Bool.and_eq_true, decide_eq_true_eq] at h2; omega
theorem qlb (v : Value) (l : List Rc) (w0 w : World) (hL : RowArg w0 v l) (hwz : Below w0.heap.size w0 w) :
 Calls Tryz.prog 67 #[v] w fun e w' => e = .returned (.bool (goodRs l)) ∧ Below w.heap.size w w' := by
 have HOK := qH0 hL.ok
 obtain ⟨css, hA, hR⟩ := hL
 have hf := qlC v css l w0 w hA hR hwz
 have HR := qH0 hR; have HA := qH0 hA; have HWZ := qH0 hwz
 obtain ⟨a, c, rfl, hc1, -, -⟩ := id hA
 obtain ⟨n, hn⟩ : ∃ n, css.length = n := ⟨_, rfl⟩
 have HLN := qH0 hn
 have HDL := qH0 (show l.length = n by rw [← hR.1]; exact hn)
 rw [hn] at hf ⊢
 have HG := qH0 (show goodRs l = (fewRs l && l.all okR) from rfl)
 generalize goodRs l = res at *
 clear hA hR hwz hn hc1
 go_enter Tryz.func67, Tryz.ntmps67
 go_wp2_with fail
 refine hf.mono ?_
 rintro e w1 ⟨rfl, hb1⟩
 have HB1 := qH0 hb1
 clear hf hb1
 obtain ⟨fw, hfw⟩ : ∃ fw, fewRs l = fw := ⟨_, rfl⟩
 have HFW := qH0 hfw
 rw [hfw] at HG ⊢
 clear hfw
 cases fw
 ·have H1 : Hid (res = false) := qH0 (by rw [HG.out]; rfl)
  clear HG
  go_wp2
  go_ret
  exact ⟨by rw [H1.out]; rfl, HB1.out⟩
 obtain ⟨hl60, hok⟩ := HOK.out HFW.out
 have HOKL := qH0 hok
 have HFR := qH0 (show ∀ r ∈ l, r.data.names.length ≤ 1048576 from fun r hr => by
  have h := HFW.out
  simp only [fewRs, Bool.and_eq_true, decide_eq_true_eq, List.all_eq_true] at h
  exact qjI (h.2 r hr))
 have hn60 : n ≤ 60 := by have := HDL.out; omega
 clear hok hl60 HOK
 go_wp2
 go_loopw [3] (fun vi wr => ∃ k : Nat, vi = .int .i64 k ∧ k ≤ n ∧ Hid ((l.take k).all okR = true) ∧ Hid (Below w.heap.size w wr)) (fun vi _ => n - (intOf vi).toNat)
 case atStart => exact ⟨0, rfl, Nat.zero_le _, qH0 (by simp), HB1⟩
 case round =>
  obtain ⟨k, rfl, hk, HO, HB⟩ := hrel
  by_cases hlt : k < n
  ·have hltz : (k : Int) < (n : Int) := by omega
   have hk1 : k < css.length := by have := HLN.out; omega
   have hk2 : k < l.length := by have := HDL.out; omega
   have hck : ∀ cs ∈ css, cs.length = 7 := fun cs hc => by
    obtain ⟨i, hi, rfl⟩ := List.mem_iff_getElem.1 hc
    exact ((HR.out.2 i hi (by have := HR.out.1; omega)).rcAt).len
   obtain ⟨b, off, rfl, hb, hel⟩ := HA.out.elem hck (by omega)
   have h0 := (HR.out.2 k hk1 hk2).rcAt
   have hokr := HOKL.out _ (List.getElem_mem hk2)
   have hnl := HFR.out _ (List.getElem_mem hk2)
   have hall := qmA (p := okR) hk2
   obtain ⟨r, hr⟩ : ∃ r, l[k]'hk2 = r := ⟨_, rfl⟩
   have hrm : r ∈ l := by rw [← hr]; exact List.getElem_mem _
   rw [hr] at h0 hokr hnl hall
   rw [HO.out, Bool.true_and] at hall
   clear hr
   have hwr : Below w0.heap.size w0 wr := qB0 HWZ.out HB.out
   have hof := qjo w0 _ r wr h0 hwr hnl
   obtain ⟨⟨p0, q0, r0⟩, ⟨p3, q3, r3⟩, ⟨p4, q4, r4⟩, ⟨p5, q5, r5⟩, ⟨p6, q6, r6⟩, e0⟩ := h0.shape
   simp only at e0
   obtain ⟨c0, c1, c2, c3, c4, c5, c6⟩ := hel k hk1 _ _ _ _ _ _ _ e0 wr hwr
   rw [e0] at hof
   have HWR := qH0 hwr; have HOKR := qH0 hokr; have HALL := qH0 hall; have HRM := qH0 hrm
   clear h0 hnl e0 hel hk1 hk2 hck hwr hokr hall hrm
   go_wp2_with fail
   refine hof.mono ?_
   rintro e w2 ⟨cs2, rfl, hof2, hb2⟩
   have HB2 := qH0 (qB0 HB.out hb2)
   have hck := qhX cs2 r w2 (hof2.rcAt (qB0 HWR.out hb2)) HOKR.out
   clear hb2 hof hof2 c0 c1 c2 c3 c4 c5 c6
   go_wp2_with fail
   refine hck.mono ?_
   rintro e w3 ⟨rfl, hb3⟩
   have HB3 := qH0 (qB0 HB2.out hb3)
   clear hb3 hck
   unfold okR at HALL
   generalize checkR r = cr at *
   by_cases hcr : cr = 0
   ·have hbb : (cr != 0) = false := by simpa using hcr
    have HA2 : Hid ((l.take (k + 1)).all okR = true) := qH0 (by unfold okR; rw [HALL.out]; simpa using hcr)
    clear hcr HALL
    go_wp2
    go_roundw
    case measure => simp [intOf]; omega
    case rel => exact ⟨k + 1, by go_num, by omega, HA2, HB3⟩
   ·have hbb : (cr != 0) = true := by simpa using hcr
    have H1 : Hid (res = false) := qH0 (by
     rw [HG.out, Bool.true_and]
     have h9 : (l.take (k + 1)).all okR = false := by unfold okR; rw [HALL.out]; simpa using hcr
     cases h8 : l.all okR
     ·rfl
     ·exfalso
      rw [List.all_eq_true] at h8
      have : (l.take (k + 1)).all okR = true := by rw [List.all_eq_true]; exact fun x hx => h8 x (List.mem_of_mem_take hx)
      rw [h9] at this; cases this)
    clear hcr HALL
    go_wp2
    go_ret
    exact ⟨by rw [H1.out]; rfl, HB3.out⟩
  ·obtain rfl : k = n := by omega
   have h := HO.out
   rw [List.take_of_length_le (by have := HDL.out; omega)] at h
   have H1 : Hid (res = true) := qH0 (by rw [HG.out, h]; rfl)
   clear h
   go_wp2
   go_ret
   exact ⟨by rw [H1.out]; rfl, HB.out⟩
theorem qjZ (vo vl : Value) (o : Nm) (l : List Rc) (w0 w : World) (hO : NmArg w0 vo o) (hL : RowArg w0 vl l) (hwz : Below w0.heap.size w0 w) :
 Calls Tryz.prog 26 #[vo, vl] w fun e w' => e = .returned (.bool (goodN o && goodRs l)) ∧ Below w.heap.size w w' := by
 have hc := qjl vo o _ rfl w0 w hO (hO.1.below hwz)
 have HL := qH0 (fun (W : World) (hb : Below w.heap.size w W) => qlb vl l w0 W hL (qB0 hwz hb))
 clear hO hL hwz
 generalize goodN o = g at *
 go_enter Tryz.func26, Tryz.ntmps26
 go_wp2_with fail
 refine hc.mono ?_
 rintro e w1 ⟨rfl, hb1⟩
 have HB1 := qH0 hb1
 clear hc hb1
 cases g
 ·go_wp2
  go_ret
  exact ⟨rfl, HB1.out⟩
 ·have hc := HL.out w1 HB1.out
  clear HL
  go_wp2_with fail
  refine hc.mono ?_
  rintro e w2 ⟨rfl, hb2⟩
  have HB2 := qH0 (qB0 HB1.out hb2)
  clear hc hb2
  go_wp2
  go_ret
  exact ⟨by rw [Bool.true_and]; rfl, HB2.out⟩
theorem glr_k2 {css : List (List Value)} {l : List (Nm × List Dat)} {W : World} (hl : css.length = l.length) (h : ∀ j (h1 : j < css.length) (h2 : j < l.length), ∃ x0 x1 : Option Addr × Nat × Nat, css[j] = [slW x0, slW x1] ∧ NmAt W (slW x0) l[j].1 ∧ DtsR W (slW x1) l[j].2) : ∀ cs ∈ css, cs.length = 2 := fun cs hc => by
 obtain ⟨i, hi, rfl⟩ := List.mem_iff_getElem.1 hc
 obtain ⟨x0, x1, e, _⟩ := h i hi (by omega)
 rw [e]; rfl
theorem qg2 {W : World} {v u : Value} {l m : List Dat} (hA : DtsR W v l) (hU : DtsR W u m) (hOK : ∀ r ∈ l, DatOK r) (hOK2 : ∀ r ∈ m, DatOK r) (hl : l.length ≤ 1048576) (hl2 : m.length ≤ 1048576) :
 Calls Tryz.prog 99 #[v, u] W fun e w' => e = .returned (.bool (qap l m)) ∧ Below W.heap.size W w' := by
 obtain ⟨css, h1, h2⟩ := hA
 obtain ⟨ess, h3, h4⟩ := hU
 exact qhc v u css ess l m W h1 h2 h3 h4 hOK hOK2 (by rw [h2.1]; exact hl) (by rw [h4.1]; exact hl2)
theorem qfW (cs ds : List Value) (r s : Lk) (w : World) (hA : LkAt w cs r) (hB : LkAt w ds s) (hr : LkOK r) (hs : LkOK s) :
 Calls Tryz.prog 51 #[.agg cs.toArray, .agg ds.toArray] w fun e w' => e = .returned (.bool (sameLk r s)) ∧ Below w.heap.size w w' := by
 obtain ⟨ka, da, na, wa, l⟩ := r
 obtain ⟨kb, db, nb, wb, m⟩ := s
 obtain ⟨⟨a1, b1, c1⟩, ⟨a2, b2, c2⟩, ⟨a4, b4, c4⟩, rfl, h1, h2, h3⟩ := hA
 obtain ⟨⟨d1, e1, f1⟩, ⟨d2, e2, f2⟩, ⟨d4, e4, f4⟩, rfl, k1, k2, k3⟩ := hB
 have HN := qH0 (fun (W : World) (hb : Below w.heap.size w W) => qbq (slW (a2, b2, c2)) (slW (d2, e2, f2)) na nb _ rfl W (h2.below hb) (k2.below hb) hr.2.2.1 hs.2.2.1)
 have HD := qH0 (fun (W : World) (hb : Below w.heap.size w W) => qg2 (l := da) (m := db) (h1.below hb) (k1.below hb) hr.1 hs.1 hr.2.1 hs.2.1)
 obtain ⟨gs, hA, hla, hR⟩ := h3
 obtain ⟨qs, hU, hlb, hS⟩ := k3
 have hla : gs.length = l.length := hla
 have hlb : qs.length = m.length := hlb
 have hR : ∀ j (h1 : j < gs.length) (h2 : j < l.length), ∃ x0 x1 : Option Addr × Nat × Nat, gs[j] = [slW x0, slW x1] ∧ NmAt w (slW x0) l[j].1 ∧ DtsR w (slW x1) l[j].2 := hR
 have hS : ∀ j (h1 : j < qs.length) (h2 : j < m.length), ∃ x0 x1 : Option Addr × Nat × Nat, qs[j] = [slW x0, slW x1] ∧ NmAt w (slW x0) m[j].1 ∧ DtsR w (slW x1) m[j].2 := hS
 have HK2 := qH0 (glr_k2 hla hR)
 have HK3 := qH0 (glr_k2 hlb hS)
 have HL := qH0 (show sameLk ⟨ka, da, na, wa, l⟩ ⟨kb, db, nb, wb, m⟩ = (decide (ka = kb) && decide (wa = wb) && sameN na nb && qap da db && sameG l m) from rfl)
 have HOK : Hid (∀ g ∈ l, GlOK g) := qH0 hr.2.2.2.1
 have HOK2 : Hid (∀ g ∈ m, GlOK g) := qH0 hs.2.2.2.1
 have hgl : l.length ≤ 1048576 := hr.2.2.2.2
 have hgl2 : m.length ≤ 1048576 := hs.2.2.2.2
 generalize sameLk ⟨ka, da, na, wa, l⟩ ⟨kb, db, nb, wb, m⟩ = res at *
 clear h1 h2 k1 k2 hr hs
 unfold slW at HN HD hA hU ⊢
 simp only at HN HD hA hU ⊢
 generalize sameN na nb = tn at *
 generalize qap da db = td at *
 obtain rfl : b4 = gs.length := by
  obtain ⟨_, _, e, -⟩ := id hA
  injection e
 obtain rfl : e4 = qs.length := by
  obtain ⟨_, _, e, -⟩ := id hU
  injection e
 obtain ⟨n, hn⟩ : ∃ n, gs.length = n := ⟨_, rfl⟩
 obtain ⟨n2, hn2⟩ : ∃ n, qs.length = n := ⟨_, rfl⟩
 have HSA := qH0 hA; have HSU := qH0 hU; have HR := qH0 hR; have HS := qH0 hS
 have hc1 : n ≤ c4 := by
  obtain ⟨_, _, e, h, -⟩ := id hA
  injection e with _ _ e
  omega
 have hd1 : n2 ≤ f4 := by
  obtain ⟨_, _, e, h, -⟩ := id hU
  injection e with _ _ e
  omega
 rw [hn] at HSA ⊢
 rw [hn2] at HSU ⊢
 have HN1 := qH0 hn; have HN2 := qH0 hn2
 have HLA := qH0 (show l.length = n by rw [← hn]; exact hla.symm)
 have HLB := qH0 (show m.length = n2 by rw [← hn2]; exact hlb.symm)
 have hl : n ≤ 1048576 := by have := HLA.out; omega
 have hl2 : n2 ≤ 1048576 := by have := HLB.out; omega
 clear hA hU hR hS hn hn2 hla hlb hgl hgl2
 obtain ⟨W0, hW0⟩ : ∃ W, (w.alloc (.cells #[.int .i64 ka, .slice a1 b1 c1, .slice a2 b2 c2, .bool wa, .slice a4 n c4] 88)).alloc (.cells #[.int .i64 kb, .slice d1 e1 f1, .slice d2 e2 f2, .bool wb, .slice d4 n2 f4] 88) = W := ⟨_, rfl⟩
 have hB0 : Below w.heap.size w W0 := by rw [← hW0]; exact ((Below.refl w.heap.size w).alloc (qN0) _).alloc (by simp) _
 have x0 : W0.heap[w.heap.size]? = some (.cells #[.int .i64 ka, .slice a1 b1 c1, .slice a2 b2 c2, .bool wa, .slice a4 n c4] 88) := by
  rw [← hW0]; exact (Below.heap_alloc _ _ _ (by simp)).trans (knew w _)
 have x1 : W0.heap[w.heap.size + 1]? = some (.cells #[.int .i64 kb, .slice d1 e1 f1, .slice d2 e2 f2, .bool wb, .slice d4 n2 f4] 88) := by
  have h := knew (w.alloc (.cells #[.int .i64 ka, .slice a1 b1 c1, .slice a2 b2 c2, .bool wa, .slice a4 n c4] 88)) (.cells #[.int .i64 kb, .slice d1 e1 f1, .slice d2 e2 f2, .bool wb, .slice d4 n2 f4] 88)
  rw [World.size_alloc] at h
  rw [← hW0]; exact h
 have HB0 := qH0 hB0; have X0 := qH0 x0; have X1 := qH0 x1
 have y0 := kcell x0 0 _ rfl; have y1 := kcell x0 1 _ rfl; have y2 := kcell x0 2 _ rfl; have y3 := kcell x0 3 _ rfl; have y4 := kcell x0 4 _ rfl
 have z0 := kcell x1 0 _ rfl; have z1 := kcell x1 1 _ rfl; have z2 := kcell x1 2 _ rfl; have z3 := kcell x1 3 _ rfl; have z4 := kcell x1 4 _ rfl
 clear hB0 x0 x1
 by_cases hk : ka = kb
 rotate_left
 ·have hkb : (ka != kb) = true := by simpa using hk
  have HL2 : Hid (res = false) := qH0 (by rw [HL.out]; simp [hk])
  clear HL HN HD hk
  go_enter Tryz.func51, Tryz.ntmps51
  go_wp2
  clear hW0
  go_ret
  exact ⟨by first | (rw [HL2.out]; done) | (rw [HL2.out]; rfl) | simp [HL2.out], HB0.out⟩
 subst hk
 by_cases hw : wa = wb
 rotate_left
 ·have hwb : (!(wa == wb)) = true := by simpa using hw
  have HL2 : Hid (res = false) := qH0 (by rw [HL.out]; simp [hw])
  clear HL HN HD hw
  go_enter Tryz.func51, Tryz.ntmps51
  go_wp2
  clear hW0
  go_ret
  exact ⟨by first | (rw [HL2.out]; done) | (rw [HL2.out]; rfl) | simp [HL2.out], HB0.out⟩
 subst hw
 have hn := HN.out _ HB0.out
 have HL2 : Hid (res = (tn && td && sameG l m)) := qH0 (by rw [HL.out]; simp)
 have hwx : (!(wa == wa)) = false := by simp
 clear HL HN
 go_enter Tryz.func51, Tryz.ntmps51
 go_wp2_with fail
 clear hW0
 refine hn.mono ?_
 rintro e w1 ⟨rfl, hb1⟩
 have HB1 := qH0 (qB0 HB0.out hb1)
 have X2 := qH0 ((hb1.block _ (qaa X0.out)).trans X0.out)
 have X3 := qH0 ((hb1.block _ (qaa X1.out)).trans X1.out)
 clear y0 y1 y2 y3 y4 z0 z1 z2 z3 z4
 have y1 := kcell X2.out 1 _ rfl; have y4 := kcell X2.out 4 _ rfl; have z1 := kcell X3.out 1 _ rfl; have z4 := kcell X3.out 4 _ rfl
 have hd := HD.out _ HB1.out
 clear hn hb1 X0 X1 HB0 HD
 cases tn with
 | false =>
  clear hd
  have HL3 : Hid (res = false) := qH0 (by rw [HL2.out]; rfl)
  go_wp2
  go_ret
  exact ⟨by first | (rw [HL3.out]; done) | (rw [HL3.out]; rfl) | simp [HL3.out], HB1.out⟩
 | true =>
  go_wp2_with fail
  refine hd.mono ?_
  rintro e w2 ⟨rfl, hb2⟩
  have HB2 := qH0 (qB0 HB1.out hb2)
  have X4 := qH0 ((hb2.block _ (qaa X2.out)).trans X2.out)
  have X5 := qH0 ((hb2.block _ (qaa X3.out)).trans X3.out)
  clear y1 y4 z1 z4
  have y4 := kcell X4.out 4 _ rfl; have z4 := kcell X5.out 4 _ rfl
  clear hd hb2 X2 X3 HB1
  cases td with
  | false =>
   have HL3 : Hid (res = false) := qH0 (by rw [HL2.out]; rfl)
   go_wp2
   go_ret
   exact ⟨by first | (rw [HL3.out]; done) | (rw [HL3.out]; rfl) | simp [HL3.out], HB2.out⟩
  | true =>
   have HL3 : Hid (res = sameG l m) := qH0 (by rw [HL2.out]; simp)
   clear HL2
   by_cases hnn : n = n2
   rotate_left
   ·have hz : ((n : Int) != (n2 : Int)) = true := by simpa using (show ¬ (n : Int) = (n2 : Int) by omega)
    have HE : Hid (res = false) := qH0 (by rw [HL3.out]; exact qeo _ _ (by have := HLA.out; have := HLB.out; omega))
    go_wp2
    go_ret
    exact ⟨by first | (rw [HE.out]; done) | (rw [HE.out]; rfl) | simp [HE.out], HB2.out⟩
   subst hnn
   have hnx : ((n : Int) != (n : Int)) = false := by simp
   go_wp2
   clear y4 z4
   go_loopw [5] (fun vi wr => ∃ (k : Nat), vi = .int .i64 k ∧ k ≤ n ∧ Hid (res = sameG (l.drop k) (m.drop k)) ∧ Hid (Below w2.heap.size w2 wr)) (fun vi _ => n - (intOf vi).toNat)
   case atStart => exact ⟨0, rfl, Nat.zero_le _, qH0 HL3.out, qH0 (qL0)⟩
   case round =>
    obtain ⟨k, rfl, hk, HC, HB⟩ := hrel
    have HW := qH0 (qB0 HB2.out HB.out)
    by_cases hlt : k < n
    ·have hltz : (k : Int) < (n : Int) := by omega
     have hk1 : k < gs.length := by have := HN1.out; omega
     have hk2 : k < qs.length := by have := HN2.out; omega
     have hk3 : k < l.length := by have := HLA.out; omega
     have hk4 : k < m.length := by have := HLB.out; omega
     obtain ⟨ga, oa, rfl, hga, hea⟩ := HSA.out.elem2 HK2.out (by omega)
     obtain ⟨gb, ob, rfl, hgb, heb⟩ := HSU.out.elem2 HK3.out (by omega)
     obtain ⟨⟨p3, q3, r3⟩, ⟨p4, q4, r4⟩, e0, h0, h0'⟩ := HR.out k hk1 hk3
     obtain ⟨⟨p5, q5, r5⟩, ⟨p6, q6, r6⟩, e1, h1, h1'⟩ := HS.out k hk2 hk4
     have hok := HOK.out _ (List.getElem_mem hk3)
     have hok2 := HOK2.out _ (List.getElem_mem hk4)
     have hst := qfK k hk3 hk4
     obtain ⟨ra, hra⟩ : ∃ r, l[k]'hk3 = r := ⟨_, rfl⟩
     obtain ⟨rb, hrb⟩ : ∃ r, m[k]'hk4 = r := ⟨_, rfl⟩
     rw [hra] at h0 h0' hok hst
     rw [hrb] at h1 h1' hok2 hst
     clear hra hrb
     unfold slW at e0 e1 h0 h0' h1 h1'
     simp only at e0 e1 h0 h0' h1 h1'
     have b6 := fun p : WIn (fun W => Below wr.heap.size wr W) => HW.out.trans (p.ok.mono HW.out.size)
     have f0 := fun p : WIn (fun W => Below wr.heap.size wr W) => hea k hk1 _ _ e0 p.w (b6 p)
     have f1 := fun p : WIn (fun W => Below wr.heap.size wr W) => heb k hk2 _ _ e1 p.w (b6 p)
     have g0 := fun p => (f0 p).1; have g1 := fun p => (f0 p).2
     have g2 := fun p => (f1 p).1; have g3 := fun p => (f1 p).2
     have g4 := fun p : WIn (fun W => Below wr.heap.size wr W) => kcell (((HB.out.trans (p.ok.mono HB.out.size)).block _ (qaa X4.out)).trans X4.out) 4 _ rfl
     have g5 := fun p : WIn (fun W => Below wr.heap.size wr W) => kcell (((HB.out.trans (p.ok.mono HB.out.size)).block _ (qaa X5.out)).trans X5.out) 4 _ rfl
     obtain ⟨t1, ht1⟩ : ∃ t, sameN ra.1 rb.1 = t := ⟨_, rfl⟩
     obtain ⟨t2, ht2⟩ : ∃ t, qap ra.2 rb.2 = t := ⟨_, rfl⟩
     rw [ht1, ht2] at hst
     have hc1 := fun p : WIn (fun W => Below wr.heap.size wr W) => Calls.cls (C := fun W => Below wr.heap.size wr W) ((qbq (.slice p3 q3 r3) (.slice p5 q5 r5) ra.1 rb.1 t1 ht1 p.w (h0.below (b6 p)) (h1.below (b6 p)) hok.1 hok2.1).mono fun _ _ ⟨hq, hb⟩ => ⟨hq, p.ok.trans (hb.mono p.ok.size)⟩)
     have hc2 := fun p : WIn (fun W => Below wr.heap.size wr W) => Calls.cls (C := fun W => Below wr.heap.size wr W) ((qg2 (h0'.below (b6 p)) (h1'.below (b6 p)) hok.2.1 hok2.2.1 hok.2.2 hok2.2.2).mono fun _ _ ⟨hq, hb⟩ => ⟨hq, p.ok.trans (hb.mono p.ok.size)⟩)
     rw [ht2] at hc2
     have HC2 : Hid (res = (t1 && t2 && sameG (l.drop (k + 1)) (m.drop (k + 1)))) := qH0 (by rw [HC.out, hst])
     have hne : Nonempty (WIn (fun W => Below wr.heap.size wr W)) := ⟨⟨wr, qL0⟩⟩
     have hcl : Below wr.heap.size wr wr.drew := ⟨rfl, rfl, rfl, qN0, fun _ _ => rfl⟩
     have y4 := kcell ((HB.out.block _ (qaa X4.out)).trans X4.out) 4 _ rfl
     clear h0 h1 h0' h1' hok hok2 hst e0 e1 hea heb hk1 hk2 hk3 hk4 f0 f1 HC b6 ht1 ht2
     cases t1
     ·have HE : Hid (res = false) := qH0 (by rw [HC2.out]; rfl)
      clear HC2 hc2
      go_wp2_with fail
      refine qaf (fun W => Below wr.heap.size wr W) qae (by kernel_rfl) hcl ?_
      repeat (go_big_quiet_step (exact hc1 _))
      refine wpQuiet_nil ?_
      rintro _ ⟨p, rfl⟩
      have HB3 := qH0 (HW.out.trans (p.ok.mono HW.out.size))
      clear g0 g1 g2 g3 g4 g5 hc1 hcl hne
      go_wp2
      go_ret
      exact ⟨by first | (rw [HE.out]; done) | (rw [HE.out]; rfl) | simp [HE.out], HB3.out⟩
     ·cases t2
      ·have HE : Hid (res = false) := qH0 (by rw [HC2.out]; rfl)
       clear HC2
       go_wp2_with fail
       refine qaf (fun W => Below wr.heap.size wr W) qae (by kernel_rfl) hcl ?_
       repeat (go_big_quiet_step (first | with_reducible exact hc1 _ | with_reducible exact hc2 _))
       refine wpQuiet_nil ?_
       rintro _ ⟨p, rfl⟩
       have HB3 := qH0 (HW.out.trans (p.ok.mono HW.out.size))
       clear g0 g1 g2 g3 g4 g5 hc1 hc2 hcl hne
       go_wp2
       go_ret
       exact ⟨by first | (rw [HE.out]; done) | (rw [HE.out]; rfl) | simp [HE.out], HB3.out⟩
      ·have HE : Hid (res = sameG (l.drop (k + 1)) (m.drop (k + 1))) := qH0 (by rw [HC2.out]; rfl)
       clear HC2
       go_wp2_with fail
       refine qaf (fun W => Below wr.heap.size wr W) qae (by kernel_rfl) hcl ?_
       repeat (go_big_quiet_step (first | with_reducible exact hc1 _ | with_reducible exact hc2 _))
       refine wpQuiet_nil ?_
       rintro _ ⟨p, rfl⟩
       have HB3 := qH0 (HB.out.trans (p.ok.mono HB.out.size))
       clear g0 g1 g2 g3 g4 g5 hc1 hc2 hcl hne
       go_wp2
       go_roundw
       case measure => simp [intOf]; omega
       case rel => exact ⟨k + 1, by go_num, by omega, HE, HB3⟩
    ·obtain rfl : k = n := by omega
     have HE : Hid (res = true) := qH0 (by
      rw [HC.out, List.drop_of_length_le (by have := HLA.out; omega), List.drop_of_length_le (by have := HLB.out; omega)]; rfl)
     have y4 := kcell ((HB.out.block _ (qaa X4.out)).trans X4.out) 4 _ rfl
     clear HC
     go_wp2
     go_ret
     exact ⟨by first | (rw [HE.out]; done) | (rw [HE.out]; rfl) | simp [HE.out], HW.out⟩
theorem lo_far {a b c : World} {r q : Option Nat} (h : a.grownBy b r) (g : b.grownBy c q) (hq : ∀ k, q = some k → a.heap.size ≤ k ∨ r = some k) : a.grownBy c r := by
 refine ⟨g.os.trans h.os, g.tape.trans h.tape, g.output.trans h.output, Nat.le_trans h.size g.size, fun i hi hne => (g.block i (Nat.lt_of_lt_of_le hi h.size) (fun e => ?_)).trans (h.block i hi hne)⟩
 rcases hq i e.symm with h1 | h1
 ·omega
 ·exact hne h1.symm
theorem qcw {a b c : World} {r : Option Nat} (h : a.grownBy b r) (g : Below b.heap.size b c) : a.grownBy c r :=
 ⟨g.os.trans h.os, g.tape.trans h.tape, g.output.trans h.output, Nat.le_trans h.size g.size, fun i hi hne => (g.block i (Nat.lt_of_lt_of_le hi h.size)).trans (h.block i hi hne)⟩
theorem lo_to {n : Nat} {a b : World} {B : Nat} (h : a.grownBy b (some B)) (hB : n ≤ B) (hn : n ≤ a.heap.size) : Below n a b := (Below.refl n a).grown h hn (fun k e => by cases e; exact hB)
theorem OfD.move {w0 W W' : World} {base : Nat} {cs : List Value} {d : Dat} (h : OfD w0 W base cs d) (hf : FarKeep base W W') : OfD w0 W' base cs d := by
 obtain ⟨vn, vu, vt, vr, ss, e, h2, h3⟩ := h
 exact ⟨vn, vu, vt, vr, ss, e, h2.move hf, h3⟩
theorem OfDs.move {w0 W W' : World} {base : Nat} {csd : List (List Value)} {l : List Dat} (h : OfDs w0 W base csd l) (hf : FarKeep base W W') : OfDs w0 W' base csd l := ⟨h.1, fun j a b => (h.2 j a b).move hf⟩
theorem OfDs.weaken {w0 W : World} {base b2 : Nat} {csd : List (List Value)} {l : List Dat} (h : OfDs w0 W base csd l) (hb : b2 ≤ base) : OfDs w0 W b2 csd l := ⟨h.1, fun j a b => (h.2 j a b).weaken hb⟩
theorem OfDs.grown {w0 W W' : World} {base base' k : Nat} {T : TypeId} {csd : List (List Value)} {l : List Dat} {v' : Value} {yss : List (List Value)} (h : OfDs w0 W base csd l) (h' : OwnC k T W base' v' yss) (hT : 23 ≠ T) (hg : W.grownBy W' v'.ownBlock) : OfDs w0 W' base csd l := ⟨h.1, fun j a b => (h.2 j a b).grown h' hT hg⟩
theorem OfDs.len5 {w0 W : World} {base : Nat} {csd : List (List Value)} {l : List Dat} (h : OfDs w0 W base csd l) : ∀ cs ∈ csd, cs.length = 5 := fun cs hc => by
 obtain ⟨i, hi, rfl⟩ := List.mem_iff_getElem.1 hc
 obtain ⟨_, _, _, _, _, e, _⟩ := h.2 i hi (by have := h.1; omega)
 rw [e]; rfl
theorem qkM : ElemK 2 155 86 48 := ⟨Tryz.underlying86, _, _, rfl, rfl, rfl, rfl, rfl⟩
def DOut (w W0 : World) (B : Nat) (T : TypeId) (c0 : Value) (rest : List Value) (fs : List Dat) (W : World) : Prop :=
 ∃ (ga : Option Addr) (gn gc : Nat) (css : List (List Value)), W.heap[B]? = some (.cells (c0 :: .slice ga gn gc :: rest).toArray T) ∧ OwnC 5 107 W W0.heap.size (.slice ga gn gc) css ∧ OfDs w W W0.heap.size css fs ∧ W0.grownBy W (some B)
theorem put1 (c0 x v : Value) (rest : List Value) : (c0 :: x :: rest).toArray.setIfInBounds 1 v = (c0 :: v :: rest).toArray := by simp
theorem DOut.step {w W0 w7 w8 : World} {B : Nat} {T : TypeId} {c0 : Value} {rest : List Value} {fs : List Dat} {ga : Option Addr} {gn gc : Nat} {css : List (List Value)} {cs : List Value} {d : Dat} {v8 : Value}
 (hT : T ≠ 107) (hB : B < W0.heap.size)
 (hx : w7.heap[B]? = some (.cells (c0 :: .slice ga gn gc :: rest).toArray T)) (hown : OwnC 5 107 w7 W0.heap.size (.slice ga gn gc) css) (hfr : OfDs w w7 W0.heap.size css fs) (hg : W0.grownBy w7 (some B)) (hn : OfD w w7 W0.heap.size cs d)
 (hown8 : OwnC 5 107 w8 W0.heap.size v8 (css ++ [cs])) (hg8 : (w7.alloc (.cells cs.toArray 107)).grownBy w8 (Value.slice ga gn gc).ownBlock) :
 DOut w W0 B T c0 rest (fs ++ [d]) (w8.setCell ⟨B, 1, none⟩ v8) ∧ w8.heap[B]? = some (.cells (c0 :: .slice ga gn gc :: rest).toArray T) := by
 have hbA := (Below.refl w7.heap.size w7).alloc (qN0) (.cells cs.toArray 107)
 have hown7 := OwnK.below hown hbA
 have hx7 := (hbA.block _ (qaa hx)).trans hx
 have hx8 : w8.heap[B]? = some (.cells (c0 :: .slice ga gn gc :: rest).toArray T) := (hg8.block B (qaa hx7) (fun e => OwnK.ne_block hown7 hx7 hT e)).trans hx7
 have hfr8 : OfDs w w8 W0.heap.size (css ++ [cs]) (fs ++ [d]) := (hfr.below hbA).snoc hown7 (hn.below hbA) hg8
 obtain ⟨a8, c8, rfl⟩ := OwnK.shape hown8
 have hs := kset hx8 1 (.slice a8 (css ++ [cs]).length c8)
 rw [put1] at hs
 refine ⟨⟨a8, _, c8, _, hs, OwnK.move hown8 (FarKeep.set _ _ _ _ hB), hfr8.move (FarKeep.set _ _ _ _ hB), ?_⟩, hx8⟩
 exact lo_far (lo_far (qcw hg hbA) hg8 (fun q e => .inl (OwnK.base_le hown q e))) (qah w8 B 1 _) (fun k e => .inr e)
def DCl (w W0 : World) (B : Nat) (T : TypeId) (c0 : Value) (rest : List Value) (fs : List Dat) (ga : Option Addr) (gn gc : Nat) (css : List (List Value)) (d : Dat) (W : World) (e : Ending) (w7 : World) : Prop :=
 ∃ (a3 : Option Addr) (n3 z3 : Nat) (a4 : Option Addr) (n4 z4 : Nat) (a5 : Option Addr) (n5 z5 : Nat) (a6 : Option Addr) (n6 z6 : Nat), e = .returned (.agg #[.int .i64 d.ty, .slice a3 n3 z3, .slice a4 n4 z4, .slice a5 n5 z5, .slice a6 n6 z6]) ∧ OfD w w7 W0.heap.size [.int .i64 d.ty, .slice a3 n3 z3, .slice a4 n4 z4, .slice a5 n5 z5, .slice a6 n6 z6] d ∧
  w7.heap[B]? = some (.cells (c0 :: .slice ga gn gc :: rest).toArray T) ∧ OwnC 5 107 w7 W0.heap.size (.slice ga gn gc) css ∧ OfDs w w7 W0.heap.size css fs ∧ W0.grownBy w7 (some B) ∧ Below W.heap.size W w7
theorem of_out {w W0 W : World} {B : Nat} {T : TypeId} {c0 : Value} {rest : List Value} {fs : List Dat} {ga : Option Addr} {gn gc : Nat} {css : List (List Value)} {v : Value} {d : Dat} (hx : W.heap[B]? = some (.cells (c0 :: .slice ga gn gc :: rest).toArray T)) (hown : OwnC 5 107 W W0.heap.size (.slice ga gn gc) css) (hfr : OfDs w W W0.heap.size css fs) (hg : W0.grownBy W (some B)) (hd : DatAt w v d) (hwW : Below w.heap.size w W) (hk : d.names.length ≤ 1048576) :
 Calls Tryz.prog 78 #[v] W (DCl w W0 B T c0 rest fs ga gn gc css d W) := by
 refine (qhV w v d W hd hwW hk).mono ?_
 rintro e w7 h
 obtain ⟨cs, rfl, ho, hb⟩ := h.cells
 obtain ⟨⟨a3, n3, z3⟩, ⟨a4, n4, z4⟩, ⟨a5, n5, z5⟩, ⟨a6, n6, z6⟩, rfl⟩ := ho.shape
 exact ⟨a3, n3, z3, a4, n4, z4, a5, n5, z5, a6, n6, z6, rfl, ho.weaken hg.size, (hb.block _ (qaa hx)).trans hx, OwnK.below hown hb, hfr.below hb, qcw hg hb, hb⟩
def RGl (w W : World) (base : Nat) (gss : List (List Value)) (gl : List (Nm × List Dat)) : Prop := gss.length = gl.length ∧ ∀ j (h1 : j < gss.length) (h2 : j < gl.length), ∃ (x0 x1 : Option Addr × Nat × Nat) (css : List (List Value)), gss[j] = [slW x0, slW x1] ∧ NmAt w (slW x0) gl[j].1 ∧ OwnC 5 107 W base (slW x1) css ∧ OfDs w W base css gl[j].2
theorem RGl.below {w W W' : World} {base : Nat} {gss : List (List Value)} {gl : List (Nm × List Dat)} (h : RGl w W base gss gl) (hb : Below W.heap.size W W') : RGl w W' base gss gl := by
 refine ⟨h.1, fun j a b => ?_⟩
 obtain ⟨x0, x1, css, e, h1, h2, h3⟩ := h.2 j a b
 exact ⟨x0, x1, css, e, h1, OwnK.below h2 hb, h3.below hb⟩
theorem RGl.move {w W W' : World} {base : Nat} {gss : List (List Value)} {gl : List (Nm × List Dat)} (h : RGl w W base gss gl) (hb : FarKeep base W W') : RGl w W' base gss gl := by
 refine ⟨h.1, fun j a b => ?_⟩
 obtain ⟨x0, x1, css, e, h1, h2, h3⟩ := h.2 j a b
 exact ⟨x0, x1, css, e, h1, OwnK.move h2 hb, h3.move hb⟩
theorem RGl.grown {w W W' : World} {base base' : Nat} {gss : List (List Value)} {gl : List (Nm × List Dat)} {v' : Value} {yss : List (List Value)} (h : RGl w W base gss gl) (h' : OwnC 2 155 W base' v' yss) (hg : W.grownBy W' v'.ownBlock) : RGl w W' base gss gl := by
 refine ⟨h.1, fun j a b => ?_⟩
 obtain ⟨x0, x1, css, e, h1, h2, h3⟩ := h.2 j a b
 exact ⟨x0, x1, css, e, h1, OwnK.kept_cc h2 h' (by decide) hg, h3.grown h' (by decide) hg⟩
theorem RGl.len2 {w W : World} {base : Nat} {gss : List (List Value)} {gl : List (Nm × List Dat)} (h : RGl w W base gss gl) : ∀ cs ∈ gss, cs.length = 2 := fun cs hc => by
 obtain ⟨i, hi, rfl⟩ := List.mem_iff_getElem.1 hc
 obtain ⟨_, _, _, e, _⟩ := h.2 i hi (by have := h.1; omega)
 rw [e]; rfl
theorem RGl.snoc {w W : World} {base : Nat} {gss : List (List Value)} {gl : List (Nm × List Dat)} {x0 x1 : Option Addr × Nat × Nat} {css : List (List Value)} {g : Nm × List Dat} (h : RGl w W base gss gl) (h1 : NmAt w (slW x0) g.1) (h2 : OwnC 5 107 W base (slW x1) css) (h3 : OfDs w W base css g.2) : RGl w W base (gss ++ [[slW x0, slW x1]]) (gl ++ [g]) := by
 refine ⟨by simp [h.1], fun j a b => ?_⟩
 by_cases hj : j < gss.length
 ·rw [List.getElem_append_left hj]
  have e2 : (gl ++ [g])[j] = gl[j]'(by have := h.1; omega) := List.getElem_append_left (by have := h.1; omega)
  rw [e2]
  exact h.2 j hj (by have := h.1; omega)
 ·obtain rfl : j = gss.length := by simp at a; omega
  have e1 : (gss ++ [[slW x0, slW x1]])[gss.length]'a = [slW x0, slW x1] := by simp
  have e2 : (gl ++ [g])[gss.length]'b = g := by simp [h.1]
  rw [e1, e2]
  exact ⟨x0, x1, css, rfl, h1, h2, h3⟩
def O2 (w W0 : World) (X : Nat) (kd dsl nm wd : Value) (dl : List Dat) (gl : List (Nm × List Dat)) (W : World) : Prop :=
 ∃ (ga : Option Addr) (gn gc : Nat) (gss css : List (List Value)), W.heap[X]? = some (.cells #[kd, dsl, nm, wd, .slice ga gn gc] 88) ∧ OwnC 5 107 W W0.heap.size dsl css ∧ OfDs w W W0.heap.size css dl ∧ OwnC 2 155 W W0.heap.size (.slice ga gn gc) gss ∧ RGl w W W0.heap.size gss gl ∧ W0.grownBy W (some X)
theorem O2.below {w W0 W W' : World} {X : Nat} {kd dsl nm wd : Value} {dl : List Dat} {gl : List (Nm × List Dat)} (h : O2 w W0 X kd dsl nm wd dl gl W) (hb : Below W.heap.size W W') : O2 w W0 X kd dsl nm wd dl gl W' := by
 obtain ⟨ga, gn, gc, gss, css, h1, h2, h3, h4, h5, h6⟩ := h
 exact ⟨ga, gn, gc, gss, css, (hb.block _ (qaa h1)).trans h1, OwnK.below h2 hb, h3.below hb, OwnK.below h4 hb, h5.below hb, qcw h6 hb⟩
theorem put4 (c0 c1 c2 c3 x v : Value) : #[c0, c1, c2, c3, x].setIfInBounds 4 v = #[c0, c1, c2, c3, v] := rfl
theorem O2.step {w W0 W w8 : World} {X : Nat} {kd dsl nm wd : Value} {dl : List Dat} {gl : List (Nm × List Dat)} {ga : Option Addr} {gn gc : Nat} {gss css : List (List Value)} {x0 x1 : Option Addr × Nat × Nat} {cs5 : List (List Value)} {g : Nm × List Dat} {v8 : Value} (hX : X < W0.heap.size)
 (h1 : W.heap[X]? = some (.cells #[kd, dsl, nm, wd, .slice ga gn gc] 88)) (h2 : OwnC 5 107 W W0.heap.size dsl css) (h3 : OfDs w W W0.heap.size css dl) (h4 : OwnC 2 155 W W0.heap.size (.slice ga gn gc) gss) (h5 : RGl w W W0.heap.size gss gl) (h6 : W0.grownBy W (some X))
 (n1 : NmAt w (slW x0) g.1) (n2 : OwnC 5 107 W W0.heap.size (slW x1) cs5) (n3 : OfDs w W W0.heap.size cs5 g.2)
 (h8 : OwnC 2 155 w8 W0.heap.size v8 (gss ++ [[slW x0, slW x1]])) (hg : W.grownBy w8 (Value.slice ga gn gc).ownBlock) :
 O2 w W0 X kd dsl nm wd dl (gl ++ [g]) (w8.setCell ⟨X, 4, none⟩ v8) ∧ w8.heap[X]? = some (.cells #[kd, dsl, nm, wd, .slice ga gn gc] 88) := by
 have hx8 : w8.heap[X]? = some (.cells #[kd, dsl, nm, wd, .slice ga gn gc] 88) := (hg.block X (qaa h1) (fun e => OwnK.ne_block h4 h1 (by decide) e)).trans h1
 obtain ⟨a8, c8, rfl⟩ := OwnK.shape h8
 have hs := kset hx8 4 (.slice a8 (gss ++ [[slW x0, slW x1]]).length c8)
 rw [put4] at hs
 have hF : FarKeep W0.heap.size w8 (w8.setCell ⟨X, 4, none⟩ (.slice a8 (gss ++ [[slW x0, slW x1]]).length c8)) := FarKeep.set _ _ _ _ hX
 have hr : RGl w w8 W0.heap.size (gss ++ [[slW x0, slW x1]]) (gl ++ [g]) := (h5.grown h4 hg).snoc n1 (OwnK.kept_cc n2 h4 (by decide) hg) (n3.grown h4 (by decide) hg)
 exact ⟨⟨a8, _, c8, _, css, hs, OwnK.move (OwnK.kept_cc h2 h4 (by decide) hg) hF, (h3.grown h4 (by decide) hg).move hF, OwnK.move h8 hF, hr.move hF, lo_far (lo_far h6 hg (fun q e => .inl (OwnK.base_le h4 q e))) (qah w8 X 4 _) (fun k e => .inr e)⟩, hx8⟩
theorem O2.lkAt {w W0 W : World} {X : Nat} {kd : Int} {dsl : Value} {x2 : Option Addr × Nat × Nat} {wd : Bool} {dl : List Dat} {gl : List (Nm × List Dat)} {n : Nm} {ga : Option Addr} {gn gc : Nat} {gss css : List (List Value)}
 (h2 : OwnC 5 107 W W0.heap.size dsl css) (h3 : OfDs w W W0.heap.size css dl) (h4 : OwnC 2 155 W W0.heap.size (.slice ga gn gc) gss) (h5 : RGl w W W0.heap.size gss gl)
 (hn : NmAt w (slW x2) n) (hb : Below w.heap.size w W) : LkAt W [.int .i64 kd, dsl, slW x2, .bool wd, .slice ga gn gc] ⟨kd, dl, n, wd, gl⟩ := by
 obtain ⟨a1, c1, e1⟩ := OwnK.shape h2
 refine ⟨(a1, css.length, c1), x2, (ga, gn, gc), by rw [e1]; rfl, ⟨css, ?_, h3.dts hb⟩, hn.below hb, ⟨gss, SlK.of_own h4 h5.len2, h5.1, fun j a b => ?_⟩⟩
 ·have := SlK.of_own h2 h3.len5
  rw [e1] at this; exact this
 ·obtain ⟨x0, x1, cs5, e, q1, q2, q3⟩ := h5.2 j a b
  exact ⟨x0, x1, e, q1.below hb, ⟨cs5, SlK.of_own q2 q3.len5, q3.dts hb⟩⟩
theorem qdy {fn : Func} {t : Tmp} (h : fn.results = #[.cell t 88]) (tmps : Array Value) (W : World) {a : Nat} {x0 x1 x2 x3 x4 : Value}
 (ht : tmps.getD t undef = .pointer (some ⟨a, 0, none⟩)) (hb : W.heap[a]? = some (.cells #[x0, x1, x2, x3, x4] 88)) : (results fn tmps).run Tryz.prog W = .ok (.agg #[x0, x1, x2, x3, x4]) W := by
 have ht' : tmps[t]?.getD undef = .pointer (some ⟨a, 0, none⟩) := by rw [← ht]; simp
 have hu : ∀ w, Sem.run Tryz.prog (underlying 88) w = .ok _ w := run_underlying Tryz.underlying88
 have y0 := kcell hb 0 _ rfl; have y1 := kcell hb 1 _ rfl; have y2 := kcell hb 2 _ rfl; have y3 := kcell hb 3 _ rfl; have y4 := kcell hb 4 _ rfl
 simp [results, h, ht', loadVar, asAddr, go_sem, hu, y0, y1, y2, y3, y4, isAgg]
theorem qc2 {W : World} {B : Nat} {z0 z1 z2 z3 z4 : Value} {T : TypeId} (h : W.heap[B]? = some (.cells #[z0, z1, z2, z3, z4] T)) (v0 v1 v2 v3 v4 : Value) : (put5 W B v0 v1 v2 v3 v4).heap[B]? = some (.cells #[v0, v1, v2, v3, v4] T) := by
 have q0 := kset h 0 v0
 have q1 := kset q0 1 v1
 have q2 := kset q1 2 v2
 have q3 := kset q2 3 v3
 exact kset q3 4 v4
theorem qip {w : World} {za v1 : Option Addr} {zn zc m c : Nat} {o n : Nm} {rs : List Rc} {vn : Value} (h : ZonS w za zn zc v1 m c o rs) (hO : NmAt w vn n) (hko : NmOK n) :
 Calls Tryz.prog 40 #[.agg #[.slice za zn zc, .slice v1 m c], vn] w (qjt w (encM o rs n)) := by
 obtain ⟨ao, cn, rfl, -⟩ := nmAt_sl.1 hO
 obtain ⟨qn, hqn⟩ : ∃ q, (List.map strV n).length = q := ⟨_, rfl⟩
 have HQN := qH0 (show n.length = qn by rw [← hqn, List.length_map])
 rw [hqn] at hO  ⊢
 clear hqn
 have HNO := qH0 hO; have HKN := qH0 hko
 have X0 := knew w (.cells #[.slice za zn zc, .slice v1 m c] 60)
 have HB0 := qH0 ((Below.refl w.heap.size w).alloc (qN0) (.cells #[.slice za zn zc, .slice v1 m c] 60))
 obtain ⟨w2, hw2⟩ : ∃ w2, w.alloc (.cells #[.slice za zn zc, .slice v1 m c] 60) = w2 := ⟨_, rfl⟩
 obtain ⟨B, hB⟩ : ∃ B, w.heap.size = B := ⟨_, rfl⟩
 have hHB : Below w.heap.size w w2 := by rw [← hw2]; exact HB0.out
 have HB0 := qH0 hHB
 rw [hw2, hB] at X0
 have HY := qH0 (fun W (hb : Below w2.heap.size w2 W) => And.intro (kcell ((hb.block _ (qaa X0)).trans X0) 0 _ rfl) (kcell ((hb.block _ (qaa X0)).trans X0) 1 _ rfl))
 have HZ := qH0 (fun W (hb : Below w2.heap.size w2 W) => h.below (qB0 hHB hb))
 have KS := qH0 (fun W W' (hS : W.cell? ⟨B, 0, none⟩ = some (.slice za zn zc) ∧ W.cell? ⟨B, 1, none⟩ = some (.slice v1 m c) ∧ Below w2.heap.size w2 W) (hb : Below W.heap.size W W') => (show W'.cell? ⟨B, 0, none⟩ = some (.slice za zn zc) ∧ W'.cell? ⟨B, 1, none⟩ = some (.slice v1 m c) ∧ Below w2.heap.size w2 W' from ⟨(HY.out W' (hS.2.2.trans (hb.mono hS.2.2.size))).1, (HY.out W' (hS.2.2.trans (hb.mono hS.2.2.size))).2, hS.2.2.trans (hb.mono hS.2.2.size)⟩))
 have HENC := qH0 (fun k (hk : k ≤ qn) (he : qaq o rs (n.drop k) = true) (hn : ∀ j, j < k → qaq o rs (n.drop j) = false) => (show encM o rs n = n.drop k from by
  have hq := HQN.out
  rw [qbN (by omega)] at he ⊢
  refine qlQ (by omega) he (fun j hj hj2 => ?_)
  have := hn (n.length - j) (by omega)
  rw [qbN (by omega)] at this
  rwa [show n.length - (n.length - j) = j by omega] at this))
 have HENN := qH0 (fun (hn : ∀ j, j < qn + 1 → qaq o rs (n.drop j) = false) => (show encM o rs n = [] from by
  have hq := HQN.out
  refine qmq (fun j hj => ?_)
  have := hn (n.length - j) (by omega)
  rw [qbN (by omega)] at this
  rwa [show n.length - (n.length - j) = j by omega] at this))
 clear h hO hko X0 hHB
 go_enter Tryz.func40, Tryz.ntmps40
 go_wp2
 clear hw2 hB
 go_loopw [5] (fun vi wr => ∃ k : Nat, vi = .int .i64 k ∧ k ≤ qn + 1 ∧ Hid (∀ j, j < k → qaq o rs (n.drop j) = false) ∧ Hid (Below w2.heap.size w2 wr)) (fun vi _ => qn + 1 - (intOf vi).toNat)
 case atStart => exact ⟨0, rfl, by omega, qH0 (fun j hj => by omega), qH0 (qL0)⟩
 case round =>
  obtain ⟨k, rfl, hk, HN, HB⟩ := hrel
  obtain ⟨y0, y1⟩ := HY.out wr HB.out
  by_cases hlt : k ≤ qn
  ·have hltz : (k : Int) ≤ (qn : Int) := by omega
   have hqn20 : qn ≤ 1048576 := by have := HKN.out.1; have := HQN.out; omega
   have hkz : (0 : Int) ≤ (k : Int) := by omega
   have hqc : qn ≤ cn := nm_cap HNO.out
   have hkcz : (k : Int) ≤ (cn : Int) := by omega
   have hqcz : (qn : Int) ≤ (cn : Int) := by omega
   have hS0 : wr.drew.cell? ⟨B, 0, none⟩ = some (.slice za zn zc) ∧ wr.drew.cell? ⟨B, 1, none⟩ = some (.slice v1 m c) ∧ Below w2.heap.size w2 wr.drew := ⟨y0, y1, HB.out.trans ⟨rfl, rfl, rfl, qN0, fun _ _ => rfl⟩⟩
   have HKO' := qH0 (show NmOK (n.drop k) by rw [qbN (by have := HQN.out; omega)]; exact qiq HKN.out _)
   have hsuf := qgY HNO.out hlt
   rcases hsuf with ⟨hck, hm⟩ | ⟨hck, hq0, hk0, ⟨ad, rfl⟩, hm⟩ | ⟨hck, hq0, g, off, rfl, hm⟩
   ·subst hck
    obtain rfl : qn = cn := by omega
    simp only [Nat.sub_self] at hm
    have HC := qH0 (fun (W : World) (hS : W.cell? ⟨B, 0, none⟩ = some (.slice za zn zc) ∧ W.cell? ⟨B, 1, none⟩ = some (.slice v1 m c) ∧ Below w2.heap.size w2 W) => qcF (HZ.out W hS.2.2) (hm.below (HB0.out.trans (hS.2.2.mono HB0.out.size))) HKO'.out)
    have HM := qH0 (fun (W : World) (hb : Below w2.heap.size w2 W) => hm.below (qB0 HB0.out hb))
    clear hm
    go_wp2_with fail
    go_region_held3 (fun W => W.cell? ⟨B, 0, none⟩ = some (.slice za zn zc) ∧ W.cell? ⟨B, 1, none⟩ = some (.slice v1 m c) ∧ Below w2.heap.size w2 W) (first | with_reducible assumption)
     (first | ((with_reducible refine (HC.out _ (by with_reducible assumption)).mono ?_); rintro e w9 ⟨rfl, hb9⟩; have hS9 := KS.out _ _ (by with_reducible assumption) hb9; clear hb9))
    have HB9 := qH0 hS9.2.2
    clear hS9 HC hS0 y0 y1
    obtain ⟨E, hE⟩ : ∃ E, qaq o rs (n.drop qn) = E := ⟨_, rfl⟩
    have HE := qH0 hE
    rw [hE]
    clear hE
    cases E
    ·go_wp2
     go_roundw
     case measure => simp [intOf]
     case rel => exact ⟨qn + 1, by go_num, by omega, qH0 (fun j hj => by
      rcases Nat.lt_or_ge j qn with h | h
      ·exact HN.out j h
      ·obtain rfl : j = qn := by omega
       exact HE.out), HB9⟩
    ·have H1 : Hid (encM o rs n = n.drop qn) := qH0 (HENC.out qn (by omega) HE.out HN.out)
     go_wp2
     go_ret
     exact ⟨_, _, _, rfl, by rw [H1.out]; exact HM.out _ HB9.out, qB0 HB0.out HB9.out⟩
   ·subst hk0
    subst hq0
    simp only [Nat.sub_zero] at hm
    have HC := qH0 (fun (W : World) (hS : W.cell? ⟨B, 0, none⟩ = some (.slice za zn zc) ∧ W.cell? ⟨B, 1, none⟩ = some (.slice v1 m c) ∧ Below w2.heap.size w2 W) => qcF (HZ.out W hS.2.2) (hm.below (HB0.out.trans (hS.2.2.mono HB0.out.size))) HKO'.out)
    have HM := qH0 (fun (W : World) (hb : Below w2.heap.size w2 W) => hm.below (qB0 HB0.out hb))
    clear hm
    go_wp2_with fail
    go_region_held3 (fun W => W.cell? ⟨B, 0, none⟩ = some (.slice za zn zc) ∧ W.cell? ⟨B, 1, none⟩ = some (.slice v1 m c) ∧ Below w2.heap.size w2 W) (first | with_reducible assumption)
     (first | ((with_reducible refine (HC.out _ (by with_reducible assumption)).mono ?_); rintro e w9 ⟨rfl, hb9⟩; have hS9 := KS.out _ _ (by with_reducible assumption) hb9; clear hb9))
    have HB9 := qH0 hS9.2.2
    clear hS9 HC hS0 y0 y1
    obtain ⟨E, hE⟩ : ∃ E, qaq o rs n = E := ⟨_, rfl⟩
    have HE := qH0 (show qaq o rs (n.drop 0) = E by rw [List.drop_zero]; exact hE)
    rw [hE]
    clear hE
    cases E
    ·go_wp2
     go_roundw
     case measure => simp [intOf]
     case rel => exact ⟨0 + 1, by go_num, by omega, qH0 (fun j hj => by
      rcases Nat.lt_or_ge j 0 with h | h
      ·exact HN.out j h
      ·obtain rfl : j = 0 := by omega
       exact HE.out), HB9⟩
    ·have H1 : Hid (encM o rs n = n.drop 0) := qH0 (HENC.out 0 (by omega) HE.out HN.out)
     go_wp2
     go_ret
     exact ⟨_, _, _, rfl, by rw [H1.out]; exact HM.out _ HB9.out, qB0 HB0.out HB9.out⟩
   ·have HC := qH0 (fun (W : World) (hS : W.cell? ⟨B, 0, none⟩ = some (.slice za zn zc) ∧ W.cell? ⟨B, 1, none⟩ = some (.slice v1 m c) ∧ Below w2.heap.size w2 W) => qcF (HZ.out W hS.2.2) (hm.below (HB0.out.trans (hS.2.2.mono HB0.out.size))) HKO'.out)
    have HM := qH0 (fun (W : World) (hb : Below w2.heap.size w2 W) => hm.below (qB0 HB0.out hb))
    clear hm
    go_wp2_with fail
    go_region_held3 (fun W => W.cell? ⟨B, 0, none⟩ = some (.slice za zn zc) ∧ W.cell? ⟨B, 1, none⟩ = some (.slice v1 m c) ∧ Below w2.heap.size w2 W) (first | with_reducible assumption)
     (first | ((with_reducible refine (HC.out _ (by with_reducible assumption)).mono ?_); rintro e w9 ⟨rfl, hb9⟩; have hS9 := KS.out _ _ (by with_reducible assumption) hb9; clear hb9))
    have HB9 := qH0 hS9.2.2
    clear hS9 HC hS0 y0 y1
    obtain ⟨E, hE⟩ : ∃ E, qaq o rs (n.drop k) = E := ⟨_, rfl⟩
    have HE := qH0 hE
    rw [hE]
    clear hE
    cases E
    ·go_wp2
     go_roundw
     case measure => simp [intOf]; omega
     case rel => exact ⟨k + 1, by go_num, by omega, qH0 (fun j hj => by
      rcases Nat.lt_or_ge j k with h | h
      ·exact HN.out j h
      ·obtain rfl : j = k := by omega
       exact HE.out), HB9⟩
    ·have H1 : Hid (encM o rs n = n.drop k) := qH0 (HENC.out k (by omega) HE.out HN.out)
     go_wp2
     go_ret
     exact ⟨_, _, _, rfl, by rw [H1.out]; exact HM.out _ HB9.out, qB0 HB0.out HB9.out⟩
  ·obtain rfl : k = qn + 1 := by omega
   have H1 : Hid (encM o rs n = []) := qH0 (HENN.out HN.out)
   have hltz : ¬ ((qn + 1 : Nat) : Int) ≤ (qn : Int) := by omega
   go_wp2
   go_ret
   exact ⟨none, 0, 0, rfl, by rw [H1.out]; exact nm_nil _, qB0 HB0.out HB.out⟩
theorem qj7 {w : World} {za v1 : Option Addr} {zn zc m c : Nat} {o n : Nm} {rs : List Rc} {vn : Value} (h : ZonS w za zn zc v1 m c o rs) (hO : NmAt w vn n) (hko : NmOK n) (hn1 : n.length < 1048576) :
 Calls Tryz.prog 34 #[.agg #[.slice za zn zc, .slice v1 m c], vn] w (qeJ w (starM o rs n) (qaT o rs n)) := by
 have HC := qH0 (fun (W : World) (hb : Below w.heap.size w W) => qip (h.below hb) (hO.below hb) hko)
 have hE := qey (o := o) (rs := rs) hko
 have hEl := qdH (o := o) (n := n) rs
 have hS : NmOK (starM o rs n) := ⟨by unfold starM; rw [List.length_cons]; omega, fun x hx => by
  unfold starM at hx
  rcases List.mem_cons.1 hx with rfl | hx
  ·decide
  ·exact hE.2 x hx⟩
 obtain ⟨-, -, ⟨css, hA, hR⟩, hOK, hl⟩ := h
 obtain ⟨hln, hx⟩ : css.length = m ∧ m ≤ c := by
  obtain ⟨a', c', e, h1, _⟩ := id hA
  cases e; exact ⟨rfl, h1⟩
 have HST := qH0 (show starM o rs n = [42] :: encM o rs n from rfl)
 have HSO := qH0 (show qaT o rs n = rs.any fun r => sameN r.owner (starM o rs n) from rfl)
 have HE := qH0 hE
 have HA := qH0 hA; have HR := qH0 hR; have HLN := qH0 hln; have HOK := qH0 hOK
 have HDL := qH0 (show rs.length = m by rw [← hR.1]; exact hln)
 obtain ⟨ao, co, rfl, -⟩ := nmAt_sl.1 hO
 generalize (List.map strV n).length = qo at *
 obtain ⟨S, hSS⟩ : ∃ S, starM o rs n = S := ⟨_, rfl⟩
 rw [hSS] at HST HSO hS ⊢
 generalize qaT o rs n = res at *
 have HS := qH0 hS
 have X0 := knew w (.cells #[.slice za zn zc, .slice v1 m c] 60)
 have HB0 := qH0 ((Below.refl w.heap.size w).alloc (qN0) (.cells #[.slice za zn zc, .slice v1 m c] 60))
 obtain ⟨w2, hw2⟩ : ∃ w2, w.alloc (.cells #[.slice za zn zc, .slice v1 m c] 60) = w2 := ⟨_, rfl⟩
 rw [hw2] at X0 HB0
 have HY := qH0 (fun W (hb : Below w2.heap.size w2 W) => And.intro (kcell ((hb.block _ (qaa X0)).trans X0) 0 _ rfl) (kcell ((hb.block _ (qaa X0)).trans X0) 1 _ rfl))
 have hc := HC.out _ HB0.out
 obtain ⟨y0, y1⟩ := HY.out w2 (qL0)
 clear hO hko HC hA hR hOK hln hE hEl hS hSS hn1 X0
 go_enter Tryz.func34, Tryz.ntmps34
 go_wp2_with fail
 clear hw2
 refine hc.mono ?_
 rintro e w3 ⟨a3, k3', c3', rfl, hn3, hb3⟩
 have HB3 := qH0 hb3
 have hc2 := qks ⟨#[42]⟩ (.slice a3 k3' c3') (encM o rs n) S S.length (by rw [HST.out]) rfl w3 hn3 HE.out
 clear hc hn3 hb3 HE y0 y1
 go_wp2_with fail
 refine hc2.mono ?_
 rintro e w4 ⟨a5, c5', rfl, hn4, hb4⟩
 have HB4 := qH0 (qB0 HB3.out hb4)
 have HN4 := qH0 hn4
 obtain ⟨k5', hk5⟩ : ∃ q, S.length = q := ⟨_, rfl⟩
 rw [hk5] at HN4 ⊢
 clear hc2 hn4 hb4 HB3 hk5
 go_wp2
 go_loopw [7] (fun vi wr => ∃ k : Nat, vi = .int .i64 k ∧ k ≤ m ∧ Hid (((rs.take k).any fun r => sameN r.owner S) = false) ∧ Hid (Below w4.heap.size w4 wr)) (fun vi _ => m - (intOf vi).toNat)
 case atStart => exact ⟨0, rfl, Nat.zero_le _, qH0 (by simp), qH0 (qL0)⟩
 case round =>
  obtain ⟨k, rfl, hk, HN, HB⟩ := hrel
  have HBx := qH0 (qB0 HB4.out HB.out)
  obtain ⟨y0, y1⟩ := HY.out wr HBx.out
  by_cases hlt : k < m
  ·have hltz : (k : Int) < (m : Int) := by omega
   have hk1 : k < css.length := by have := HLN.out; omega
   have hk2 : k < rs.length := by have := HDL.out; omega
   obtain ⟨b, off, rfl, hb, hel⟩ := HA.out.elem HR.out.ck (by omega)
   have h0 := HR.out.2 k hk1 hk2
   have hokr := (HOK.out _ (List.getElem_mem hk2)).1
   have hany := qdB (p := fun r => sameN r.owner S) hk2
   obtain ⟨d, hd⟩ : ∃ d, rs[k]'hk2 = d := ⟨_, rfl⟩
   have hdm : d ∈ rs := by rw [← hd]; exact List.getElem_mem _
   rw [hd] at h0 hokr hany
   rw [HN.out, Bool.false_or] at hany
   have hsh := h0.shape
   obtain ⟨⟨p0, q0, k0⟩, ⟨p3, q3, k3⟩, ⟨p4, q4, k4⟩, ⟨p5, q5, k5⟩, ⟨p6, q6, k6⟩, e0⟩ := hsh
   simp only at e0
   have hwr : Below w.heap.size w wr := qB0 HB0.out HBx.out
   obtain ⟨c0', c1', c2', c3, c4, c5, c6⟩ := hel k hk1 _ _ _ _ _ _ _ e0 wr hwr
   have hown0 : NmAt w (.slice p0 q0 k0) d.owner := by
    obtain ⟨_, _, _, _, _, e5, g1, _⟩ := h0
    rw [e0] at e5
    simp only [List.cons.injEq, and_true] at e5
    rw [e5.1]; exact g1
   have hn := qbq (.slice p0 q0 k0) (.slice a5 k5' c5') d.owner S _ rfl _ (hown0.below hwr) (HN4.out.below HB.out) hokr HS.out
   have HANY := qH0 hany; have HDM := qH0 hdm
   clear h0 hd e0 hel hown0 hokr hany hdm hk1 hk2 hwr c1' c2' c3 c4 c5 c6
   go_wp2_with fail
   refine hn.mono ?_
   rintro e w5 ⟨rfl, hb5⟩
   have HB5 := qH0 (qB0 HB.out hb5)
   clear hn hb5 c0' y0 y1
   obtain ⟨q, hq⟩ : ∃ q, sameN d.owner S = q := ⟨_, rfl⟩
   have HQ := qH0 hq
   rw [hq] at HANY ⊢
   clear hq
   cases q
   ·go_wp2
    go_roundw
    case measure => simp [intOf]; omega
    case rel => exact ⟨k + 1, by go_num, by omega, HANY, HB5⟩
   ·have H1 : Hid (res = true) := qH0 (by rw [HSO.out, List.any_eq_true]; exact ⟨d, HDM.out, HQ.out⟩)
    go_wp2
    go_ret2
    exact ⟨a5, _, c5', by rw [H1.out]; rfl, by rw [H1.out, if_pos rfl]; exact HN4.out.below HB5.out, HB0.out.trans ((qB0 HB4.out HB5.out).mono HB0.out.size)⟩
  ·obtain rfl : k = m := by omega
   have hn := HN.out
   rw [List.take_of_length_le (by have := HDL.out; omega)] at hn
   have H1 : Hid (res = false) := qH0 (by rw [HSO.out]; exact hn)
   clear hn
   go_wp2
   go_ret2
   exact ⟨none, 0, 0, by rw [H1.out]; rfl, by rw [H1.out]; exact nm_nil _, qB0 HB0.out HBx.out⟩
end Go.Proofs.YtckammgnmgkieaaGreat
