import Derived.Shelf.SlSortCmp.Insertion
import Derived.Deep.CutBlock
import Derived.Deep.DeepCutAuto
import Derived.Test.YtnpnfajgphpabaaGreatMQ25
namespace Go.Proofs.YtnpnfajgphpabaaGreat
set_option linter.unusedVariables false
set_option linter.unusedSimpArgs false
set_option maxRecDepth 20000
open Go.RowKit Go.Shelf
def nxtM (rs : List Rc) (s : Nat) : Nat := match rs.drop s with
 | [] => s + 1
 | y :: r => s + 1 + (r.takeWhile (sameR y)).length
def segsF : Nat → Nat → List Rc → List (Nat × Nat)
 | 0, _, _ => []
 | f + 1, s, rs => if s < rs.length then (s, nxtM rs s) :: segsF f (nxtM rs s) rs else []
def segs (rs : List Rc) : List (Nat × Nat) := segsF rs.length 0 rs
theorem qaU {p : Rc → Bool} : ∀ (l : List Rc), (l.takeWhile p).length ≤ l.length ∧ (∀ j (hj : j < (l.takeWhile p).length) (h : j < l.length), p l[j] = true) ∧ (∀ h : (l.takeWhile p).length < l.length, p l[(l.takeWhile p).length] = false)
 | [] => ⟨qN0, fun j hj => by simp at hj, fun h => by simp at h⟩
 | x :: r => by
  obtain ⟨h1, h2, h3⟩ := qaU (p := p) r
  by_cases hx : p x = true
  ·have e : (x :: r).takeWhile p = x :: r.takeWhile p := by rw [List.takeWhile_cons, if_pos hx]
   simp only [e, List.length_cons]
   refine ⟨by omega, fun j hj h => ?_, fun h => ?_⟩
   ·cases j with
    | zero => exact hx
    | succ j => exact h2 j (by omega) (by omega)
   ·exact h3 (by omega)
  ·have hx' : p x = false := by simpa using hx
   have e : (x :: r).takeWhile p = [] := by rw [List.takeWhile_cons, if_neg hx]
   simp only [e, List.length_nil, List.length_cons]
   exact ⟨by omega, fun j hj => by omega, fun h => hx'⟩
theorem qdU {rs : List Rc} {s : Nat} (hs : s < rs.length) : nxtM rs s = s + 1 + ((rs.drop (s + 1)).takeWhile (sameR rs[s])).length := by
 unfold nxtM
 rw [List.drop_eq_getElem_cons hs]
theorem qcH {rs : List Rc} {s : Nat} (hs : s < rs.length) : s < nxtM rs s ∧ nxtM rs s ≤ rs.length := by
 rw [qdU hs]
 have := (qaU (p := sameR rs[s]) (rs.drop (s + 1))).1
 rw [List.length_drop] at this
 omega
theorem qjx {rs : List Rc} {s e : Nat} (hs : s < rs.length) (h1 : s + 1 ≤ e) (h2 : e ≤ nxtM rs s) (he : e < rs.length) (hsame : sameR rs[s] rs[e] = true) : e + 1 ≤ nxtM rs s := by
 rw [qdU hs] at h2 ⊢
 obtain ⟨t1, t2, t3⟩ := qaU (p := sameR rs[s]) (rs.drop (s + 1))
 rcases Nat.lt_or_ge e (s + 1 + ((rs.drop (s + 1)).takeWhile (sameR rs[s])).length) with h | h
 ·omega
 ·exfalso
  obtain ⟨j, rfl⟩ : ∃ j, e = s + 1 + j := ⟨e - (s + 1), by omega⟩
  have e1 : ((rs.drop (s + 1)).takeWhile (sameR rs[s])).length = j := by omega
  have := t3 (by rw [List.length_drop]; omega)
  simp only [e1, List.getElem_drop] at this
  rw [hsame] at this; cases this
theorem qfT {rs : List Rc} {s e : Nat} (hs : s < rs.length) (h1 : s + 1 ≤ e) (h2 : e ≤ nxtM rs s) (h : e = rs.length ∨ ∃ he : e < rs.length, sameR rs[s] rs[e] = false) : e = nxtM rs s := by
 have hn := qcH hs
 rcases h with h | ⟨he, h⟩
 ·omega
 ·rcases Nat.lt_or_ge e (nxtM rs s) with h3 | h3
  ·exfalso
   rw [qdU hs] at h3
   obtain ⟨t1, t2, t3⟩ := qaU (p := sameR rs[s]) (rs.drop (s + 1))
   obtain ⟨j, rfl⟩ : ∃ j, e = s + 1 + j := ⟨e - (s + 1), by omega⟩
   have := t2 j (by omega) (by rw [List.length_drop]; omega)
   simp only [List.getElem_drop] at this
   rw [h] at this; cases this
  ·omega
theorem qc3 (rs : List Rc) : ∀ (f s : Nat), rs.length - s ≤ f → segsF f s rs = segsF (rs.length - s) s rs
 | 0, s, h => by rw [show rs.length - s = 0 by omega]
 | f + 1, s, h => by
  by_cases hs : s < rs.length
  ·have hn := qcH hs
   obtain ⟨m, hm⟩ : ∃ m, rs.length - s = m + 1 := ⟨rs.length - s - 1, by omega⟩
   rw [hm]
   simp only [segsF, if_pos hs]
   rw [qc3 rs f (nxtM rs s) (by omega), qc3 rs m (nxtM rs s) (by omega)]
  ·rw [show rs.length - s = 0 by omega]
   simp only [segsF, if_neg hs]
def leftM (rs : List Rc) (s : Nat) : List (Nat × Nat) := segsF (rs.length - s) s rs
theorem qig (rs : List Rc) : leftM rs 0 = segs rs := rfl
theorem qfQ (rs : List Rc) {s : Nat} (h : rs.length ≤ s) : leftM rs s = [] := by unfold leftM; rw [show rs.length - s = 0 by omega]; rfl
theorem qc7 {rs : List Rc} {s : Nat} (hs : s < rs.length) : leftM rs s = (s, nxtM rs s) :: leftM rs (nxtM rs s) := by
 have hn := qcH hs
 obtain ⟨m, hm⟩ : ∃ m, rs.length - s = m + 1 := ⟨rs.length - s - 1, by omega⟩
 unfold leftM
 rw [hm]
 simp only [segsF, if_pos hs]
 rw [qc3 rs m (nxtM rs s) (by omega)]
def runR (rs : List Rc) (x : Nat × Nat) : Rc := match rs.drop x.1 with
 | [] => Rc.mk [] 0 ⟨0, [], [], [], []⟩
 | y :: r => ⟨y.owner, leastM y.ttl (r.take (x.2 - x.1 - 1)), y.data⟩
theorem qbV (p : Rc → Bool) : ∀ l : List Rc, l.take (l.takeWhile p).length = l.takeWhile p ∧ l.drop (l.takeWhile p).length = l.dropWhile p
 | [] => ⟨rfl, rfl⟩
 | x :: r => by
  have ih := qbV p r
  by_cases hx : p x = true
  ·simp only [List.takeWhile_cons, List.dropWhile_cons, hx, if_true, List.length_cons, List.take_succ_cons, List.drop_succ_cons, ih.1, ih.2]
   exact ⟨trivial, trivial⟩
  ·simp only [List.takeWhile_cons, List.dropWhile_cons, hx, Bool.false_eq_true, if_false, List.length_nil, List.take_zero, List.drop_zero]
   exact ⟨trivial, trivial⟩
theorem qfF (rs : List Rc) : ∀ (n s : Nat), rs.length - s ≤ n → (leftM rs s).map (runR rs) = grp (rs.drop s)
 | n, s, h => by
  by_cases hs : s < rs.length
  ·have hn := qcH hs
   have e1 := qdU hs
   obtain ⟨t1, t2⟩ := qbV (sameR rs[s]) (rs.drop (s + 1))
   rw [qc7 hs, List.map_cons, List.drop_eq_getElem_cons hs, qbC]
   have ed : (rs.drop (s + 1)).dropWhile (sameR rs[s]) = rs.drop (nxtM rs s) := by rw [← t2, List.drop_drop, e1]
   have er : runR rs (s, nxtM rs s) = ⟨rs[s].owner, leastM rs[s].ttl ((rs.drop (s + 1)).takeWhile (sameR rs[s])), rs[s].data⟩ := by
    unfold runR
    simp only [List.drop_eq_getElem_cons hs]
    rw [← t1, show nxtM rs s - s - 1 = ((rs.drop (s + 1)).takeWhile (sameR rs[s])).length by omega]
   rw [er, ed]
   cases n with
   | zero => omega
   | succ n => rw [qfF rs n (nxtM rs s) (by omega)]
  ·rw [qfQ rs (by omega), List.drop_of_length_le (by omega)]
   rfl
theorem qky (rs : List Rc) : (segs rs).map (runR rs) = grp rs := by rw [← qig, qfF rs rs.length 0 (by omega)]; rfl
end Go.Proofs.YtnpnfajgphpabaaGreat
namespace Go.Proofs.YtnpnfajgphpabaaGreat
set_option linter.unusedVariables false
set_option linter.unusedSimpArgs false
set_option maxRecDepth 1000000
set_option maxHeartbeats 4000000
set_option linter.unusedSectionVars false
open Go.RowKit Go.Shelf Go.Sort Go.Lib
variable {P : Program} {α : Type} [Inhabited α]
def qfc (enc : α → List Value) (k : Nat) (w : World) (blk off : Nat) (d : Array α) (a m b : Nat) (e : Ending) (w' : World) : Prop :=
 e = .returned (.tuple #[]) ∧ ∃ d' : Array α, d'.size = d.size ∧ (∀ x, x < d.size → d'[x]! = Stb.rot a m b (fun i => d[i]!) x) ∧ PermIn a b d d' ∧ SW enc k w blk off d' w'
structure RotAt (enc : α → List Value) (k : Nat) (w : World) (blk off : Nat) (d : Array α) (a m b i j : Nat) (dk : Array α) (W : World) : Prop where
 size : dk.size = d.size
 at_ : ∀ x, x < d.size → Stb.rot (m - i) m (m + j) (fun i => dk[i]!) x = Stb.rot a m b (fun i => d[i]!) x
 perm : PermIn a b d dk
 sw : SW enc k w blk off dk W
theorem RotAt.step {enc : α → List Value} {k : Nat} {w : World} {blk off : Nat} {d : Array α} {a m b i j : Nat} {dk : Array α} {W W' : World} (h : RotAt enc k w blk off d a m b i j dk W) {p q n i' j' : Nat} {d' : Array α}
 (hs : d'.size = dk.size) (hd : ∀ x, x < dk.size → d'[x]! = Stb.swr p q n (fun i => dk[i]!) x) (hp : PermIn p (q + n) dk d') (hw : SW enc k W blk off d' W') (hap : a ≤ p) (hqb : q + n ≤ b) (hb : b ≤ d.size) (hj : j' ≤ b - m) (him : i' ≤ m)
 (hr : ∀ x, Stb.rot (m - i') m (m + j') (Stb.swr p q n (fun i => dk[i]!)) x = Stb.rot (m - i) m (m + j) (fun i => dk[i]!) x) (hmb : m ≤ b) : RotAt enc k w blk off d a m b i' j' d' W' := by
 have hsz := h.size
 refine ⟨hs.trans hsz, fun x hx => ?_, permIn_trans _ _ _ a b h.perm (permIn_mono _ _ p (q + n) a b hap hqb (by omega) hp), h.sw.trans hw⟩
 rw [Stb.rot_congr (n := d.size) (f := fun i => d'[i]!) (g := Stb.swr p q n (fun i => dk[i]!)) (by omega) (by omega) (by omega) (fun y hy => hd y (by omega)) x hx, hr, h.at_ x hx]
theorem qcB {k : Nat} (L : SLay P k) (hF : P.funcs[125]? = some Tryz.f125) (hFs : P.funcs[130]? = some Tryz.f130)
 (e100 : ∀ args w, (callFunc 130 args).run P w = .ok (.enter 130 args) w) (enc : α → List Value) (hk : ∀ x, (enc x).length = k) (h1 : ∀ x, ∀ v ∈ enc x, v.oneCell' = true)
 (blk off cap a m b : Nat) (d : Array α) (fv : Value) (w : World) (hH : HoldsK enc k w blk off d) (hlt : blk < w.heap.size) (ham : a < m) (hmb : m < b) (hb : b ≤ d.size) (hsz : d.size < 4611686018427387904) :
 Calls P 125 #[.slice (some ⟨blk, off, none⟩) d.size cap, .int .i64 a, .int .i64 m, .int .i64 b, fv] w (qfc enc k w blk off d a m b) := by
 have mixed := L.mixed; have t0 := L.t0; have a0 := L.a0; have z0 := L.z0; have v0 := L.v0; have t3 := L.t3; have a3 := L.a3; have z3 := L.z3; have v3 := L.v3; have t4 := L.t4; have a4 := L.a4; have z4 := L.z4; have v4 := L.v4; have t85 := L.t85; have a85 := L.a85; have z85 := L.z85; have v85 := L.v85; have t43 := L.t43; have a43 := L.a43; have z43 := L.z43; have v43 := L.v43; have t69 := L.t69; have a69 := L.a69; have z69 := L.z69; have v69 := L.v69; have aE := L.aE; have zE := L.zE
 have u43 := run_underlying L.t43
 have HC := qH0 (fun (W : World) (dk : Array α) (p q n : Nat) (hs : dk.size = d.size) (hW : SW enc k w blk off dk W) (h1' : p + n ≤ q) (h2 : q + n ≤ d.size) => hs ▸ qbR L hFs enc hk h1 blk off cap p q n dk fv W hW.row hW.lt' h1' (by omega) (by omega))
 have HS0 : Hid (RotAt enc k w blk off d a m b (m - a) (b - m) d w) := qH0 ⟨rfl, fun x _ => by rw [show m - (m - a) = a by omega, show m + (b - m) = b by omega], permIn_refl d a _, SW.refl hH hlt⟩
 clear hH hlt hk h1
 have c1 : (m : Int) - (a : Int) = ((m - a : Nat) : Int) := by omega
 have c2 : (b : Int) - (m : Int) = ((b - m : Nat) : Int) := by omega
 have C1 := qH0 c1; have C2 := qH0 c2
 clear c1 c2
 go_enter hF, Tryz.ntmps125
 go_wp2
 go_loopw [10, 11] (fun vi vj wr => ∃ (i j : Nat) (dk : Array α), vi = .int .i64 i ∧ vj = .int .i64 j ∧ 0 < i ∧ 0 < j ∧ i ≤ m - a ∧ j ≤ b - m ∧ Hid (RotAt enc k w blk off d a m b i j dk wr)) (fun vi vj _ => (intOf vi).toNat + (intOf vj).toNat)
 case atStart => exact ⟨m - a, b - m, d, by rw [C1.out], by rw [C2.out], by omega, by omega, qN0, qN0, HS0⟩
 case round =>
  obtain ⟨i, j, dk, rfl, rfl, hi0, hj0, hi, hj, HS⟩ := hrel
  have hsk := HS.out.size
  have SK := qH0 hsk
  clear hsk
  rcases Nat.lt_trichotomy i j with hij | hij | hij
  ·have hne : ¬ (i : Int) = (j : Int) := by omega
   have hgt : ¬ (j : Int) < (i : Int) := by omega
   have hc := HC.out wr dk (m - i) (m + j - i) i SK.out HS.out.sw (by omega) (by omega)
   have e1 : ((m - i : Nat) : Int) = (m : Int) - (i : Int) := by omega
   have e2 : ((m + j - i : Nat) : Int) = (m : Int) + (j : Int) - (i : Int) := by omega
   rw [e1, e2] at hc
   clear e1 e2
   go_wp2_with (go_at_fn 130; refine hc.mono ?_; rintro e w' ⟨rfl, d', g1, g2, g3, g4⟩)
   have HN : Hid (RotAt enc k w blk off d a m b i (j - i) d' w') := qH0 (HS.out.step g1 g2 g3 g4 (by omega) (by omega) hb (by omega) (by omega) (fun x => Stb.rot_lt _ (by omega) hij x) (by omega))
   clear g1 g2 g3 g4 hc
   go_roundw
   case measure => simp [intOf]; omega
   case rel => exact ⟨i, j - i, d', rfl, by (congr 1; omega), hi0, by omega, hi, by omega, HN⟩
  ·subst hij
   have hc := HC.out wr dk (m - i) m i SK.out HS.out.sw (by omega) (by omega)
   have e1 : ((m - i : Nat) : Int) = (m : Int) - (i : Int) := by omega
   rw [e1] at hc
   clear e1
   go_wp2_with (go_at_fn 130; refine hc.mono ?_; rintro e w' ⟨rfl, d', g1, g2, g3, g4⟩)
   go_end0
   have h := HS.out
   have hs := SK.out
   refine ⟨rfl, d', g1.trans hs, fun x hx => ?_, permIn_trans _ _ _ a b h.perm (permIn_mono _ _ (m - i) (m + i) a b (by omega) (by omega) (by omega) g3), h.sw.trans g4⟩
   rw [g2 x (by omega), Stb.rot_eq _ (by omega), h.at_ x hx]
  ·have hne : ¬ (i : Int) = (j : Int) := by omega
   have hgt : (j : Int) < (i : Int) := by omega
   have hc := HC.out wr dk (m - i) m j SK.out HS.out.sw (by omega) (by omega)
   have e1 : ((m - i : Nat) : Int) = (m : Int) - (i : Int) := by omega
   rw [e1] at hc
   clear e1
   go_wp2_with (go_at_fn 130; refine hc.mono ?_; rintro e w' ⟨rfl, d', g1, g2, g3, g4⟩)
   have HN : Hid (RotAt enc k w blk off d a m b (i - j) j d' w') := qH0 (HS.out.step g1 g2 g3 g4 (by omega) (by omega) hb (by omega) (by omega) (fun x => Stb.rot_gt _ (by omega) hij x) (by omega))
   clear g1 g2 g3 g4 hc
   go_roundw
   case measure => simp [intOf]; omega
   case rel => exact ⟨i - j, j, d', by (congr 1; omega), rfl, by omega, hj0, by omega, hj, HN⟩
end Go.Proofs.YtnpnfajgphpabaaGreat
namespace Go.Proofs.YtnpnfajgphpabaaGreat
set_option linter.unusedVariables false
set_option linter.unusedSimpArgs false
set_option maxRecDepth 1000000
set_option maxHeartbeats 4000000
set_option linter.unusedSectionVars false
open Go.RowKit Go.Shelf Go.Sort Go.Lib
variable {P : Program} {α : Type} [Inhabited α]
structure CmpB (P : Program) (g : Nat) (cb : Array Value) (enc : α → List Value) (cf : α → α → Int) (w : World) (blk : Nat) : Prop where
 eg : ∀ args w, (callFunc g args).run P w = .ok (.enter g args) w
 call : ∀ W, w.grownBy W (some blk) → ∀ x y : α, Calls P g (#[.agg (enc x).toArray, .agg (enc y).toArray] ++ cb) W fun e w' => e = .returned (.int .i64 (cf x y)) ∧ Below W.heap.size W w'
theorem CmpB.cls {g : Nat} {cb : Array Value} {enc : α → List Value} {k : Nat} {cf : α → α → Int} {w : World} {blk off : Nat} (h : CmpB P g cb enc cf w blk) (dk : Array α) (p : WIn (fun W => SW enc k w blk off dk W)) (x y : α) :
 Calls P g (#[.agg (enc x).toArray, .agg (enc y).toArray] ++ cb) p.w fun e w'' => e = .returned (.int .i64 (cf x y)) ∧ ∃ q : WIn (fun W => SW enc k w blk off dk W), w'' = q.w :=
 Calls.cls ((h.call p.w p.ok.rest x y).mono fun _ _ ⟨he, hb⟩ => ⟨he, p.ok.below hb⟩)
theorem CmpB.later {g : Nat} {cb : Array Value} {enc : α → List Value} {cf : α → α → Int} {w W : World} {blk : Nat} (h : CmpB P g cb enc cf w blk) (hg : w.grownBy W (some blk)) : CmpB P g cb enc cf W blk :=
 ⟨h.eg, fun W' hW => h.call W' (qat hg hW)⟩
def qcM (enc : α → List Value) (k : Nat) (cf : α → α → Int) (w : World) (blk off : Nat) (d : Array α) (a b : Nat) (e : Ending) (w' : World) : Prop :=
 e = .returned (.tuple #[]) ∧ SW enc k w blk off (insertionSort (Stb.lb cf) d a b) w'
theorem qbT {k : Nat} (L : SLay P k) (hF : P.funcs[117]? = some Tryz.f117) (enc : α → List Value) (hk : ∀ x, (enc x).length = k) (h1 : ∀ x, ∀ v ∈ enc x, v.oneCell' = true) (cf : α → α → Int) (g : Nat) (cb : Array Value)
 (blk off cap a b : Nat) (d : Array α) (w : World) (hcmp : CmpB P g cb enc cf w blk) (hH : HoldsK enc k w blk off d) (hblk : blk < w.heap.size) (hab : a ≤ b) (hb : b ≤ d.size) (hsz : d.size < 4611686018427387904) :
 Calls P 117 #[.slice (some ⟨blk, off, none⟩) d.size cap, .int .i64 a, .int .i64 b, .func (.func g) #[] cb] w (qcM enc k cf w blk off d a b) := by
 have mixed := L.mixed; have t0 := L.t0; have a0 := L.a0; have z0 := L.z0; have v0 := L.v0; have t3 := L.t3; have a3 := L.a3; have z3 := L.z3; have v3 := L.v3; have t4 := L.t4; have a4 := L.a4; have z4 := L.z4; have v4 := L.v4; have t85 := L.t85; have a85 := L.a85; have z85 := L.z85; have v85 := L.v85; have t43 := L.t43; have a43 := L.a43; have z43 := L.z43; have v43 := L.v43; have t69 := L.t69; have a69 := L.a69; have z69 := L.z69; have v69 := L.v69; have aE := L.aE; have zE := L.zE
 have u43 := run_underlying L.t43
 have HC := qH0 hcmp
 have eg := hcmp.eg
 have HK := qH0 hk; have H1 := qH0 h1
 have HST : Hid (SW enc k w blk off d w) := qH0 (SW.refl hH hblk)
 clear hcmp hH hk h1 hblk
 go_enter hF, Tryz.ntmps117
 go_wp2
 go_loopg [8] (b - a) (fun g1 vi wr => ∃ (i : Nat) (dk : Array α), vi = .int .i64 i ∧ a < i ∧ i ≤ b + 1 ∧ b + 1 - i ≤ g1 + 1 ∧ dk.size = d.size ∧ Hid (SW enc k w blk off dk wr) ∧ Hid (insOuter (Stb.lb cf) a b i dk = insOuter (Stb.lb cf) a b (a + 1) d))
 case atStart => exact ⟨a + 1, d, by go_num, by omega, by omega, by omega, rfl, HST, qH0 rfl⟩
 case round =>
  obtain ⟨i, dk, rfl, hai, hib, hg1, hsk, HW, HO⟩ := hrel
  by_cases hlt : i < b
  ·have hltz : (i : Int) < (b : Int) := by omega
   go_wp2
   go_loopg [9] i (fun g2 vj wr2 => ∃ (j : Nat) (dj : Array α), vj = .int .i64 j ∧ a ≤ j ∧ j ≤ i ∧ j ≤ g2 ∧ dj.size = d.size ∧ Hid (SW enc k w blk off dj wr2) ∧ Hid (insInner (Stb.lb cf) a j dj = insInner (Stb.lb cf) a i dk))
   case atStart => exact ⟨i, dk, rfl, by omega, qN0, qN0, hsk, HW, qH0 rfl⟩
   case round =>
    obtain ⟨j, dj, rfl, haj, hji, hg2, hsj, HWj, HI⟩ := hrel
    have OUT : Hid ((j ≤ a ∨ Stb.lb cf dj[j]! dj[j - 1]! = false) → insOuter (Stb.lb cf) a b (i + 1) dj = insOuter (Stb.lb cf) a b (a + 1) d) := qH0 fun hs => by
     rw [← HO.out, insOuter_go _ _ _ _ _ hlt, ← HI.out, insInner_stop _ _ _ _ hs]
    by_cases hja : a < j
    ·have hjaz : (a : Int) < (j : Int) := by omega
     obtain ⟨jp, rfl⟩ : ∃ jp, j = jp + 1 := ⟨j - 1, by omega⟩
     obtain ⟨xj, hxj⟩ : ∃ x, dj[jp + 1]! = x := ⟨_, rfl⟩
     obtain ⟨xp, hxp⟩ : ∃ x, dj[jp]! = x := ⟨_, rfl⟩
     have hwp : IntKind.i64.wrap (jp : Int) = (jp : Int) := by rw [IntKind.wrap_i64]; omega
     have jz : (jp : Int) + 1 < (d.size : Int) := by omega
     have jz1 : (jp : Int) < (d.size : Int) := by omega
     have hjaz' : (a : Int) < (jp : Int) + 1 := by omega
     have p0 : (0 : Int) ≤ (jp : Int) + 1 := by omega
     have e0 : ((jp : Int) + 1).toNat = jp + 1 := by omega
     have lj : ∀ p : WIn (fun W => SW enc k w blk off dj W), Sem.run P (loadCellsFrom ⟨blk, off + (jp + 1) * k, none⟩ 0 k #[]) p.w = .ok (enc xj).toArray p.w := fun p => by
      rw [← hxj]; exact p.ok.load P HK.out (jp + 1) (by omega)
     have lp : ∀ p : WIn (fun W => SW enc k w blk off dj W), Sem.run P (loadCellsFrom ⟨blk, off + jp * k, none⟩ 0 k #[]) p.w = .ok (enc xp).toArray p.w := fun p => by
      rw [← hxp]; exact p.ok.load P HK.out jp (by omega)
     have hne : Nonempty (WIn (fun W => SW enc k w blk off dj W)) := ⟨⟨_, HWj.out.drew⟩⟩
     have hcg := fun p : WIn (fun W => SW enc k w blk off dj W) => HC.out.cls dj p xj xp
     by_cases hlv : cf xj xp < 0
     ·go_wp2_with fail
      refine qad (fun W => SW enc k w blk off dj W) mixed (by kernel_rfl) HWj.out.drew ?_
      repeat (quiet_step (first | (go_at_fn g; exact hcg _)))
      refine wpQuiet_nil ?_
      rintro _ ⟨p, rfl⟩
      go_wp2_with fail
      have hD := p.ok.drew
      have lj2 := hD.load P HK.out (jp + 1) (by omega)
      have lp2 := hD.load P HK.out jp (by omega)
      have s1 := hD.store1 P HK.out H1.out (jp + 1) (by omega) xp
      have s2 := hD.store2 P HK.out H1.out (jp + 1) jp (by omega) (by omega) xp xj
      rw [hxj] at lj2
      rw [hxp] at lp2
      have hsJ : (enc xj).length = k := HK.out _
      have hsP : (enc xp).length = k := HK.out _
      have HN : Hid (SW enc k w blk off (swp dj (jp + 1) jp) ((p.w.drew.setCells blk (off + (jp + 1) * k) (enc xp)).setCells blk (off + jp * k) (enc xj))) := by
       have := hD.swap HK.out (jp + 1) jp (by omega) (by omega)
       rw [hxj, hxp] at this
       exact qH0 this
      have HNI : Hid (insInner (Stb.lb cf) a jp (swp dj (jp + 1) jp) = insInner (Stb.lb cf) a i dk) := by
       have := insInner_go (Stb.lb cf) a (jp + 1) dj hja (by simp only [Nat.add_sub_cancel]; rw [hxj, hxp]; exact decide_eq_true hlv)
       simp only [Nat.add_sub_cancel] at this
       exact qH0 (by rw [← HI.out, this])
      obtain ⟨cJ, hcJ⟩ : ∃ c, c = enc xj := ⟨_, rfl⟩
      obtain ⟨cP, hcP⟩ : ∃ c, c = enc xp := ⟨_, rfl⟩
      rw [← hcP] at s1 lp2 hsP
      rw [← hcJ] at lj2 hsJ
      rw [← hcJ, ← hcP] at s2 HN
      clear hcJ hcP lj lp hcg hD hxj hxp
      generalize p.w = wq2 at *
      go_big_region_o
      all_goals go_wp2
      go_roundg jp
      case measure => omega
      case rel => exact ⟨jp, swp dj (jp + 1) jp, by first | rfl | go_num | (congr 1; omega), by omega, by omega, qN0, by rw [size_swp]; exact hsj, HN, HNI⟩
     ·-- not less: out of the inner loop
      go_wp2_with fail
      refine qad (fun W => SW enc k w blk off dj W) mixed (by kernel_rfl) HWj.out.drew ?_
      repeat (quiet_step (first | (go_at_fn g; exact hcg _)))
      refine wpQuiet_nil ?_
      rintro _ ⟨p, rfl⟩
      go_wp2
      go_roundg (b - (i + 1))
      case measure => omega
      case rel => exact ⟨i + 1, dj, by go_num, by omega, by omega, by omega, hsj, qH0 p.ok, qH0 (OUT.out (Or.inr (by simp only [Nat.add_sub_cancel]; rw [hxj, hxp]; exact decide_eq_false (by omega))))⟩
    ·-- j = a: out of the inner loop (the guard is false: 'cmp' is not called)
     have hjaz : decide ((j : Int) > (a : Int)) = false := decide_eq_false (by omega)
     have hjaz' : ¬ (a : Int) < (j : Int) := by omega
     go_wp2_with fail
     go_big_region_o
     all_goals go_wp2
     go_roundg (b - (i + 1))
     case measure => omega
     case rel => exact ⟨i + 1, dj, by go_num, by omega, by omega, by omega, hsj, qH0 HWj.out.drew, qH0 (OUT.out (Or.inl (by omega)))⟩
  ·have hltz : ¬ (i : Int) < (b : Int) := by omega
   go_wp2
   go_end0
   refine ⟨rfl, ?_⟩
   have h := HW.out
   unfold Sort.insertionSort
   rw [← HO.out, insOuter_stop _ _ _ _ _ hlt]
   exact h
end Go.Proofs.YtnpnfajgphpabaaGreat
namespace Go.Proofs.YtnpnfajgphpabaaGreat
set_option linter.unusedVariables false
set_option linter.unusedSimpArgs false
set_option maxRecDepth 1000000
set_option maxHeartbeats 8000000
set_option linter.unusedSectionVars false
open Go.RowKit Go.Shelf Go.Sort Go.Lib
variable {P : Program} {α : Type} [Inhabited α]
def qaQ (enc : α → List Value) (k : Nat) (cf : α → α → Int) (tg : α → Nat) (w : World) (blk off : Nat) (d : Array α) (a b : Nat) (e : Ending) (w' : World) : Prop :=
 e = .returned (.tuple #[]) ∧ ∃ d' : Array α, PermIn a b d d' ∧ Stb.Rise cf tg a b d' ∧ SW enc k w blk off d' w'
structure One1 (cf : α → α → Int) (a b i j : Nat) (d : Array α) : Prop where
 lo : i = a + 1 ∨ cf d[i - 1]! d[a]! < 0
 hi : j = b ∨ ¬ cf d[j]! d[a]! < 0
structure Shu (enc : α → List Value) (k : Nat) (w : World) (blk off : Nat) (d : Array α) (a q m : Nat) (dk : Array α) (W : World) : Prop where
 size : dk.size = d.size
 at_ : ∀ x, x < d.size → dk[x]! = Stb.shu a q (fun i => d[i]!) x
 perm : PermIn a m d dk
 sw : SW enc k w blk off dk W
theorem qcp {k : Nat} (L : SLay P k) (hF : P.funcs[118]? = some Tryz.f118) (enc : α → List Value) (hk : ∀ x, (enc x).length = k) (h1 : ∀ x, ∀ v ∈ enc x, v.oneCell' = true) (cf : α → α → Int) (tg : α → Nat) (hO : Stb.COrd cf) (g : Nat) (cb : Array Value)
 (blk off cap a m b : Nat) (hm : m = a + 1) (d : Array α) (w : World) (hcmp : CmpB P g cb enc cf w blk) (hH : HoldsK enc k w blk off d) (hblk : blk < w.heap.size) (hM : Stb.Mrg cf tg a m b d) (hsz : d.size < 4611686018427387904) :
 Calls P 118 #[.slice (some ⟨blk, off, none⟩) d.size cap, .int .i64 a, .int .i64 m, .int .i64 b, .func (.func g) #[] cb] w (qaQ enc k cf tg w blk off d a b) := by
 have mixed := L.mixed; have t0 := L.t0; have a0 := L.a0; have z0 := L.z0; have v0 := L.v0; have t3 := L.t3; have a3 := L.a3; have z3 := L.z3; have v3 := L.v3; have t4 := L.t4; have a4 := L.a4; have z4 := L.z4; have v4 := L.v4; have t85 := L.t85; have a85 := L.a85; have z85 := L.z85; have v85 := L.v85; have t43 := L.t43; have a43 := L.a43; have z43 := L.z43; have v43 := L.v43; have t69 := L.t69; have a69 := L.a69; have z69 := L.z69; have v69 := L.v69; have aE := L.aE; have zE := L.zE
 have u43 := run_underlying L.t43
 have hm1 : m ≤ a + 1 := by omega
 have hm2 : a + 1 ≤ m := by omega
 have HMM := qH0 hm
 have hmb : m < b := hM.mb
 have hb : b ≤ d.size := hM.bs
 have HM := qH0 hM
 have HC := qH0 hcmp
 have eg := hcmp.eg
 have HK := qH0 hk; have H1 := qH0 h1
 have HST : Hid (SW enc k w blk off d w) := qH0 (SW.refl hH hblk)
 have c1 : ((m : Int) - (a : Int)) = 1 := by omega
 clear hcmp hH hk h1 hblk hM hm
 obtain ⟨xa, hxa⟩ : ∃ x, d[a]! = x := ⟨_, rfl⟩
 have HXA := qH0 hxa
 clear hxa
 go_enter hF, Tryz.ntmps118
 go_wp2
 go_loopw [10, 11] (fun vi vj wr => ∃ (i j : Nat), vi = .int .i64 i ∧ vj = .int .i64 j ∧ a + 1 ≤ i ∧ i ≤ j ∧ j ≤ b ∧ Hid (One1 cf a b i j d) ∧ Hid (SW enc k w blk off d wr)) (fun vi vj _ => (intOf vj).toNat - (intOf vi).toNat)
 case atStart => exact ⟨m, b, rfl, rfl, by omega, by omega, qN0, qH0 ⟨Or.inl HMM.out, Or.inl rfl⟩, HST⟩
 case round =>
  obtain ⟨i, j, rfl, rfl, hi, hij, hjb, HP, HW⟩ := hrel
  by_cases hlt : i < j
  ·have hltz : (i : Int) < (j : Int) := by omega
   obtain ⟨h, hh⟩ : ∃ h : Nat, (i + j) / 2 = h := ⟨_, rfl⟩
   have hhz : ((i : Int) + (j : Int)) / 2 = (h : Int) := by omega
   have h1 : i ≤ h := by omega
   have h2 : h < j := by omega
   have h3 : (h : Int) < (d.size : Int) := by omega
   have h4 : (a : Int) < (d.size : Int) := by omega
   clear hh
   obtain ⟨xh, hxh⟩ : ∃ x, d[h]! = x := ⟨_, rfl⟩
   have lh : ∀ p : WIn (fun W => SW enc k w blk off d W), Sem.run P (loadCellsFrom ⟨blk, off + h * k, none⟩ 0 k #[]) p.w = .ok (enc xh).toArray p.w := fun p => by
    rw [← hxh]; exact p.ok.load P HK.out h (by omega)
   have la : ∀ p : WIn (fun W => SW enc k w blk off d W), Sem.run P (loadCellsFrom ⟨blk, off + a * k, none⟩ 0 k #[]) p.w = .ok (enc xa).toArray p.w := fun p => by
    rw [← HXA.out]; exact p.ok.load P HK.out a (by omega)
   have hne : Nonempty (WIn (fun W => SW enc k w blk off d W)) := ⟨⟨_, HW.out.drew⟩⟩
   have hcg := fun p : WIn (fun W => SW enc k w blk off d W) => HC.out.cls d p xh xa
   have HXH := qH0 hxh
   clear hxh
   by_cases hlv : cf xh xa < 0
   ·have HN : Hid (One1 cf a b (h + 1) j d) := qH0 ⟨Or.inr (by rw [Nat.add_sub_cancel, HXH.out, HXA.out]; exact hlv), HP.out.hi⟩
    go_wp2_with fail
    refine qad (fun W => SW enc k w blk off d W) mixed (by kernel_rfl) HW.out.drew ?_
    repeat (quiet_step (first | (go_at_fn g; exact hcg _)))
    refine wpQuiet_nil ?_
    rintro _ ⟨p, rfl⟩
    go_wp2
    go_roundw
    case measure => simp [intOf]; omega
    case rel => exact ⟨h + 1, j, by go_num, rfl, by omega, by omega, hjb, HN, qH0 p.ok⟩
   ·have HN : Hid (One1 cf a b i h d) := qH0 ⟨HP.out.lo, Or.inr (by rw [HXH.out, HXA.out]; exact hlv)⟩
    go_wp2_with fail
    refine qad (fun W => SW enc k w blk off d W) mixed (by kernel_rfl) HW.out.drew ?_
    repeat (quiet_step (first | (go_at_fn g; exact hcg _)))
    refine wpQuiet_nil ?_
    rintro _ ⟨p, rfl⟩
    go_wp2
    go_roundw
    case measure => simp [intOf]; omega
    case rel => exact ⟨i, h, rfl, rfl, by omega, by omega, by omega, HN, qH0 p.ok⟩
  ·obtain rfl : i = j := by omega
   have HS0 : Hid (Shu enc k w blk off d a a b d wr) := qH0 ⟨rfl, fun x _ => (Stb.shu_zero a _ x).symm, permIn_refl d a _, HW.out⟩
   clear HW hlt hij
   rename World => wo
   go_wp2
   go_loopw [13] (fun vq wr => ∃ (q : Nat) (dk : Array α), vq = .int .i64 q ∧ a ≤ q ∧ q ≤ i - 1 ∧ Hid (Shu enc k w blk off d a q b dk wr)) (fun vq _ => i - 1 - (intOf vq).toNat)
   case atStart => exact ⟨a, d, rfl, qN0, by omega, HS0⟩
   case round =>
    obtain ⟨q, dk, rfl, hq, hqi, HS⟩ := hrel
    by_cases hlt : q < i - 1
    ·have hltz : (q : Int) < (i : Int) - 1 := by omega
     obtain ⟨x0, hx0⟩ : ∃ x, dk[q]! = x := ⟨_, rfl⟩
     obtain ⟨x1, hx1⟩ : ∃ x, dk[q + 1]! = x := ⟨_, rfl⟩
     have hsk := HS.out.size
     have hD := HS.out.sw.drew
     have l0 := hD.load P HK.out q (by omega)
     have l1 := hD.load P HK.out (q + 1) (by omega)
     have s1 := hD.store1 P HK.out H1.out q (by omega) x1
     have s2 := hD.store2 P HK.out H1.out q (q + 1) (by omega) (by omega) x1 x0
     rw [hx0] at l0
     rw [hx1] at l1
     have hs0 : (enc x0).length = k := HK.out _
     have hs1 : (enc x1).length = k := HK.out _
     have HN : Hid (Shu enc k w blk off d a (q + 1) b (swp dk q (q + 1)) ((wr.drew.setCells blk (off + q * k) (enc x1)).setCells blk (off + (q + 1) * k) (enc x0))) := by
      have h := HS.out
      refine qH0 ⟨by rw [size_swp]; exact hsk, Stb.shu_step hq (by omega) hsk h.at_, permIn_trans _ _ _ a b h.perm (swp_permIn dk a b q (q + 1) hq (by omega) (by omega) (by omega) (by omega)), ?_⟩
      have := hD.swap HK.out q (q + 1) (by omega) (by omega)
      rwa [hx0, hx1] at this
     obtain ⟨ca, hca⟩ : ∃ c, c = enc x0 := ⟨_, rfl⟩
     obtain ⟨cb, hcb⟩ : ∃ c, c = enc x1 := ⟨_, rfl⟩
     rw [← hca] at l0 hs0
     rw [← hcb] at l1 hs1 s1
     rw [← hca, ← hcb] at s2 HN
     have ja : (q : Int) < (d.size : Int) := by omega
     have jb : (q : Int) + 1 < (d.size : Int) := by omega
     have pb : (0 : Int) ≤ (q : Int) + 1 := by omega
     have eb : ((q : Int) + 1).toNat = q + 1 := by omega
     clear hca hcb hD hsk hx0 hx1
     go_wp2_with fail
     go_big_region_o
     all_goals go_wp2
     go_roundw
     case measure => simp [intOf]; omega
     case rel => exact ⟨q + 1, _, by go_num, by omega, by omega, HN⟩
    ·obtain rfl : q = i - 1 := by omega
     have hltz : ¬ ((i - 1 : Nat) : Int) < (i : Int) - 1 := by omega
     go_wp2
     go_end0
     have h := HS.out
     have hM := HM.out
     have hm := HMM.out
     subst hm
     exact ⟨rfl, dk, h.perm, hM.one hO hi hjb HP.out.lo HP.out.hi h.at_, h.sw⟩
end Go.Proofs.YtnpnfajgphpabaaGreat
namespace Go.Proofs.YtnpnfajgphpabaaGreat
set_option linter.unusedVariables false
set_option linter.unusedSimpArgs false
set_option maxRecDepth 1000000
set_option maxHeartbeats 8000000
set_option linter.unusedSectionVars false
open Go.RowKit Go.Shelf Go.Sort Go.Lib
variable {P : Program} {α : Type} [Inhabited α]
structure One2 (cf : α → α → Int) (a m i j : Nat) (d : Array α) : Prop where
 lo : i = a ∨ ¬ cf d[m]! d[i - 1]! < 0
 hi : j = m ∨ cf d[m]! d[j]! < 0
structure Shd (enc : α → List Value) (k : Nat) (w : World) (blk off : Nat) (d : Array α) (a b m q : Nat) (dk : Array α) (W : World) : Prop where
 size : dk.size = d.size
 at_ : ∀ x, x < d.size → dk[x]! = Stb.shd q m (fun i => d[i]!) x
 perm : PermIn a b d dk
 sw : SW enc k w blk off dk W
theorem qca {k : Nat} (L : SLay P k) (hF : P.funcs[118]? = some Tryz.f118) (enc : α → List Value) (hk : ∀ x, (enc x).length = k) (h1 : ∀ x, ∀ v ∈ enc x, v.oneCell' = true) (cf : α → α → Int) (tg : α → Nat) (hO : Stb.COrd cf) (g : Nat) (cb : Array Value)
 (blk off cap a m b : Nat) (hma : m ≠ a + 1) (hbm : b = m + 1) (d : Array α) (w : World) (hcmp : CmpB P g cb enc cf w blk) (hH : HoldsK enc k w blk off d) (hblk : blk < w.heap.size) (hM : Stb.Mrg cf tg a m b d) (hsz : d.size < 4611686018427387904) :
 Calls P 118 #[.slice (some ⟨blk, off, none⟩) d.size cap, .int .i64 a, .int .i64 m, .int .i64 b, .func (.func g) #[] cb] w (qaQ enc k cf tg w blk off d a b) := by
 have mixed := L.mixed; have t0 := L.t0; have a0 := L.a0; have z0 := L.z0; have v0 := L.v0; have t3 := L.t3; have a3 := L.a3; have z3 := L.z3; have v3 := L.v3; have t4 := L.t4; have a4 := L.a4; have z4 := L.z4; have v4 := L.v4; have t85 := L.t85; have a85 := L.a85; have z85 := L.z85; have v85 := L.v85; have t43 := L.t43; have a43 := L.a43; have z43 := L.z43; have v43 := L.v43; have t69 := L.t69; have a69 := L.a69; have z69 := L.z69; have v69 := L.v69; have aE := L.aE; have zE := L.zE
 have u43 := run_underlying L.t43
 have ham : a < m := hM.am
 have hb : b ≤ d.size := hM.bs
 have hm1 : b ≤ m + 1 := by omega
 have hm2 : m + 1 ≤ b := by omega
 have HMM := qH0 hbm
 have HM := qH0 hM
 have HC := qH0 hcmp
 have eg := hcmp.eg
 have HK := qH0 hk; have H1 := qH0 h1
 have HST : Hid (SW enc k w blk off d w) := qH0 (SW.refl hH hblk)
 have c1 : ((m : Int) - (a : Int) == 1) = false := by simp; omega
 have c2 : ((b : Int) - (m : Int)) = 1 := by omega
 have ham2 : a + 2 ≤ m := by omega
 clear hcmp hH hk h1 hblk hM hma hbm
 obtain ⟨xm, hxm⟩ : ∃ x, d[m]! = x := ⟨_, rfl⟩
 have HXM := qH0 hxm
 clear hxm
 go_enter hF, Tryz.ntmps118
 go_wp2
 go_loopw [14, 15] (fun vi vj wr => ∃ (i j : Nat), vi = .int .i64 i ∧ vj = .int .i64 j ∧ a ≤ i ∧ i ≤ j ∧ j ≤ m ∧ Hid (One2 cf a m i j d) ∧ Hid (SW enc k w blk off d wr)) (fun vi vj _ => (intOf vj).toNat - (intOf vi).toNat)
 case atStart => exact ⟨a, m, rfl, rfl, qN0, by omega, qN0, qH0 ⟨Or.inl rfl, Or.inl rfl⟩, HST⟩
 case round =>
  obtain ⟨i, j, rfl, rfl, hi, hij, hjb, HP, HW⟩ := hrel
  by_cases hlt : i < j
  ·have hltz : (i : Int) < (j : Int) := by omega
   obtain ⟨h, hh⟩ : ∃ h : Nat, (i + j) / 2 = h := ⟨_, rfl⟩
   have hhz : ((i : Int) + (j : Int)) / 2 = (h : Int) := by omega
   have h1 : i ≤ h := by omega
   have h2 : h < j := by omega
   have h3 : (h : Int) < (d.size : Int) := by omega
   have h4 : (m : Int) < (d.size : Int) := by omega
   clear hh
   obtain ⟨xh, hxh⟩ : ∃ x, d[h]! = x := ⟨_, rfl⟩
   have lh : ∀ p : WIn (fun W => SW enc k w blk off d W), Sem.run P (loadCellsFrom ⟨blk, off + h * k, none⟩ 0 k #[]) p.w = .ok (enc xh).toArray p.w := fun p => by
    rw [← hxh]; exact p.ok.load P HK.out h (by omega)
   have la : ∀ p : WIn (fun W => SW enc k w blk off d W), Sem.run P (loadCellsFrom ⟨blk, off + m * k, none⟩ 0 k #[]) p.w = .ok (enc xm).toArray p.w := fun p => by
    rw [← HXM.out]; exact p.ok.load P HK.out m (by omega)
   have hne : Nonempty (WIn (fun W => SW enc k w blk off d W)) := ⟨⟨_, HW.out.drew⟩⟩
   have hcg := fun p : WIn (fun W => SW enc k w blk off d W) => HC.out.cls d p xm xh
   have HXH := qH0 hxh
   clear hxh
   by_cases hlv : cf xm xh < 0
   ·have HN : Hid (One2 cf a m i h d) := qH0 ⟨HP.out.lo, Or.inr (by rw [HXH.out, HXM.out]; exact hlv)⟩
    go_wp2_with fail
    refine qad (fun W => SW enc k w blk off d W) mixed (by kernel_rfl) HW.out.drew ?_
    repeat (quiet_step (first | (go_at_fn g; exact hcg _)))
    refine wpQuiet_nil ?_
    rintro _ ⟨p, rfl⟩
    go_wp2
    go_roundw
    case measure => simp [intOf]; omega
    case rel => exact ⟨i, h, rfl, rfl, by omega, by omega, by omega, HN, qH0 p.ok⟩
   ·have hlb : (!decide (cf xm xh < 0)) = true := by simp; omega
    have HN : Hid (One2 cf a m (h + 1) j d) := qH0 ⟨Or.inr (by rw [Nat.add_sub_cancel, HXH.out, HXM.out]; exact hlv), HP.out.hi⟩
    go_wp2_with fail
    refine qad (fun W => SW enc k w blk off d W) mixed (by kernel_rfl) HW.out.drew ?_
    repeat (quiet_step (first | (go_at_fn g; exact hcg _)))
    refine wpQuiet_nil ?_
    rintro _ ⟨p, rfl⟩
    go_wp2
    go_roundw
    case measure => simp [intOf]; omega
    case rel => exact ⟨h + 1, j, by go_num, rfl, by omega, by omega, hjb, HN, qH0 p.ok⟩
  ·obtain rfl : i = j := by omega
   have HS0 : Hid (Shd enc k w blk off d a b m m d wr) := qH0 ⟨rfl, fun x _ => (Stb.shd_zero m _ x).symm, permIn_refl d a _, HW.out⟩
   clear HW hlt hij
   rename World => wo
   go_wp2
   go_loopw [17] (fun vq wr => ∃ (q : Nat) (dk : Array α), vq = .int .i64 q ∧ i ≤ q ∧ q ≤ m ∧ Hid (Shd enc k w blk off d a b m q dk wr)) (fun vq _ => (intOf vq).toNat - i)
   case atStart => exact ⟨m, d, rfl, by omega, qN0, HS0⟩
   case round =>
    obtain ⟨q, dk, rfl, hq, hqi, HS⟩ := hrel
    by_cases hlt : i < q
    ·obtain ⟨p, rfl⟩ : ∃ p, q = p + 1 := ⟨q - 1, by omega⟩
     have hltz : (i : Int) < (p : Int) + 1 := by omega
     obtain ⟨x0, hx0⟩ : ∃ x, dk[p]! = x := ⟨_, rfl⟩
     obtain ⟨x1, hx1⟩ : ∃ x, dk[p + 1]! = x := ⟨_, rfl⟩
     have hsk := HS.out.size
     have hD := HS.out.sw.drew
     have l0 := hD.load P HK.out p (by omega)
     have l1 := hD.load P HK.out (p + 1) (by omega)
     have s1 := hD.store1 P HK.out H1.out (p + 1) (by omega) x0
     have s2 := hD.store2 P HK.out H1.out (p + 1) p (by omega) (by omega) x0 x1
     rw [hx0] at l0
     rw [hx1] at l1
     have hs0 : (enc x0).length = k := HK.out _
     have hs1 : (enc x1).length = k := HK.out _
     have HN : Hid (Shd enc k w blk off d a b m p (swp dk (p + 1) p) ((wr.drew.setCells blk (off + (p + 1) * k) (enc x0)).setCells blk (off + p * k) (enc x1))) := by
      have h := HS.out
      refine qH0 ⟨by rw [size_swp]; exact hsk, Stb.shd_step hqi (by omega) hsk h.at_, permIn_trans _ _ _ a b h.perm (swp_permIn dk a b (p + 1) p (by omega) (by omega) (by omega) (by omega) (by omega)), ?_⟩
      have := hD.swap HK.out (p + 1) p (by omega) (by omega)
      rwa [hx0, hx1] at this
     obtain ⟨ca, hca⟩ : ∃ c, c = enc x0 := ⟨_, rfl⟩
     obtain ⟨cb, hcb⟩ : ∃ c, c = enc x1 := ⟨_, rfl⟩
     rw [← hca] at l0 hs0 s1
     rw [← hcb] at l1 hs1
     rw [← hca, ← hcb] at s2 HN
     have hwp : IntKind.i64.wrap (p : Int) = (p : Int) := by rw [IntKind.wrap_i64]; omega
     have ja : (p : Int) < (d.size : Int) := by omega
     have jb : (p : Int) + 1 < (d.size : Int) := by omega
     have pb : (0 : Int) ≤ (p : Int) + 1 := by omega
     have eb : ((p : Int) + 1).toNat = p + 1 := by omega
     clear hca hcb hD hsk hx0 hx1
     go_wp2_with fail
     go_big_region_o
     all_goals go_wp2
     go_roundw
     case measure => simp [intOf]; omega
     case rel => exact ⟨p, _, by first | rfl | go_num | (congr 1; omega), by omega, by omega, HN⟩
    ·obtain rfl : q = i := by omega
     have hltz : ¬ (q : Int) < (q : Int) := by omega
     go_wp2
     go_end0
     have h := HS.out
     have hM := HM.out
     have hm := HMM.out
     subst hm
     exact ⟨rfl, dk, h.perm, hM.last hO hi hjb HP.out.lo HP.out.hi h.at_, h.sw⟩
end Go.Proofs.YtnpnfajgphpabaaGreat
namespace Go.Proofs.YtnpnfajgphpabaaGreat
set_option linter.unusedVariables false
set_option linter.unusedSimpArgs false
set_option maxRecDepth 1000000
set_option maxHeartbeats 16000000
set_option linter.unusedSectionVars false
open Go.RowKit Go.Shelf Go.Sort Go.Lib
variable {P : Program} {α : Type} [Inhabited α]
structure Mids (cf : α → α → Int) (n s0 r0 s r : Nat) (d : Array α) : Prop where
 lo : s = s0 ∨ ¬ cf d[n - s]! d[s - 1]! < 0
 hi : r = r0 ∨ cf d[n - r - 1]! d[r]! < 0
def MidsAt (a m b mid s0 r0 : Nat) : Prop := (mid < m ∧ s0 = mid + m - b ∧ r0 = mid) ∨ (m ≤ mid ∧ s0 = a ∧ r0 = m)
structure Trn (enc : α → List Value) (k : Nat) (w : World) (blk off : Nat) (d : Array α) (a b m s e : Nat) (d' : Array α) (W : World) : Prop where
 size : d'.size = d.size
 at_ : ∀ x, x < d.size → d'[x]! = Stb.rot s m e (fun i => d[i]!) x
 perm : PermIn a b d d'
 sw : SW enc k w blk off d' W
theorem qdv {cf : α → α → Int} {tg : α → Nat} {a m b : Nat} {d d' : Array α} (h : Stb.Mrg cf tg a m b d) (hs : d'.size = d.size) (he : ∀ x, a ≤ x → x < b → d'[x]! = d[x]!) : Stb.Mrg cf tg a m b d' := by
 have am := h.am; have mb := h.mb; have bs := h.bs
 refine ⟨am, mb, by omega, h.l.congr fun x h1 h2 => he x h1 (by omega), h.r.congr fun x h1 h2 => he x (by omega) h2, fun i j h1 h2 h3 h4 => ?_⟩
 rw [he i h1 (by omega), he j (by omega) h4]
 exact h.x i j h1 h2 h3 h4
structure Hlf (enc : α → List Value) (k : Nat) (cf : α → α → Int) (tg : α → Nat) (w : World) (blk off : Nat) (a mid : Nat) (d d' : Array α) (W : World) : Prop where
 perm : PermIn a mid d d'
 rise : Stb.Rise cf tg a mid d'
 sw : SW enc k w blk off d' W
structure Trd (cf : α → α → Int) (tg : α → Nat) (a s mid e b : Nat) (d : Array α) : Prop where
 h1 : a < s → s < mid → Stb.Mrg cf tg a s mid d
 h2 : ¬ (a < s ∧ s < mid) → Stb.Rise cf tg a mid d
 h3 : mid < e → e < b → Stb.Mrg cf tg mid e b d
 h4 : ¬ (mid < e ∧ e < b) → Stb.Rise cf tg mid b d
 h5 : ∀ i j, a ≤ i → i < mid → mid ≤ j → j < b → Stb.Lx cf tg d[i]! d[j]!
def leftAt : Code → Option Nat
 | .region id _ _ => some id
 | .seq a _ => leftAt a
 | _ => none
def tailAt (n : Nat) : Code → Option Code
 | .seq a b => if leftAt a = some n then some (.seq a b) else (tailAt n a).or (tailAt n b)
 | .scope c => tailAt n c
 | .block _ c => tailAt n c
 | _ => none
noncomputable def qfd : Code := (Tryz.f118.body.bind (tailAt 41)).getD .skip
theorem qb9 {k : Nat} (L : SLay P k)
 (em : ∀ args w, (callFunc 118 args).run P w = .ok (.enter 118 args) w)
 (enc : α → List Value) (cf : α → α → Int) (tg : α → Nat) (g : Nat) (cb : Array Value)
 (blk off cap a m b mid s e : Nat) (d d1 : Array α) (w w1 : World) (k1 : a < mid) (k2 : mid < b) (hb : b ≤ d.size) (hsz : d.size < 4611686018427387904) (hem : e < 4611686018427387904) (hsm : s < 4611686018427387904)
 (HT : Hid (Trn enc k w blk off d a b m s e d1 w1)) (HTD : Hid (Trd cf tg a s mid e b d1))
 (IH : Hid (∀ (a' m' b' : Nat) (d' : Array α) (W : World), b' - a' < b - a → d'.size = d.size → SW enc k w blk off d' W → Stb.Mrg cf tg a' m' b' d' → Calls P 118 #[.slice (some ⟨blk, off, none⟩) d.size cap, .int .i64 a', .int .i64 m', .int .i64 b', .func (.func g) #[] cb] W (qaQ enc k cf tg W blk off d' a' b')))
 (u5 u6 u7 u8 u9 u10 u11 u12 u13 u14 u15 u16 u17 u19 u21 u22 u23 u25 u26 u27 u28 u29 u30 u31 u32 u33 u34 u35 u36 u37 u38 u39 u40 u41 u42 u43 u44 u45 u46 u47 u48 u49 u50 u51 u52 u53 u54 u55 u56 u57 u58 u59 u60 u61 u62 u63 u64 u65 u66 u67 u68 u69 u70 u71 u72 u73 u74 u75 u76 u77 u78 u79 u80 u81 u82 u83 u84 u85 u86 u87 u88 u89 u90 u91 u92 u93 u94 u95 u96 u97 u98 u99 u100 u101 u102 u103 u104 u105 u106 u107 u108 u109 u110 u111 u112 u113 u114 u115 u116 u117 u118 u119 u120 u121 u122 u123 u124 u125 u126 u127 u128 u129 u130 u131 u132 u133 u134 u135 u136 u137 u138 u139 u140 u141 u142 u143 u144 u145 u146 u147 u148 u149 u150 u151 u152 u153 u154 u155 u156 u157 u158 u159 u160 u161 u162 u163 u164 u165 u166 u167 u168 u169 u170 u171 u172 u173 u174 u175 u176 u177 u178 u179 u180 u181 u182 u183 u184 u185 u186 u187 u188 u189 u190 u191 u192 u193 u194 u195 u196 u197 u198 u199 u200 u201 u202 u203 u204 u205 u206 u207 u208 u209 u210 u211 u212 u213 u214 u215 u216 u217 u218 u219 : Value) :
 Code.wp P qfd (bodyPost P Tryz.f118 (qaQ enc k cf tg w blk off d a b)) ⟨#[.slice (some ⟨blk, off, none⟩) d.size cap, .int .i64 a, .int .i64 m, .int .i64 b, .func (.func g) #[] cb, u5, u6, u7, u8, u9, u10, u11, u12, u13, u14, u15, u16, u17, .int .i64 mid, u19, .int .i64 s, u21, u22, u23, .int .i64 e, u25, u26, u27, u28, u29, u30, u31, u32, u33, u34, u35, u36, u37, u38, u39, u40, u41, u42, u43, u44, u45, u46, u47, u48, u49, u50, u51, u52, u53, u54, u55, u56, u57, u58, u59, u60, u61, u62, u63, u64, u65, u66, u67, u68, u69, u70, u71, u72, u73, u74, u75, u76, u77, u78, u79, u80, u81, u82, u83, u84, u85, u86, u87, u88, u89, u90, u91, u92, u93, u94, u95, u96, u97, u98, u99, u100, u101, u102, u103, u104, u105, u106, u107, u108, u109, u110, u111, u112, u113, u114, u115, u116, u117, u118, u119, u120, u121, u122, u123, u124, u125, u126, u127, u128, u129, u130, u131, u132, u133, u134, u135, u136, u137, u138, u139, u140, u141, u142, u143, u144, u145, u146, u147, u148, u149, u150, u151, u152, u153, u154, u155, u156, u157, u158, u159, u160, u161, u162, u163, u164, u165, u166, u167, u168, u169, u170, u171, u172, u173, u174, u175, u176, u177, u178, u179, u180, u181, u182, u183, u184, u185, u186, u187, u188, u189, u190, u191, u192, u193, u194, u195, u196, u197, u198, u199, u200, u201, u202, u203, u204, u205, u206, u207, u208, u209, u210, u211, u212, u213, u214, u215, u216, u217, u218, u219], []⟩ w1 := by
 have mixed := L.mixed; have t0 := L.t0; have a0 := L.a0; have z0 := L.z0; have v0 := L.v0; have t3 := L.t3; have a3 := L.a3; have z3 := L.z3; have v3 := L.v3; have t4 := L.t4; have a4 := L.a4; have z4 := L.z4; have v4 := L.v4; have t85 := L.t85; have a85 := L.a85; have z85 := L.z85; have v85 := L.v85; have t43 := L.t43; have a43 := L.a43; have z43 := L.z43; have v43 := L.v43; have t69 := L.t69; have a69 := L.a69; have z69 := L.z69; have v69 := L.v69; have aE := L.aE; have zE := L.zE
 have u43 := run_underlying L.t43
 conv => arg 2; whnf
 conv => arg 4; zeta
 go_upto_region 41 with (fail)
 go_cut [199] (fun vc wx => (∃ c : Bool, vc = .bool c ∧ Hid (c = decide (a < s ∧ s < mid))) ∧ w1 = wx)
 case first =>
  by_cases q1 : a < s
  ·have q1z : (a : Int) < (s : Int) := by omega
   by_cases q2 : s < mid
   ·have q2z : (s : Int) < (mid : Int) := by omega
    go_wp2_with fail
    go_meet
    exact ⟨⟨true, rfl, qH0 (decide_eq_true (show a < s ∧ s < mid from ⟨q1, q2⟩)).symm⟩, rfl⟩
   ·have q2z : ¬ (s : Int) < (mid : Int) := by omega
    go_wp2_with fail
    go_meet
    exact ⟨⟨false, rfl, qH0 (decide_eq_false (show ¬ (a < s ∧ s < mid) from fun h => q2 h.2)).symm⟩, rfl⟩
  ·have q1z : ¬ (a : Int) < (s : Int) := by omega
   go_wp2_with fail
   go_meet
   exact ⟨⟨false, rfl, qH0 (decide_eq_false (show ¬ (a < s ∧ s < mid) from fun h => q1 h.1)).symm⟩, rfl⟩
 case rest =>
 obtain ⟨⟨cc2, rfl, HCCcc2⟩, rfl⟩ := hcut
 go_upto_if 199 with (fail)
 go_cut [] (fun wx => ∃ d2 : Array α, Hid (Hlf enc k cf tg w blk off a mid d1 d2 wx))
 case first =>
  cases cc2
  ·have q : ¬ (a < s ∧ s < mid) := of_decide_eq_false HCCcc2.out.symm
   have HX' : Hid (Hlf enc k cf tg w blk off a mid d1 d1 w1) := qH0 ⟨permIn_refl d1 a mid, HTD.out.h2 q, HT.out.sw⟩
   clear q
   go_wp2_with fail
   go_meet
   exact ⟨d1, HX'⟩
  ·have q : a < s ∧ s < mid := of_decide_eq_true HCCcc2.out.symm
   have hr := IH.out a s mid d1 _ (by omega) HT.out.size HT.out.sw (HTD.out.h1 q.1 q.2)
   clear q
   go_wp2_with fail
   go_at_fn 118
   refine hr.mono ?_
   rintro e' w' ⟨rfl, d2, g1, g2, g3⟩
   go_wp2_with fail
   go_meet
   exact ⟨d2, qH0 ⟨g1, g2, HT.out.sw.trans g3⟩⟩
 case rest =>
 obtain ⟨d2, HD2⟩ := hcut
 rename World => w2
 go_upto_region 43 with (fail)
 go_cut [213] (fun vc wx => (∃ c : Bool, vc = .bool c ∧ Hid (c = decide (mid < e ∧ e < b))) ∧ w2 = wx)
 case first =>
  by_cases q1 : mid < e
  ·have q1z : (mid : Int) < (e : Int) := by omega
   by_cases q2 : e < b
   ·have q2z : (e : Int) < (b : Int) := by omega
    go_wp2_with fail
    go_meet
    exact ⟨⟨true, rfl, qH0 (decide_eq_true (show mid < e ∧ e < b from ⟨q1, q2⟩)).symm⟩, rfl⟩
   ·have q2z : ¬ (e : Int) < (b : Int) := by omega
    go_wp2_with fail
    go_meet
    exact ⟨⟨false, rfl, qH0 (decide_eq_false (show ¬ (mid < e ∧ e < b) from fun h => q2 h.2)).symm⟩, rfl⟩
  ·have q1z : ¬ (mid : Int) < (e : Int) := by omega
   go_wp2_with fail
   go_meet
   exact ⟨⟨false, rfl, qH0 (decide_eq_false (show ¬ (mid < e ∧ e < b) from fun h => q1 h.1)).symm⟩, rfl⟩
 case rest =>
 obtain ⟨⟨cc3, rfl, HCCcc3⟩, rfl⟩ := hcut
 have hsz2 : d2.size = d.size := HD2.out.perm.1.trans HT.out.size
 have HSZ2 := qH0 hsz2
 clear hsz2
 cases cc3
 ·have q : ¬ (mid < e ∧ e < b) := of_decide_eq_false HCCcc3.out.symm
  have hr2 : Stb.Rise cf tg mid b d2 := (HTD.out.h4 q).congr fun x g1 _ => HD2.out.perm.2.1 x (Or.inr g1)
  have HR2 := qH0 hr2
  clear q hr2
  go_wp2_with fail
  go_end0
  have ht := HT.out
  have hd := HD2.out
  have hts := ht.size
  refine ⟨rfl, d2, permIn_trans _ _ _ a b ht.perm (permIn_mono _ _ a mid a b (qN0) (by omega) (by omega) hd.perm), ?_, hd.sw⟩
  exact Stb.rise_both a mid b (by omega) (by omega) HTD.out.h5 hd.perm hd.rise (permIn_refl d2 mid b) HR2.out
 ·have q : mid < e ∧ e < b := of_decide_eq_true HCCcc3.out.symm
  have hr := IH.out mid e b d2 _ (by omega) HSZ2.out HD2.out.sw (qdv (HTD.out.h3 q.1 q.2) HD2.out.perm.1 (fun x g1 _ => HD2.out.perm.2.1 x (Or.inr g1)))
  clear q
  go_wp2_with fail
  go_at_fn 118
  refine hr.mono ?_
  rintro e' w' ⟨rfl, d3, g1, g2, g3⟩
  go_wp2_with fail
  go_end0
  have ht := HT.out
  have hd := HD2.out
  have hts := ht.size
  refine ⟨rfl, d3, permIn_trans _ _ _ a b ht.perm (permIn_trans _ _ _ a b (permIn_mono _ _ a mid a b (qN0) (by omega) (by omega) hd.perm) (permIn_mono _ _ mid b a b (by omega) (qN0) (by have := HSZ2.out; omega) g1)), ?_, hd.sw.trans g3⟩
  exact Stb.rise_both a mid b (by omega) (by omega) HTD.out.h5 hd.perm hd.rise g1 g2
end Go.Proofs.YtnpnfajgphpabaaGreat
namespace Go.Proofs.YtnpnfajgphpabaaGreat
set_option linter.unusedVariables false
set_option linter.unusedSimpArgs false
set_option maxRecDepth 1000000
set_option maxHeartbeats 16000000
set_option linter.unusedSectionVars false
open Go.RowKit Go.Shelf Go.Sort Go.Lib
variable {P : Program} {α : Type} [Inhabited α]
theorem qcm {k : Nat} (L : SLay P k) (hF : P.funcs[118]? = some Tryz.f118) (hFr : P.funcs[125]? = some Tryz.f125) (hFs : P.funcs[130]? = some Tryz.f130)
 (es : ∀ args w, (callFunc 130 args).run P w = .ok (.enter 130 args) w) (er : ∀ args w, (callFunc 125 args).run P w = .ok (.enter 125 args) w) (em : ∀ args w, (callFunc 118 args).run P w = .ok (.enter 118 args) w)
 (enc : α → List Value) (hk : ∀ x, (enc x).length = k) (h1 : ∀ x, ∀ v ∈ enc x, v.oneCell' = true) (cf : α → α → Int) (tg : α → Nat) (hO : Stb.COrd cf) (g : Nat) (cb : Array Value)
 (blk off cap a m b : Nat) (hma : m ≠ a + 1) (hbm : b ≠ m + 1) (d : Array α) (w : World) (hcmp : CmpB P g cb enc cf w blk) (hH : HoldsK enc k w blk off d) (hblk : blk < w.heap.size) (hM : Stb.Mrg cf tg a m b d) (hsz : d.size < 4611686018427387904)
 (ih : ∀ (a' m' b' : Nat) (d' : Array α) (W : World), b' - a' < b - a → d'.size = d.size → SW enc k w blk off d' W → Stb.Mrg cf tg a' m' b' d' → Calls P 118 #[.slice (some ⟨blk, off, none⟩) d.size cap, .int .i64 a', .int .i64 m', .int .i64 b', .func (.func g) #[] cb] W (qaQ enc k cf tg W blk off d' a' b')) :
 Calls P 118 #[.slice (some ⟨blk, off, none⟩) d.size cap, .int .i64 a, .int .i64 m, .int .i64 b, .func (.func g) #[] cb] w (qaQ enc k cf tg w blk off d a b) := by
 have mixed := L.mixed; have t0 := L.t0; have a0 := L.a0; have z0 := L.z0; have v0 := L.v0; have t3 := L.t3; have a3 := L.a3; have z3 := L.z3; have v3 := L.v3; have t4 := L.t4; have a4 := L.a4; have z4 := L.z4; have v4 := L.v4; have t85 := L.t85; have a85 := L.a85; have z85 := L.z85; have v85 := L.v85; have t43 := L.t43; have a43 := L.a43; have z43 := L.z43; have v43 := L.v43; have t69 := L.t69; have a69 := L.a69; have z69 := L.z69; have v69 := L.v69; have aE := L.aE; have zE := L.zE
 have u43 := run_underlying L.t43
 have ham : a + 2 ≤ m := by have := hM.am; omega
 have hmb : m + 2 ≤ b := by have := hM.mb; omega
 have hb : b ≤ d.size := hM.bs
 have HM := qH0 hM
 have HC := qH0 hcmp
 have eg := hcmp.eg
 have HK := qH0 hk; have H1 := qH0 h1
 have HST : Hid (SW enc k w blk off d w) := qH0 (SW.refl hH hblk)
 have HR := qH0 (fun (s e : Nat) (W : World) (hW : SW enc k w blk off d W) (h1' : s < m) (h2 : m < e) (h3 : e ≤ d.size) => qcB L hFr hFs es enc hk h1 blk off cap s m e d (.func (.func g) #[] cb) W hW.row hW.lt' h1' h2 h3 (by omega))
 have IH := qH0 ih
 have c1 : ((m : Int) - (a : Int) == 1) = false := by simp; omega
 have c2 : ((b : Int) - (m : Int) == 1) = false := by simp; omega
 obtain ⟨mid, hmid⟩ : ∃ h : Nat, (a + b) / 2 = h := ⟨_, rfl⟩
 have hmidz : ((a : Int) + (b : Int)) / 2 = (mid : Int) := by omega
 obtain ⟨n, hn⟩ : ∃ h : Nat, mid + m = h := ⟨_, rfl⟩
 have hnz : (mid : Int) + (m : Int) = (n : Int) := by omega
 obtain ⟨pn, hpn⟩ : ∃ h : Nat, n - 1 = h := ⟨_, rfl⟩
 have hpnz : (n : Int) - 1 = (pn : Int) := by omega
 have k9 : pn + 1 ≤ n := by omega
 have k10 : n ≤ pn + 1 := by omega
 have k1 : a < mid := by omega
 have k2 : mid < b := by omega
 have k4 : n ≤ mid + b := by omega
 have HMID := qH0 hmid; have HN := qH0 hn
 have k5 : a + b ≤ 2 * mid + 1 := by omega
 have k6 : 2 * mid ≤ a + b := by omega
 have k7 : n ≤ mid + m := by omega
 have k8 : mid + m ≤ n := by omega
 clear hcmp hH hk h1 hblk hM hma hbm ih hmid hn hpn
 go_enter hF, Tryz.ntmps118
 go_upto_if 140 with (fail)
 go_cut [20, 21] (fun vs vr wx => (∃ s0 r0 : Nat, vs = .int .i64 s0 ∧ vr = .int .i64 r0 ∧ Hid (MidsAt a m b mid s0 r0)) ∧ w = wx)
 case first =>
  by_cases hc : mid < m
  ·have hcz : (mid : Int) < (m : Int) := by omega
   obtain ⟨s0, hs0⟩ : ∃ s0 : Nat, mid + m - b = s0 := ⟨_, rfl⟩
   have hs0z : (n : Int) - (b : Int) = (s0 : Int) := by omega
   have HX : Hid (MidsAt a m b mid s0 mid) := qH0 (Or.inl ⟨hc, hs0.symm, rfl⟩)
   clear hs0
   go_wp2_with fail
   go_meet
   exact ⟨⟨s0, mid, rfl, rfl, HX⟩, rfl⟩
  ·have hcz : ¬ (mid : Int) < (m : Int) := by omega
   have HX : Hid (MidsAt a m b mid a m) := qH0 (Or.inr ⟨by omega, rfl, rfl⟩)
   go_wp2_with fail
   go_meet
   exact ⟨⟨a, m, rfl, rfl, HX⟩, rfl⟩
 case rest =>
 obtain ⟨⟨s0, r0, rfl, rfl, HX⟩, rfl⟩ := hcut
 have hx := HX.out
 have x1 : a ≤ s0 := by rcases hx with ⟨q1, q2, q3⟩ | ⟨q1, q2, q3⟩ <;> omega
 have x2 : s0 ≤ r0 := by rcases hx with ⟨q1, q2, q3⟩ | ⟨q1, q2, q3⟩ <;> omega
 have x3 : r0 ≤ mid := by rcases hx with ⟨q1, q2, q3⟩ | ⟨q1, q2, q3⟩ <;> omega
 have x4 : r0 ≤ m := by rcases hx with ⟨q1, q2, q3⟩ | ⟨q1, q2, q3⟩ <;> omega
 have x5 : n ≤ s0 + b := by rcases hx with ⟨q1, q2, q3⟩ | ⟨q1, q2, q3⟩ <;> omega
 clear hx
 go_wp2
 go_loopw [20, 21] (fun vs vr wr => ∃ (s r : Nat), vs = .int .i64 s ∧ vr = .int .i64 r ∧ s0 ≤ s ∧ s ≤ r ∧ r ≤ r0 ∧ Hid (Mids cf n s0 r0 s r d) ∧ Hid (SW enc k w blk off d wr)) (fun vs vr _ => (intOf vr).toNat - (intOf vs).toNat)
 case atStart => exact ⟨s0, r0, rfl, rfl, qN0, x2, qN0, qH0 ⟨Or.inl rfl, Or.inl rfl⟩, HST⟩
 case round =>
  obtain ⟨s, r, rfl, rfl, hs, hsr, hr, HP, HW⟩ := hrel
  by_cases hlt : s < r
  ·have hltz : (s : Int) < (r : Int) := by omega
   obtain ⟨c, hc⟩ : ∃ h : Nat, (s + r) / 2 = h := ⟨_, rfl⟩
   have hcz : ((s : Int) + (r : Int)) / 2 = (c : Int) := by omega
   obtain ⟨y, hy⟩ : ∃ h : Nat, pn - c = h := ⟨_, rfl⟩
   have hyz : (pn : Int) - (c : Int) = (y : Int) := by omega
   have h1 : s ≤ c := by omega
   have h2 : c < r := by omega
   have h3 : (c : Int) < (d.size : Int) := by omega
   have h4 : (y : Int) < (d.size : Int) := by omega
   have hwy : IntKind.i64.wrap (y : Int) = (y : Int) := by rw [IntKind.wrap_i64]; omega
   have HY : Hid (n - (c + 1) = y ∧ n - c - 1 = y) := qH0 ⟨by omega, by omega⟩
   clear hc hy
   obtain ⟨xc, hxc⟩ : ∃ x, d[c]! = x := ⟨_, rfl⟩
   obtain ⟨xy, hxy⟩ : ∃ x, d[y]! = x := ⟨_, rfl⟩
   have lc : ∀ p : WIn (fun W => SW enc k w blk off d W), Sem.run P (loadCellsFrom ⟨blk, off + c * k, none⟩ 0 k #[]) p.w = .ok (enc xc).toArray p.w := fun p => by
    rw [← hxc]; exact p.ok.load P HK.out c (by omega)
   have ly : ∀ p : WIn (fun W => SW enc k w blk off d W), Sem.run P (loadCellsFrom ⟨blk, off + y * k, none⟩ 0 k #[]) p.w = .ok (enc xy).toArray p.w := fun p => by
    rw [← hxy]; exact p.ok.load P HK.out y (by omega)
   have hne : Nonempty (WIn (fun W => SW enc k w blk off d W)) := ⟨⟨_, HW.out.drew⟩⟩
   have hcg := fun p : WIn (fun W => SW enc k w blk off d W) => HC.out.cls d p xy xc
   have HXC := qH0 hxc; have HXY := qH0 hxy
   clear hxc hxy
   by_cases hlv : cf xy xc < 0
   ·have HN' : Hid (Mids cf n s0 r0 s c d) := qH0 ⟨HP.out.lo, Or.inr (by rw [HY.out.2, HXC.out, HXY.out]; exact hlv)⟩
    go_wp2_with fail
    refine qad (fun W => SW enc k w blk off d W) mixed (by kernel_rfl) HW.out.drew ?_
    repeat (go_big_quiet_step (first | (go_at_fn g; exact hcg _)))
    refine wpQuiet_nil ?_
    rintro _ ⟨p, rfl⟩
    go_wp2
    go_roundw
    case measure => simp [intOf]; omega
    case rel => exact ⟨s, c, rfl, rfl, by omega, by omega, by omega, HN', qH0 p.ok⟩
   ·have hlb : (!decide (cf xy xc < 0)) = true := by simp; omega
    have HN' : Hid (Mids cf n s0 r0 (c + 1) r d) := qH0 ⟨Or.inr (by rw [Nat.add_sub_cancel, HY.out.1, HXC.out, HXY.out]; exact hlv), HP.out.hi⟩
    go_wp2_with fail
    refine qad (fun W => SW enc k w blk off d W) mixed (by kernel_rfl) HW.out.drew ?_
    repeat (go_big_quiet_step (first | (go_at_fn g; exact hcg _)))
    refine wpQuiet_nil ?_
    rintro _ ⟨p, rfl⟩
    go_wp2
    go_roundw
    case measure => simp [intOf]; omega
    case rel => exact ⟨c + 1, r, by go_num, rfl, by omega, by omega, hr, HN', qH0 p.ok⟩
  ·obtain rfl : s = r := by omega
   rename World => wo
   obtain ⟨e, he⟩ : ∃ h : Nat, n - s = h := ⟨_, rfl⟩
   have hez : (n : Int) - (s : Int) = (e : Int) := by omega
   have y1 : e + s ≤ n := by omega
   have y2 : n ≤ e + s := by omega
   have HCP : Hid (Stb.Cutp cf a m b mid s d) := by
    have hp := HP.out
    have hx := HX.out
    have e1 : mid + m - s = n - s := by omega
    refine qH0 ⟨by omega, by omega, by omega, by omega, ?_, ?_⟩
    ·rcases hp.lo with q | q
     ·rcases hx with ⟨q1, q2, q3⟩ | ⟨q1, q2, q3⟩
      ·right; left; omega
      ·left; omega
     ·right; right; rw [e1]; exact q
    ·rcases hp.hi with q | q
     ·rcases hx with ⟨q1, q2, q3⟩ | ⟨q1, q2, q3⟩
      ·right; left; omega
      ·left; omega
     ·right; right; rw [e1]; exact q
   clear he hlt
   go_upto_region 39 with (fail)
   go_cut [185] (fun vc wx => (∃ c : Bool, vc = .bool c ∧ Hid (c = decide (s < m ∧ m < e))) ∧ wo = wx)
   case first =>
    by_cases q1 : s < m
    ·have q1z : (s : Int) < (m : Int) := by omega
     by_cases q2 : m < e
     ·have q2z : (m : Int) < (e : Int) := by omega
      go_wp2_with fail
      go_meet
      exact ⟨⟨true, rfl, qH0 (decide_eq_true (show s < m ∧ m < e from ⟨q1, q2⟩)).symm⟩, rfl⟩
     ·have q2z : ¬ (m : Int) < (e : Int) := by omega
      go_wp2_with fail
      go_meet
      exact ⟨⟨false, rfl, qH0 (decide_eq_false (show ¬ (s < m ∧ m < e) from fun h => q2 h.2)).symm⟩, rfl⟩
    ·have q1z : ¬ (s : Int) < (m : Int) := by omega
     go_wp2_with fail
     go_meet
     exact ⟨⟨false, rfl, qH0 (decide_eq_false (show ¬ (s < m ∧ m < e) from fun h => q1 h.1)).symm⟩, rfl⟩
   case rest =>
   obtain ⟨⟨cc1, rfl, HCCcc1⟩, rfl⟩ := hcut
   go_upto_if 185 with (fail)
   have hms : s ≤ m := by omega
   have hme : m ≤ e := by omega
   have heb : e ≤ b := HCP.out.e |> fun h => by omega
   go_cut [] (fun wx => ∃ d1 : Array α, Hid (Trn enc k w blk off d a b m s e d1 wx))
   case first =>
    cases cc1
    ·have q : ¬ (s < m ∧ m < e) := of_decide_eq_false HCCcc1.out.symm
     have HX' : Hid (Trn enc k w blk off d a b m s e d wo) := by
      refine qH0 ⟨rfl, fun x hx => ?_, permIn_refl d a b, HW.out⟩
      by_cases h : s = m
      ·subst h; rw [Stb.rot_left]
      ·have : e = m := by omega
       subst this; rw [Stb.rot_right]
     clear q
     go_wp2_with fail
     go_meet
     exact ⟨d, HX'⟩
    ·have q : s < m ∧ m < e := of_decide_eq_true HCCcc1.out.symm
     have hr := HR.out s e _ HW.out q.1 q.2 (by omega)
     clear q
     go_wp2_with fail
     go_at_fn 125
     refine hr.mono ?_
     rintro e' w' ⟨rfl, d1, g1, g2, g3, g4⟩
     go_wp2_with fail
     go_meet
     exact ⟨d1, qH0 ⟨g1, g2, permIn_mono _ _ s e a b (by omega) heb hb g3, HW.out.trans g4⟩⟩
   case rest =>
   obtain ⟨d1, HT⟩ := hcut
   rename World => w1
   have HTD : Hid (Trd cf tg a s mid e b d1) := by
    have ht := HT.out
    have hE : mid + m - s = e := by omega
    have t := HM.out.turned hO HCP.out k1 k2 ht.size (by rw [hE]; exact ht.at_)
    rw [hE] at t
    exact qH0 ⟨t.1, t.2.1, t.2.2.1, t.2.2.2.1, t.2.2.2.2⟩
   rename Act → World → Prop => K0
   rename ∀ (a_1 : Act) (w_1 : World), _ → K0 a_1 w_1 => hK
   exact hK _ _ (qb9 L em enc cf tg g cb blk off cap a m b mid s e d d1 w w1 k1 k2 hb hsz (by omega) (by omega) HT HTD IH _ _ _ _ _ _ _ _ _ _ _ _ _ _ _ _ _ _ _ _ _ _ _ _ _ _ _ _ _ _ _ _ _ _ _ _ _ _ _ _ _ _ _ _ _ _ _ _ _ _ _ _ _ _ _ _ _ _ _ _ _ _ _ _ _ _ _ _ _ _ _ _ _ _ _ _ _ _ _ _ _ _ _ _ _ _ _ _ _ _ _ _ _ _ _ _ _ _ _ _ _ _ _ _ _ _ _ _ _ _ _ _ _ _ _ _ _ _ _ _ _ _ _ _ _ _ _ _ _ _ _ _ _ _ _ _ _ _ _ _ _ _ _ _ _ _ _ _ _ _ _ _ _ _ _ _ _ _ _ _ _ _ _ _ _ _ _ _ _ _ _ _ _ _ _ _ _ _ _ _ _ _ _ _ _ _ _ _ _ _ _ _ _ _ _ _ _ _ _ _ _ _ _ _ _ _ _ _ _ _ _ _ )
end Go.Proofs.YtnpnfajgphpabaaGreat
namespace Go.Proofs.YtnpnfajgphpabaaGreat
set_option linter.unusedVariables false
set_option linter.unusedSimpArgs false
set_option maxRecDepth 1000000
set_option maxHeartbeats 8000000
set_option linter.unusedSectionVars false
open Go.RowKit Go.Shelf Go.Sort Go.Lib
variable {P : Program} {α : Type} [Inhabited α]
structure SFun (P : Program) : Prop where
 fs : P.funcs[130]? = some Tryz.f130
 fr : P.funcs[125]? = some Tryz.f125
 fi : P.funcs[117]? = some Tryz.f117
 fm : P.funcs[118]? = some Tryz.f118
 ft : P.funcs[102]? = some Tryz.f102
 es : ∀ args w, (callFunc 130 args).run P w = .ok (.enter 130 args) w
 er : ∀ args w, (callFunc 125 args).run P w = .ok (.enter 125 args) w
 ei : ∀ args w, (callFunc 117 args).run P w = .ok (.enter 117 args) w
 em : ∀ args w, (callFunc 118 args).run P w = .ok (.enter 118 args) w
theorem qco {k : Nat} (L : SLay P k) (F : SFun P) (enc : α → List Value) (hk : ∀ x, (enc x).length = k) (h1 : ∀ x, ∀ v ∈ enc x, v.oneCell' = true) (cf : α → α → Int) (tg : α → Nat) (hO : Stb.COrd cf) (g : Nat) (cb : Array Value)
 (blk off cap N : Nat) (hN : N < 4611686018427387904) (w : World) (hcmp : CmpB P g cb enc cf w blk) : ∀ (n a m b : Nat) (d : Array α) (W : World), b - a ≤ n → d.size = N → SW enc k w blk off d W → Stb.Mrg cf tg a m b d →
 Calls P 118 #[.slice (some ⟨blk, off, none⟩) N cap, .int .i64 a, .int .i64 m, .int .i64 b, .func (.func g) #[] cb] W (qaQ enc k cf tg W blk off d a b)
 | 0, a, m, b, d, W, hn, _, _, hM => by have := hM.am; have := hM.mb; omega
 | n + 1, a, m, b, d, W, hn, hs, hW, hM => by
  subst hs
  have hc := hcmp.later hW.rest
  by_cases hma : m = a + 1
  ·exact qcp L F.fm enc hk h1 cf tg hO g cb blk off cap a m b hma d W hc hW.row hW.lt' hM hN
  by_cases hbm : b = m + 1
  ·exact qca L F.fm enc hk h1 cf tg hO g cb blk off cap a m b hma hbm d W hc hW.row hW.lt' hM hN
  exact qcm L F.fm F.fr F.fs F.es F.er F.em enc hk h1 cf tg hO g cb blk off cap a m b hma hbm d W hc hW.row hW.lt' hM hN
   (fun a' m' b' d' W' hlt hs' hW' hM' => qco L F enc hk h1 cf tg hO g cb blk off cap d.size hN w hcmp n a' m' b' d' W' (by omega) hs' (hW.trans hW') hM')
def qft (enc : α → List Value) (k : Nat) (cf : α → α → Int) (tg : α → Nat) (w : World) (blk off : Nat) (d : Array α) (e : Ending) (w' : World) : Prop :=
 e = .returned (.tuple #[]) ∧ ∃ d' : Array α, PermIn 0 d.size d d' ∧ Stb.Rise cf tg 0 d.size d' ∧ SW enc k w blk off d' w'
structure StbAt (enc : α → List Value) (k : Nat) (w : World) (blk off : Nat) (d : Array α) (Q : Array α → Prop) (dk : Array α) (W : World) : Prop where
 perm : PermIn 0 d.size d dk
 sw : SW enc k w blk off dk W
 q : Q dk
theorem StbAt.next {enc : α → List Value} {k : Nat} {w : World} {blk off : Nat} {d : Array α} {Q Q' : Array α → Prop} {dk d' : Array α} {W W' : World} (h : StbAt enc k w blk off d Q dk W) {a b : Nat} (hb : b ≤ d.size) (hp : PermIn a b dk d') (hw : SW enc k W blk off d' W') (hq : Q' d') : StbAt enc k w blk off d Q' d' W' :=
 ⟨permIn_trans _ _ _ 0 d.size h.perm (permIn_mono _ _ a b 0 d.size (Nat.zero_le _) hb (by rw [h.perm.1]; omega) hp), h.sw.trans hw, hq⟩
theorem sort_stable {k : Nat} (L : SLay P k) (F : SFun P) (enc : α → List Value) (hk : ∀ x, (enc x).length = k) (h1 : ∀ x, ∀ v ∈ enc x, v.oneCell' = true) (cf : α → α → Int) (tg : α → Nat) (hO : Stb.COrd cf) (g : Nat) (cb : Array Value)
 (blk off cap : Nat) (d : Array α) (w : World) (hcmp : CmpB P g cb enc cf w blk) (hH : HoldsK enc k w blk off d) (hblk : blk < w.heap.size) (ht : ∀ i, i < d.size → tg d[i]! = i) (hsz : d.size < 4611686018427387904) :
 Calls P 102 #[.slice (some ⟨blk, off, none⟩) d.size cap, .int .i64 d.size, .func (.func g) #[] cb] w (qft enc k cf tg w blk off d) := by
 have mixed := L.mixed; have t0 := L.t0; have a0 := L.a0; have z0 := L.z0; have v0 := L.v0; have t3 := L.t3; have a3 := L.a3; have z3 := L.z3; have v3 := L.v3; have t4 := L.t4; have a4 := L.a4; have z4 := L.z4; have v4 := L.v4; have t85 := L.t85; have a85 := L.a85; have z85 := L.z85; have v85 := L.v85; have t43 := L.t43; have a43 := L.a43; have z43 := L.z43; have v43 := L.v43; have t69 := L.t69; have a69 := L.a69; have z69 := L.z69; have v69 := L.v69; have aE := L.aE; have zE := L.zE
 have u43 := run_underlying L.t43
 obtain ⟨n, hn⟩ : ∃ n, d.size = n := ⟨_, rfl⟩
 have HNN := qH0 hn
 have hF := F.ft
 have ei := F.ei
 have em := F.em
 have HI := qH0 (fun (dk : Array α) (W : World) (a b : Nat) (hs : dk.size = n) (hW : SW enc k w blk off dk W) (hab : a ≤ b) (hb : b ≤ n) =>
  (show Calls P 117 #[.slice (some ⟨blk, off, none⟩) n cap, .int .i64 a, .int .i64 b, .func (.func g) #[] cb] W (qcM enc k cf W blk off dk a b) from hs ▸ qbT L F.fi enc hk h1 cf g cb blk off cap a b dk W (hcmp.later hW.rest) hW.row hW.lt' hab (by omega) (by omega)))
 have HM := qH0 (fun (dk : Array α) (W : World) (a m b : Nat) (hs : dk.size = n) (hW : SW enc k w blk off dk W) (hM : Stb.Mrg cf tg a m b dk) => qco L F enc hk h1 cf tg hO g cb blk off cap n (by omega) w hcmp (b - a) a m b dk W (qN0) hs hW hM)
 have HS0 : Hid (StbAt enc k w blk off d (Stb.Blk0 cf tg 20 0) d w) := qH0 ⟨permIn_refl d 0 _, SW.refl hH hblk, Stb.Blk0.start ht⟩
 rw [hn] at hsz ⊢
 clear hcmp hH hblk ht hk h1 hn F
 go_enter hF, Tryz.ntmps102
 go_wp2
 go_loopw [7, 8] (fun va vb wr => ∃ (A B : Nat) (dk : Array α), va = .int .i64 A ∧ vb = .int .i64 B ∧ A ≤ n ∧ B ≤ A + 20 ∧ A + 20 ≤ B ∧ Hid (∃ r, A = r * 20) ∧ Hid (StbAt enc k w blk off d (Stb.Blk0 cf tg 20 A) dk wr)) (fun va _ _ => n - (intOf va).toNat)
 case atStart => exact ⟨0, 20, d, rfl, rfl, Nat.zero_le _, by omega, by omega, qH0 ⟨0, by omega⟩, HS0⟩
 case round =>
  obtain ⟨A, B, dk, rfl, rfl, hA, hB1, hB2, HR, HS⟩ := hrel
  have hds : dk.size = n := by rw [HS.out.perm.1]; exact HNN.out
  have HDS := qH0 hds
  clear hds
  by_cases hlt : B ≤ n
  ·have hltz : (B : Int) ≤ (n : Int) := by omega
   have hc := HI.out dk _ A B HDS.out HS.out.sw (by omega) hlt
   go_wp2_with (go_at_fn 117; refine hc.mono ?_; rintro e w' ⟨rfl, g1⟩)
   have HN : Hid (StbAt enc k w blk off d (Stb.Blk0 cf tg 20 B) (insertionSort (Stb.lb cf) dk A B) w') := by
    have hs := HS.out
    have hd := HDS.out
    have hnn := HNN.out
    have hi := Stb.insertion_rise (tg := tg) hO dk A B (by omega) (by omega) (hs.q.tags (by omega))
    obtain ⟨r, rfl⟩ := HR.out
    have hB : B = r * 20 + 20 := by omega
    exact qH0 (hs.next (by omega) hi.1 g1 (hs.q.next (by omega) (by omega) (by omega) hi.1 hi.2))
   have HR' : Hid (∃ r, B = r * 20) := by
    obtain ⟨r, rfl⟩ := HR.out
    exact qH0 ⟨r + 1, by omega⟩
   clear g1 hc
   go_roundw
   case measure => simp [intOf]; omega
   case rel => exact ⟨B, B + 20, _, rfl, by go_num, hlt, qN0, qN0, HR', HN⟩
  ·have hltz : ¬ (B : Int) ≤ (n : Int) := by omega
   have hc := HI.out dk _ A n HDS.out HS.out.sw hA (qN0)
   go_wp2_with (go_at_fn 117; refine hc.mono ?_; rintro e w' ⟨rfl, g1⟩)
   have HN : Hid (StbAt enc k w blk off d (Stb.Blk cf tg 20) (insertionSort (Stb.lb cf) dk A n) w') := by
    have hs := HS.out
    have hd := HDS.out
    have hnn := HNN.out
    have hi := Stb.insertion_rise (tg := tg) hO dk A n hA (by omega) (hs.q.tags (by omega))
    obtain ⟨r, rfl⟩ := HR.out
    have hw := hs.q.next (by omega) hA (by omega) hi.1 hi.2
    have he : (insertionSort (Stb.lb cf) dk (r * 20) n).size = n := hi.1.1.trans hd
    have hw' : Stb.Blk0 cf tg 20 (insertionSort (Stb.lb cf) dk (r * 20) n).size (insertionSort (Stb.lb cf) dk (r * 20) n) := by rw [he]; exact hw
    exact qH0 (hs.next (by omega) hi.1 g1 hw'.whole)
   generalize insertionSort (Stb.lb cf) dk A n = dj at HN
   clear g1 hc HDS HS HR hlt hltz hB1 hB2 hA
   rename World => wo
   go_loopw [6] (fun vs wr => ∃ (s : Nat) (dk : Array α), vs = .int .i64 s ∧ 20 ≤ s ∧ s < 9223372036854775807 ∧ Hid (StbAt enc k w blk off d (Stb.Blk cf tg s) dk wr)) (fun vs _ => n - (intOf vs).toNat)
   case atStart => exact ⟨20, dj, rfl, qN0, by omega, HN⟩
   case round =>
    obtain ⟨s, dk, rfl, hs1, hs2, HS⟩ := hrel
    by_cases hlt : s < n
    ·have hltz : (s : Int) < (n : Int) := by omega
     obtain ⟨t, ht⟩ : ∃ t, 2 * s = t := ⟨_, rfl⟩
     have htz : 2 * (s : Int) = (t : Int) := by omega
     have htz' : (s : Int) * 2 = (t : Int) := by omega
     have htb : (t : Int) ≤ 9223372036854775806 := by omega
     have htp : s < t := by omega
     have HTT := qH0 ht
     have HS2 : Hid (StbAt enc k w blk off d (Stb.Blk2 cf tg s 0) dk wr) := by
      have hs := HS.out
      exact qH0 ⟨hs.perm, hs.sw, Stb.Blk2.start hs.q⟩
     clear ht
     rename World => w1
     go_wp2
     go_loopw [7, 8] (fun va vb wr => ∃ (A B : Nat) (dk : Array α), va = .int .i64 A ∧ vb = .int .i64 B ∧ A ≤ n ∧ B ≤ A + t ∧ A + t ≤ B ∧ Hid (∃ r, A = r * (2 * s)) ∧ Hid (StbAt enc k w blk off d (Stb.Blk2 cf tg s A) dk wr)) (fun va _ _ => n - (intOf va).toNat)
     case atStart => exact ⟨0, t, dk, rfl, rfl, Nat.zero_le _, by omega, by omega, qH0 ⟨0, by omega⟩, HS2⟩
     case round =>
      obtain ⟨A, B, dl, rfl, rfl, hA, hB1, hB2, HR, HL⟩ := hrel
      have hds : dl.size = n := by rw [HL.out.perm.1]; exact HNN.out
      have HDS := qH0 hds
      clear hds
      have hAsz : ((A + s : Nat) : Int) = (A : Int) + (s : Int) := by omega
      have HAS := qH0 hAsz
      clear hAsz
      by_cases hBn : B ≤ n
      ·have hBnz : (B : Int) ≤ (n : Int) := by omega
       have hM : Stb.Mrg cf tg A (A + s) B dl := by
        have hl := HL.out
        have hd := HDS.out
        have ht := HTT.out
        obtain ⟨r, rfl⟩ := HR.out
        exact hl.q.mrg (by omega) (by omega) (by omega) (by omega)
       have hc := HM.out dl _ A (A + s) B HDS.out HL.out.sw hM
       rw [HAS.out] at hc
       clear hM
       go_wp2_with (go_at_fn 118; refine hc.mono ?_; rintro e w' ⟨rfl, dm, g1, g2, g3⟩)
       have HN2 : Hid (StbAt enc k w blk off d (Stb.Blk2 cf tg s B) dm w') := by
        have hl := HL.out
        have hd := HDS.out
        have ht := HTT.out
        have hnn := HNN.out
        obtain ⟨r, rfl⟩ := HR.out
        exact qH0 (hl.next (by omega) g1 g3 (hl.q.next (by omega) (by omega) (by omega) (Or.inl (by omega)) g1 g2))
       have HR' : Hid (∃ r, B = r * (2 * s)) := by
        have ht := HTT.out
        obtain ⟨r, rfl⟩ := HR.out
        exact qH0 ⟨r + 1, by rw [Nat.succ_mul]; omega⟩
       clear g1 g2 g3 hc
       go_roundw
       case measure => simp [intOf]; omega
       case rel => exact ⟨B, B + t, dm, rfl, by go_num, hBn, qN0, qN0, HR', HN2⟩
      ·have hBnz : ¬ (B : Int) ≤ (n : Int) := by omega
       by_cases hm : A + s < n
       ·have hmz : (A : Int) + (s : Int) < (n : Int) := by omega
        have hM : Stb.Mrg cf tg A (A + s) n dl := by
         have hl := HL.out
         have hd := HDS.out
         have ht := HTT.out
         obtain ⟨r, rfl⟩ := HR.out
         exact hl.q.mrg (by omega) (by omega) (by omega) (by omega)
        have hc := HM.out dl _ A (A + s) n HDS.out HL.out.sw hM
        rw [HAS.out] at hc
        clear hM
        go_wp2_with (go_at_fn 118; refine hc.mono ?_; rintro e w' ⟨rfl, dm, g1, g2, g3⟩)
        have HN2 : Hid (StbAt enc k w blk off d (Stb.Blk cf tg t) dm w') := by
         have hl := HL.out
         have hd := HDS.out
         have ht := HTT.out
         have hnn := HNN.out
         obtain ⟨r, rfl⟩ := HR.out
         have hw := hl.q.next (by omega) hA (by omega) (Or.inr hd.symm) g1 g2
         rw [← ht]
         exact qH0 (hl.next (by omega) g1 g3 (hw.whole (by rw [g1.1]; omega)))
        clear g1 g2 g3 hc
        go_roundw
        case measure => simp [intOf]; omega
        case rel => exact ⟨t, dm, rfl, by omega, by omega, HN2⟩
       ·have hmz : ¬ (A : Int) + (s : Int) < (n : Int) := by omega
        have HN2 : Hid (StbAt enc k w blk off d (Stb.Blk cf tg t) dl wr) := by
         have hl := HL.out
         have hd := HDS.out
         have ht := HTT.out
         have hnn := HNN.out
         obtain ⟨r, rfl⟩ := HR.out
         have hr : Stb.Rise cf tg (r * (2 * s)) n dl := by have := hl.q.short (by omega); rwa [hd] at this
         have hw := hl.q.next (d' := dl) (by omega) hA (by omega) (Or.inr hd.symm) (permIn_refl dl _ _) hr
         rw [← ht]
         exact qH0 ⟨hl.perm, hl.sw, hw.whole (by omega)⟩
        go_wp2
        go_roundw
        case measure => simp [intOf]; omega
        case rel => exact ⟨t, dl, rfl, by omega, by omega, HN2⟩
    ·have hltz : ¬ (s : Int) < (n : Int) := by omega
     go_wp2
     go_end0
     have hs := HS.out
     have hnn := HNN.out
     have hd : dk.size = n := by rw [hs.perm.1]; exact hnn
     have hr := hs.q.rise (by omega)
     rw [hd] at hr
     exact ⟨rfl, dk, hs.perm, by rw [hnn]; exact hr, hs.sw⟩
end Go.Proofs.YtnpnfajgphpabaaGreat
