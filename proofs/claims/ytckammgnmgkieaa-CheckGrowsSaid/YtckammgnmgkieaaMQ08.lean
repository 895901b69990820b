/-
  The document's CheckRec, CompareRec, SameRec. (Written by wip/tools/genref5.py.)
-/
import Derived.Test.YtckammgnmgkieaaMQ13
import Derived.Test.YtckammgnmgkieaaMQ07
import Derived.Test.YtckammgnmgkieaaMQ43
import Derived.Test.YtckammgnmgkieaaMQ10
import Derived.Deep.RegionHeld3
import Derived.ProofKit
import Derived.OpenShut
import Derived.ShutString
import Derived.ChangeArms
import Derived.ChangeSlices
import Derived.SliceStrings
import Derived.Deep.Slices
import Derived.Shelf.Vars
import Derived.Handed
import Derived.HandedShaped
namespace Go.Proofs.Ytckammgnmgkieaa
set_option maxRecDepth 20000
open Go.RowKit Go.Shelf
set_option maxRecDepth 20000
set_option linter.unusedVariables false
set_option linter.unusedSimpArgs false

set_option maxRecDepth 100000 in
set_option maxHeartbeats 4000000 in
theorem ref_CheckRec (cs : List Value) (r : Rc) (w : World) (hA : RcAt w cs r) (hk : RcOK r) :
    Calls Try.prog 15 #[.agg cs.toArray] w fun e w' => e = .returned (.int .i64 (checkR r)) ∧ Below w.heap.size w w' := by
  obtain ⟨vo, vn, vu, vt, vr, rfl, a1, a2⟩ := hA
  have HN := Lib.hid (fun W (hb : Below w.heap.size w W) => kn_RCheck vo r.owner _ rfl W (a1.below hb) hk.1)
  have HD := Lib.hid (fun W (hb : Below w.heap.size w W) => ref_CheckData _ r.data W (a2.below hb) hk.2.2)
  unfold CheckPost at HD
  have hR := Lib.hid (show checkR r = if checkN r.owner ≠ 0 then checkN r.owner else if 2147483647 < r.ttl then 7 else checkD r.data from rfl)
  generalize checkR r = res at *
  generalize checkN r.owner = q at *
  generalize checkD r.data = q2 at *
  generalize r.data.ty = x at *
  obtain ⟨t, ht⟩ : ∃ t, r.ttl = t := ⟨_, rfl⟩
  rw [ht] at hR ⊢
  have hb0 : Below w.heap.size w (w.alloc (.cells #[vo, .int .u32 (t : Int), .int .i64 x, vn, vu, vt, vr] 53)) := (Below.refl w.heap.size w).alloc (Nat.le_refl _) _
  have K1 := Lib.hid (knew w (.cells #[vo, .int .u32 (t : Int), .int .i64 x, vn, vu, vt, vr] 53))
  have HBB := Lib.hid hb0
  have hn := HN.out _ hb0
  clear a1 a2 hb0 hk ht HN
  by_cases hq : q = 0
  · subst hq
    by_cases hov : 2147483647 < t
    · have HR : Hid (res = 7) := Lib.hid (by rw [hR.out, if_neg (by simp), if_pos hov])
      have hovz : (2147483647 : Int) < (t : Int) := by omega
      clear hR
      go_enter Try.func15, Try.ntmps15
      go_wp2_with fail
      refine hn.mono ?_
      rintro e w1 ⟨rfl, hb1⟩
      have c1 := (hb1.block _ (kblock_lt K1.out)).trans K1.out
      have p1 := kcell c1 1 (.int .u32 (t : Int)) rfl
      have HB1 := Lib.hid (HBB.out.trans (hb1.mono HBB.out.size))
      clear hn hb1 c1
      go_wp2
      go_ret
      exact ⟨by rw [HR.out]; rfl, HB1.out⟩
    · have HR : Hid (res = q2) := Lib.hid (by rw [hR.out, if_neg (by simp), if_neg hov])
      have hovz : ¬ (2147483647 : Int) < (t : Int) := by omega
      clear hR
      go_enter Try.func15, Try.ntmps15
      go_wp2_with fail
      refine hn.mono ?_
      rintro e w1 ⟨rfl, hb1⟩
      have c1 := (hb1.block _ (kblock_lt K1.out)).trans K1.out
      have p1 := kcell c1 1 (.int .u32 (t : Int)) rfl; have p2 := kcell c1 2 _ rfl; have p3 := kcell c1 3 _ rfl; have p4 := kcell c1 4 _ rfl; have p5 := kcell c1 5 _ rfl; have p6 := kcell c1 6 _ rfl
      have HB1 := Lib.hid (HBB.out.trans (hb1.mono HBB.out.size))
      have hd := HD.out w1 HB1.out
      clear hn hb1 c1
      go_wp2_with fail
      refine hd.mono ?_
      rintro e w2 ⟨rfl, hb2⟩
      go_wp2
      go_ret
      exact ⟨by rw [HR.out]; rfl, HB1.out.trans (hb2.mono HB1.out.size)⟩
  · have HR : Hid (res = q) := Lib.hid (by rw [hR.out, if_pos hq])
    have hqz : (q == 0) = false := by simpa using hq
    have hqn : (q != 0) = true := by simpa using hq
    clear hR
    go_enter Try.func15, Try.ntmps15
    go_wp2_with fail
    refine hn.mono ?_
    rintro e w1 ⟨rfl, hb1⟩
    have HB1 := Lib.hid (HBB.out.trans (hb1.mono HBB.out.size))
    clear hn hb1
    go_wp2
    go_ret
    exact ⟨by rw [HR.out]; rfl, HB1.out⟩

end Go.Proofs.Ytckammgnmgkieaa

/-
  law5.Good of a row, law12.Good.
-/
namespace Go.Proofs.Ytckammgnmgkieaa
set_option maxRecDepth 20000
open Go.RowKit Go.Shelf
set_option maxRecDepth 20000
set_option linter.unusedVariables false
set_option linter.unusedSimpArgs false
def okR (r : Rc) : Bool := decide (checkR r = 0)
def goodRs (l : List Rc) : Bool := fewRs l && l.all okR
theorem all_succ {α : Type} {p : α → Bool} {l : List α} {k : Nat} (h : k < l.length) : (l.take (k + 1)).all p = ((l.take k).all p && p l[k]) := by
  rw [List.take_succ_eq_append_getElem h, List.all_append]; simp
def RowArg (W : World) (v : Value) (l : List Rc) : Prop := ∃ css, SlK W v css ∧ (css.length = l.length ∧ ∀ i (h1 : i < css.length) (h2 : i < l.length), RcArg W css[i] l[i])
theorem RowArg.row {W : World} {v : Value} {l : List Rc} (h : RowArg W v l) : RowC W v l := by
  obtain ⟨css, h1, h2, h3⟩ := h
  exact ⟨css, h1, h2, fun i a b => (h3 i a b).rcAt⟩
theorem RowArg.ok {W : World} {v : Value} {l : List Rc} (h : RowArg W v l) (hf : fewRs l = true) : l.length ≤ 60 ∧ ∀ r ∈ l, RcOK r := by
  obtain ⟨css, h1, h2, h3⟩ := h
  simp only [fewRs, Bool.and_eq_true, decide_eq_true_eq, List.all_eq_true] at hf
  refine ⟨hf.1, fun r hr => ?_⟩
  obtain ⟨i, hi, rfl⟩ := List.mem_iff_getElem.1 hr
  exact (h3 i (by omega) hi).ok (hf.2 _ hr)
theorem fewR_names {r : Rc} (h : fewR r = true) : r.data.names.length ≤ 1048576 := by
  simp only [fewR, Bool.and_eq_true] at h
  have h2 := h.2
  simp only [fewD, Bool.and_eq_true, decide_eq_true_eq] at h2; omega
set_option maxRecDepth 100000 in
set_option maxHeartbeats 8000000 in
theorem law5_Good (v : Value) (l : List Rc) (w0 w : World) (hL : RowArg w0 v l) (hwz : Below w0.heap.size w0 w) :
    Calls Try.prog 7 #[v] w fun e w' => e = .returned (.bool (goodRs l)) ∧ Below w.heap.size w w' := by
  have HOK := Lib.hid hL.ok
  obtain ⟨css, hA, hR⟩ := hL
  have hf := law5_Few v css l w0 w hA hR hwz
  have HR := Lib.hid hR; have HA := Lib.hid hA; have HWZ := Lib.hid hwz
  obtain ⟨a, c, rfl, hc1, -, -⟩ := id hA
  obtain ⟨n, hn⟩ : ∃ n, css.length = n := ⟨_, rfl⟩
  have HLN := Lib.hid hn
  have HDL := Lib.hid (show l.length = n by rw [← hR.1]; exact hn)
  rw [hn] at hf ⊢
  have HG := Lib.hid (show goodRs l = (fewRs l && l.all okR) from rfl)
  generalize goodRs l = res at *
  clear hA hR hwz hn hc1
  go_enter Try.func7, Try.ntmps7
  go_wp2_with fail
  refine hf.mono ?_
  rintro e w1 ⟨rfl, hb1⟩
  have HB1 := Lib.hid hb1
  clear hf hb1
  obtain ⟨fw, hfw⟩ : ∃ fw, fewRs l = fw := ⟨_, rfl⟩
  have HFW := Lib.hid hfw
  rw [hfw] at HG ⊢
  clear hfw
  cases fw
  · have H1 : Hid (res = false) := Lib.hid (by rw [HG.out]; rfl)
    clear HG
    go_wp2
    go_ret
    exact ⟨by rw [H1.out]; rfl, HB1.out⟩
  obtain ⟨hl60, hok⟩ := HOK.out HFW.out
  have HOKL := Lib.hid hok
  have HFR := Lib.hid (show ∀ r ∈ l, r.data.names.length ≤ 1048576 from fun r hr => by
    have h := HFW.out
    simp only [fewRs, Bool.and_eq_true, decide_eq_true_eq, List.all_eq_true] at h
    exact fewR_names (h.2 r hr))
  have hn60 : n ≤ 60 := by have := HDL.out; omega
  clear hok hl60 HOK
  go_wp2
  go_loopw [3] (fun vi wr => ∃ k : Nat, vi = .int .i64 k ∧ k ≤ n ∧ Hid ((l.take k).all okR = true) ∧ Hid (Below w.heap.size w wr)) (fun vi _ => n - (intOf vi).toNat)
  case atStart => exact ⟨0, rfl, Nat.zero_le _, Lib.hid (by simp), HB1⟩
  case round =>
    obtain ⟨k, rfl, hk, HO, HB⟩ := hrel
    by_cases hlt : k < n
    · have hltz : (k : Int) < (n : Int) := by omega
      have hk1 : k < css.length := by have := HLN.out; omega
      have hk2 : k < l.length := by have := HDL.out; omega
      have hck : ∀ cs ∈ css, cs.length = 7 := fun cs hc => by
        obtain ⟨i, hi, rfl⟩ := List.mem_iff_getElem.1 hc
        exact ((HR.out.2 i hi (by have := HR.out.1; omega)).rcAt).len
      obtain ⟨b, off, rfl, hb, hel⟩ := HA.out.elem hck (by omega)
      have h0 := (HR.out.2 k hk1 hk2).rcAt
      have hokr := HOKL.out _ (List.getElem_mem hk2)
      have hnl := HFR.out _ (List.getElem_mem hk2)
      have hall := all_succ (p := okR) hk2
      obtain ⟨r, hr⟩ : ∃ r, l[k]'hk2 = r := ⟨_, rfl⟩
      have hrm : r ∈ l := by rw [← hr]; exact List.getElem_mem _
      rw [hr] at h0 hokr hnl hall
      rw [HO.out, Bool.true_and] at hall
      clear hr
      have hwr : Below w0.heap.size w0 wr := HWZ.out.trans (HB.out.mono HWZ.out.size)
      have hof := law5_Of w0 _ r wr h0 hwr hnl
      obtain ⟨⟨p0, q0, r0⟩, ⟨p3, q3, r3⟩, ⟨p4, q4, r4⟩, ⟨p5, q5, r5⟩, ⟨p6, q6, r6⟩, e0⟩ := h0.shape
      simp only at e0
      obtain ⟨c0, c1, c2, c3, c4, c5, c6⟩ := hel k hk1 _ _ _ _ _ _ _ e0 wr hwr
      rw [e0] at hof
      have HWR := Lib.hid hwr; have HOKR := Lib.hid hokr; have HALL := Lib.hid hall; have HRM := Lib.hid hrm
      clear h0 hnl e0 hel hk1 hk2 hck hwr hokr hall hrm
      go_wp2_with fail
      refine hof.mono ?_
      rintro e w2 ⟨cs2, rfl, hof2, hb2⟩
      have HB2 := Lib.hid (HB.out.trans (hb2.mono HB.out.size))
      have hck := ref_CheckRec cs2 r w2 (hof2.rcAt (HWR.out.trans (hb2.mono HWR.out.size))) HOKR.out
      clear hb2 hof hof2 c0 c1 c2 c3 c4 c5 c6
      go_wp2_with fail
      refine hck.mono ?_
      rintro e w3 ⟨rfl, hb3⟩
      have HB3 := Lib.hid (HB2.out.trans (hb3.mono HB2.out.size))
      clear hb3 hck
      unfold okR at HALL
      generalize checkR r = cr at *
      by_cases hcr : cr = 0
      · have hbb : (cr != 0) = false := by simpa using hcr
        have HA2 : Hid ((l.take (k + 1)).all okR = true) := Lib.hid (by unfold okR; rw [HALL.out]; simpa using hcr)
        clear hcr HALL
        go_wp2
        go_roundw
        case measure => simp [intOf]; omega
        case rel => exact ⟨k + 1, by go_num, by omega, HA2, HB3⟩
      · have hbb : (cr != 0) = true := by simpa using hcr
        have H1 : Hid (res = false) := Lib.hid (by
          rw [HG.out, Bool.true_and]
          have h9 : (l.take (k + 1)).all okR = false := by unfold okR; rw [HALL.out]; simpa using hcr
          cases h8 : l.all okR
          · rfl
          · exfalso
            rw [List.all_eq_true] at h8
            have : (l.take (k + 1)).all okR = true := by rw [List.all_eq_true]; exact fun x hx => h8 x (List.mem_of_mem_take hx)
            rw [h9] at this; cases this)
        clear hcr HALL
        go_wp2
        go_ret
        exact ⟨by rw [H1.out]; rfl, HB3.out⟩
    · obtain rfl : k = n := by omega
      have h := HO.out
      rw [List.take_of_length_le (by have := HDL.out; omega)] at h
      have H1 : Hid (res = true) := Lib.hid (by rw [HG.out, h]; rfl)
      clear h
      go_wp2
      go_ret
      exact ⟨by rw [H1.out]; rfl, HB.out⟩
set_option maxRecDepth 100000 in
set_option maxHeartbeats 8000000 in
theorem law12_Good (vo vl : Value) (o : Nm) (l : List Rc) (w0 w : World) (hO : NmArg w0 vo o) (hL : RowArg w0 vl l) (hwz : Below w0.heap.size w0 w) :
    Calls Try.prog 6 #[vo, vl] w fun e w' => e = .returned (.bool (goodN o && goodRs l)) ∧ Below w.heap.size w w' := by
  have hc := kn_Good vo o _ rfl w0 w hO (hO.1.below hwz)
  have HL := Lib.hid (fun (W : World) (hb : Below w.heap.size w W) => law5_Good vl l w0 W hL (hwz.trans (hb.mono hwz.size)))
  clear hO hL hwz
  generalize goodN o = g at *
  go_enter Try.func6, Try.ntmps6
  go_wp2_with fail
  refine hc.mono ?_
  rintro e w1 ⟨rfl, hb1⟩
  have HB1 := Lib.hid hb1
  clear hc hb1
  cases g
  · go_wp2
    go_ret
    exact ⟨rfl, HB1.out⟩
  · have hc := HL.out w1 HB1.out
    clear HL
    go_wp2_with fail
    refine hc.mono ?_
    rintro e w2 ⟨rfl, hb2⟩
    have HB2 := Lib.hid (HB1.out.trans (hb2.mono HB1.out.size))
    clear hc hb2
    go_wp2
    go_ret
    exact ⟨by rw [Bool.true_and]; rfl, HB2.out⟩
end Go.Proofs.Ytckammgnmgkieaa

/-
  law12.known holds. (Written by wip/tools/genzk.py.)
-/
namespace Go.Proofs.Ytckammgnmgkieaa
set_option maxRecDepth 20000
open Go.RowKit Go.Shelf
set_option maxRecDepth 20000
set_option linter.unusedVariables false
set_option linter.unusedSimpArgs false
def allocs (w : World) (os : List Obj) : World := os.foldl World.alloc w
theorem allocs_below : ∀ (os : List Obj) (w : World), Below w.heap.size w (allocs w os)
  | [], w => Below.refl _ _
  | x :: r, w => by
    have h1 := (Below.refl w.heap.size w).alloc (Nat.le_refl _) x
    exact h1.trans ((allocs_below r (w.alloc x)).mono (by simp))
theorem allocs_at : ∀ (os : List Obj) (w : World) (i : Nat) (h : i < os.length), (allocs w os).heap[w.heap.size + i]? = some os[i]
  | [], w, i, h => by simp at h
  | x :: r, w, 0, _ => ((allocs_below r (w.alloc x)).block w.heap.size (by simp)).trans (knew w x)
  | x :: r, w, i + 1, h => by
    have := allocs_at r (w.alloc x) i (by simpa using h)
    rw [World.size_alloc] at this
    rw [show w.heap.size + (i + 1) = w.heap.size + 1 + i by omega]
    exact this
theorem nm_lit' {W : World} {g : Nat} {l : List Value} {T : TypeId} {n : Nm} (h : W.heap[g]? = some (.cells l.toArray T)) (e : n.map strV = l) : NmAt W (.slice (some ⟨g, 0, none⟩) l.length l.length) n := nmAt_sl.2 (by rw [e]; exact slAt_blk h)
end Go.Proofs.Ytckammgnmgkieaa

/-
  zone.New: what it makes lies behind all that was there.
-/
namespace Go.Proofs.Ytckammgnmgkieaa
set_option maxRecDepth 20000
open Go.RowKit Go.Shelf
set_option maxRecDepth 20000
set_option linter.unusedVariables false
set_option linter.unusedSimpArgs false
theorem own_base {W : World} {base base' : Nat} {v : Value} {css : List (List Value)} (h : OwnC 7 33 W base v css) (hb : base' ≤ base) : OwnC 7 33 W base' v css := by
  refine ⟨h.1, ?_⟩
  rcases h.2 with h1 | ⟨g, cap, cur, e, h1, h2⟩
  · exact .inl h1
  · exact .inr ⟨g, cap, cur, e, Nat.le_trans hb h1, h2⟩
/-- A zone whose parts lie from a block on. -/
def ZonF (W : World) (B : Nat) (za : Option Addr) (zn zc : Nat) (v1 : Option Addr) (m c : Nat) (o : Nm) (rs : List Rc) : Prop :=
  OwnG 9 strV W B (.slice za zn zc) o ∧ NmOK o ∧ (∃ css, OwnC 7 33 W B (.slice v1 m c) css ∧ css.length = rs.length ∧ ∀ j (h1 : j < css.length) (h2 : j < rs.length), FrAt W B css[j] rs[j]) ∧ (∀ r ∈ rs, RcOK r) ∧ m ≤ 1048576
theorem ZonF.zonS {W : World} {B : Nat} {za v1 : Option Addr} {zn zc m c : Nat} {o : Nm} {rs : List Rc} (h : ZonF W B za zn zc v1 m c o rs) : ZonS W za zn zc v1 m c o rs := by
  obtain ⟨h1, h2, ⟨css, h3, h4, h5⟩, h6, h7⟩ := h
  refine ⟨h1.nmAt, h2, ⟨css, SlK.of_own h3 (fun cs hc => ?_), ⟨h4, fun i a b => (h5 i a b).rcAt⟩⟩, h6, h7⟩
  obtain ⟨i, hi, rfl⟩ := List.mem_iff_getElem.1 hc
  exact (h5 i hi (by omega)).rcAt.len
theorem ZonF.set {W : World} {B A : Nat} {za v1 : Option Addr} {zn zc m c : Nat} {o : Nm} {rs : List Rc} (h : ZonF W B za zn zc v1 m c o rs) (hA : A < B) (j : Nat) (u : Value) : ZonF (W.setCell ⟨A, j, none⟩ u) B za zn zc v1 m c o rs := by
  obtain ⟨h1, h2, ⟨css, h3, h4, h5⟩, h6, h7⟩ := h
  have hg := grownBy_set W A j u
  exact ⟨h1.kept hg (.inr fun e => by have := h1.base_le A e; omega), h2, ⟨css, OwnK.kept h3 hg (.inr fun e => by have := OwnK.base_le h3 A e; omega), h4, fun i a b => (h5 i a b).keptX hA hg⟩, h6, h7⟩
def NewPostF (w : World) (o : Nm) (rs : List Rc) (e : Ending) (w' : World) : Prop := ∃ za zn zc v1 m c, e = .returned (.agg #[.slice za zn zc, .slice v1 m c]) ∧ ZonF w' w.heap.size za zn zc v1 m c o rs ∧ Below w.heap.size w w'
set_option maxRecDepth 100000 in
set_option maxHeartbeats 8000000 in
theorem zone_NewF {w : World} (vo vl : Value) (o : Nm) (l : List Rc) (hO : NmAt w vo o) (hko : NmOK o) (hL : RowC w vl l) (hOK : ∀ r ∈ l, RcOK r) (hl : l.length ≤ 1048576) :
    Calls Try.prog 9 #[vo, vl] w (NewPostF w o (canonM l)) := by
  have HCL := Lib.hid (fun (W : World) (hb : Below w.heap.size w W) => clone_Name vo o W (hO.below hb).1 (hO.below hb).2 (by have := hko.1; omega))
  have HCN := Lib.hid (fun (W : World) (hb : Below w.heap.size w W) => by
    obtain ⟨css, h1, h2⟩ := hL.below hb
    exact rec_Canon vl css l W h1 h2 hOK (by rw [h2.1]; exact hl))
  have HOKC := Lib.hid (canonM_ok' l hOK)
  have HLC := Lib.hid (show (canonM l).length ≤ 1048576 by have := canonM_length l; omega)
  obtain ⟨ao, co, rfl, -⟩ := nmAt_sl.1 hO
  obtain ⟨al, cl, el⟩ : ∃ a c, vl = .slice a l.length c := by
    obtain ⟨css, ⟨a, c, e, _⟩, h2⟩ := hL
    exact ⟨a, c, by rw [e, h2.1]⟩
  subst el
  generalize (List.map strV o).length = qo at *
  obtain ⟨C, hC⟩ : ∃ C, canonM l = C := ⟨_, rfl⟩
  unfold CanonPost at HCN
  rw [hC] at HCN HOKC HLC ⊢
  have hB0 := (Below.refl w.heap.size w).alloc (Nat.le_refl _) (.cells #[.slice none 0 0, .slice none 0 0] 39)
  have X0 := Lib.hid (knew w (.cells #[.slice none 0 0, .slice none 0 0] 39))
  have hc := HCL.out _ hB0
  have HB0 := Lib.hid hB0
  have HKO := Lib.hid hko
  clear hO hko hL hOK hl hB0 HCL hC
  go_enter Try.func9, Try.ntmps9
  go_wp2_with fail
  refine hc.mono ?_
  rintro e w1 ⟨v1, rfl, ho1, hb1⟩
  obtain ⟨a1, c1, rfl⟩ := ho1.shape
  have HB1 := Lib.hid (HB0.out.trans (hb1.mono HB0.out.size))
  have X1 := Lib.hid ((hb1.block w.heap.size (kblock_lt X0.out)).trans X0.out)
  have HO1 := Lib.hid (ho1.weaken HB0.out.size)
  have hc2 := HCN.out w1 HB1.out
  clear ho1 hb1 hc HB0 X0 HCN
  go_wp2_with fail
  refine hc2.mono ?_
  rintro e w2 ⟨v2, css, rfl, ho2, hl2, hf2, hb2⟩
  obtain ⟨a2, c2, rfl⟩ := OwnK.shape ho2
  have HB2 := Lib.hid (HB1.out.trans (hb2.mono HB1.out.size))
  have x2 := (hb2.block w.heap.size (kblock_lt X1.out)).trans X1.out
  have HO2 := Lib.hid (HO1.out.below hb2)
  obtain ⟨m, hm⟩ : ∃ m, css.length = m := ⟨_, rfl⟩
  rw [hm] at ho2 ⊢
  have HR2 := Lib.hid (And.intro ho2 (And.intro hl2 hf2))
  have HX2 := Lib.hid x2
  have hsz : w.heap.size < w1.heap.size := kblock_lt X1.out
  have y0 := kcell x2 0 _ rfl; have y1 := kcell x2 1 _ rfl; have z0 := kfrozen x2 0; have z1 := kfrozen x2 1
  have HM := Lib.hid hm
  clear ho2 hl2 hf2 hb2 hc2 HB1 X1 HO1 x2 hm
  go_wp2_with fail
  have q0 := kset HX2.out 0 (.slice a1 o.length c1)
  have q1 := kset q0 1 (.slice a2 m c2)
  refine bodyPost_ret (results_zone rfl _ _ rfl rfl rfl q1) rfl ?_
  obtain ⟨h1, h2, h3⟩ := HR2.out
  have g0 := grownBy_set w2 w.heap.size 0 (.slice a1 o.length c1)
  have g1 := grownBy_set (w2.setCell ⟨w.heap.size, 0, none⟩ (.slice a1 o.length c1)) w.heap.size 1 (.slice a2 m c2)
  refine ⟨a1, _, c1, a2, m, c2, rfl, ⟨(HO2.out.keptB HX2.out (by decide) 0 _).keptB q0 (by decide) 1 _, HKO.out, ⟨css, own_base (OwnK.keptB (OwnK.keptB h1 HX2.out (by decide) 0 _) q0 (by decide) 1 _) (by omega), by have := HM.out; omega, fun i a b => (((h3 i a b).keptX hsz g0).keptX hsz g1).weaken (by omega)⟩, HOKC.out, by have := HM.out; have := HLC.out; omega⟩, ?_⟩
  exact (HB2.out.setCell (p := ⟨w.heap.size, 0, none⟩) (Nat.le_refl _) _).setCell (p := ⟨w.heap.size, 1, none⟩) (Nat.le_refl _) _
end Go.Proofs.Ytckammgnmgkieaa

/-
  The opening of arguments of types rdata.Data, rec.Rec, []rec.Rec.
-/
namespace Go.Proofs.Ytckammgnmgkieaa
set_option maxRecDepth 20000
open Go Go.ChangeShapes Go.WideShapes Go.ChangeAt Go.RowKit Go.Shelf
set_option maxRecDepth 20000
theorem sl_row {W : World} {x : Addr} {l c : Nat} (f : Nat → Value) (hl : l ≤ c) (hcell : ∀ i, i < c → W.cell? (x.add i) = some (f i)) : SlAt W (.slice (some x) l c) ((List.range l).map f) := by
  refine ⟨some x, c, by simp, by simpa using hl, by simp, ?_⟩
  by_cases h0 : l = 0
  · subst h0; left; simp
  · right
    obtain ⟨b, off, spot⟩ := x
    have hspot : spot = none := by simpa [Addr.add] using World.cell?_spot (hcell 0 (by omega))
    subst hspot
    have hb : b < W.heap.size := by
      have h := hcell 0 (by omega)
      exact World.block_lt_of_cell? W _ (by simpa [Addr.add] using h : W.cell? ⟨b, off, none⟩ = some (f 0))
    refine ⟨b, off, rfl, hb, fun j hj => ?_⟩
    rw [List.length_map, List.length_range] at hj
    rw [← Go.WideShapes.add_plain, hcell j (by omega)]
    simp
theorem ints_row {W : World} {k : IntKind} {x : Addr} {l c : Nat} {zs : List Int} (hl : l ≤ c) (hz : zs.length = c) (hcell : ∀ i, i < zs.length → W.cell? (x.add i) = some (.int k (zs.getD i 0))) : SlAt W (.slice (some x) l c) ((zs.take l).map fun z => .int k z) := by
  have h := sl_row (fun i => Value.int k (zs.getD i 0)) hl (fun i hi => hcell i (by omega))
  have e : (List.range l).map (fun i => Value.int k (zs.getD i 0)) = (zs.take l).map fun z => Value.int k z := by
    apply List.ext_getElem
    · simp; omega
    · intro i h1 h2
      simp only [List.length_map, List.length_range] at h1
      have : i < zs.length := by omega
      simp [List.getD, this]
  rwa [e] at h
variable {H : Type} {enc : TypeId × Value → H} {W : World}
theorem cells3 : Try.prog.cellsOf 3 = 1 ∧ Try.prog.cellsOf 27 = 1 ∧ Try.prog.cellsOf 28 = 1 ∧ Try.prog.cellsOf 22 = 1 ∧ Try.prog.cellsOf 29 = 1 ∧ Try.prog.cellsOf 31 = 5 ∧ Try.prog.cellsOf 23 = 1 ∧ Try.prog.cellsOf 9 = 1 ∧ Try.prog.cellsOf 26 = 1 ∧ Try.prog.cellsOf 5 = 1 :=
  ⟨by kernel_rfl, by kernel_rfl, by kernel_rfl, by kernel_rfl, by kernel_rfl, by kernel_rfl, by kernel_rfl, by kernel_rfl, by kernel_rfl, by kernel_rfl⟩
theorem open_nm {t : TypeId} (ht : Try.prog.underlying t = some (.slice 9)) {fuel : Nat} {v : Value} {x : DataW H × List MemPlace} (hf : DataW.trod enc Try.prog W 0 (fun _ => true) true fuel t [v] = some x) : ∃ zs, NmArg W v zs := by
  rcases Go.ChangeShapes.open_strings ht Try.underlying9 (by kernel_rfl) hf with ⟨hcs, _⟩ | ⟨x, l, c, zs, hcs, _, hl, hm, hz, _, hcell, hwz⟩
  · simp at hcs
    subst hcs
    exact ⟨[], nmArg_nil W⟩
  · simp at hcs
    subst hcs
    exact ⟨_, nmArg_row hl hm (by simpa using hz) hcell hwz⟩
theorem open_nms {fuel : Nat} {v : Value} {x : DataW H × List MemPlace} (hf : DataW.trod enc Try.prog W 0 (fun _ => true) true fuel 27 [v] = some x) : ∃ ns : List Nm, NmsAt W v ns ∧ ∀ n ∈ ns, n.length ≤ maxLen ∧ ∀ y ∈ n, y.length ≤ maxLen := by
  rcases Go.Deep.open_slice1 Try.underlying27 (by kernel_rfl) hf with ⟨hcs, _⟩ | ⟨a, len, cap, m, n, V, D, Pl, hcs, _, hl, hm, hmm, _, hV⟩
  · simp at hcs
    subst hcs
    exact ⟨[], NmsAt.nil W, by simp⟩
  · simp at hcs
    subst hcs
    simp only [if_true] at hmm
    subst hmm
    obtain ⟨F, hF⟩ := Go.Deep.choose_lt (α := Nm) (p := fun i z => NmArg W (V i) z) (fun i hi => open_nm Try.underlying23 (hV i hi).2)
    refine ⟨(List.range len).map F, ⟨(List.range len).map V, sl_row V hl (fun i hi => (hV i hi).1), by simp, fun j hj => ?_⟩, ?_⟩
    · simp only [List.length_map, List.length_range] at hj
      simpa using (hF j (by omega)).1
    · intro n hn
      obtain ⟨i, hi, rfl⟩ := List.mem_map.1 hn
      exact (hF i (by have := List.mem_range.1 hi; omega)).2
theorem wf_u32 {n : Int} (h : (Lit.int .u32 n).wf = true) : 0 ≤ n ∧ n < 2 ^ 32 := by
  simp [Lit.wf] at h
  have e1 : IntKind.u32.min = 0 := by decide
  have e2 : IntKind.u32.max = 4294967295 := by decide
  omega
theorem wf_u8 {n : Int} (h : (Lit.int .u8 n).wf = true) : 0 ≤ n ∧ n < 256 := by
  simp [Lit.wf] at h
  have e1 : IntKind.u8.min = 0 := by decide
  have e2 : IntKind.u8.max = 255 := by decide
  omega
theorem wf_i64 {n : Int} (h : (Lit.int .i64 n).wf = true) : -(2 ^ 63) ≤ n ∧ n < 2 ^ 63 := by
  simp [Lit.wf] at h
  have e1 : IntKind.i64.min = -9223372036854775808 := by decide
  have e2 : IntKind.i64.max = 9223372036854775807 := by decide
  omega
theorem open_u32s {fuel : Nat} {v : Value} {x : DataW H × List MemPlace} (hf : DataW.trod enc Try.prog W 0 (fun _ => true) true fuel 28 [v] = some x) : ∃ ns : List Nat, SlAt W v (ns.map u32V) ∧ ∀ n ∈ ns, n < 2 ^ 32 := by
  rcases open_ints Try.underlying28 Try.underlying26 (by kernel_rfl) hf with ⟨hcs, _⟩ | ⟨a, l, c, zs, hcs, _, hl, hm, hz, _, hcell, hw⟩
  · simp at hcs
    subst hcs
    exact ⟨[], SlAt.nil W, by simp⟩
  · simp at hcs
    subst hcs
    refine ⟨(zs.take l).map Int.toNat, ?_, ?_⟩
    · have h := ints_row hl (by simpa using hz) hcell
      have e : ((zs.take l).map Int.toNat).map u32V = (zs.take l).map fun z => Value.int .u32 z := by
        rw [List.map_map]
        apply List.map_congr_left
        intro z hz
        have := wf_u32 (hw z (List.mem_of_mem_take hz))
        show Value.int .u32 ((z.toNat : Nat) : Int) = _
        rw [Int.toNat_of_nonneg this.1]
      rw [e]; exact h
    · intro n hn
      obtain ⟨z, hz, rfl⟩ := List.mem_map.1 hn
      have := wf_u32 (hw z (List.mem_of_mem_take hz))
      omega
theorem open_u8s {fuel : Nat} {v : Value} {x : DataW H × List MemPlace} (hf : DataW.trod enc Try.prog W 0 (fun _ => true) true fuel 29 [v] = some x) : ∃ ns : List UInt8, SlAt W v (ns.map bv) := by
  rcases open_ints Try.underlying29 Try.underlying5 (by kernel_rfl) hf with ⟨hcs, _⟩ | ⟨a, l, c, zs, hcs, _, hl, hm, hz, _, hcell, hw⟩
  · simp at hcs
    subst hcs
    exact ⟨[], SlAt.nil W⟩
  · simp at hcs
    subst hcs
    refine ⟨(zs.take l).map fun z => UInt8.ofNat z.toNat, ?_⟩
    have h := ints_row hl (by simpa using hz) hcell
    have e : ((zs.take l).map fun z => UInt8.ofNat z.toNat).map bv = (zs.take l).map fun z => Value.int .u8 z := by
      rw [List.map_map]
      apply List.map_congr_left
      intro z hz
      have := wf_u8 (hw z (List.mem_of_mem_take hz))
      show Value.int .u8 ((UInt8.ofNat z.toNat).toNat : Int) = _
      congr 1
      simp
      omega
    rw [e]; exact h
theorem open_data {fuel : Nat} {cs : List Value} {x : DataW H × List MemPlace} (hf : DataW.trod enc Try.prog W 0 (fun _ => true) true fuel 31 cs = some x) : ∃ d, DatArg W (.agg cs.toArray) d := by
  obtain ⟨k1, k2, k3, k4, k5, k6, _⟩ := cells3
  obtain ⟨xs, n, _, _, hl, hx, hfd⟩ := DataW.trod_struct Try.underlying31 hf
  rw [k6] at hl
  match cs, hl with
  | [c0, c1, c2, c3, c4], _ =>
  match xs, hx with
  | [y0, y1, y2, y3, y4], _ =>
  have h0 : DataW.trod enc Try.prog W 0 (fun _ => true) true n 3 (List.take (Try.prog.cellsOf 3) (List.drop 0 [c0, c1, c2, c3, c4])) = some y0 := hfd 0 _ rfl
  rw [k1] at h0
  replace h0 : DataW.trod enc Try.prog W 0 (fun _ => true) true n 3 [c0] = some y0 := h0
  have h1 : DataW.trod enc Try.prog W 0 (fun _ => true) true n 27 (List.take (Try.prog.cellsOf 27) (List.drop 1 [c0, c1, c2, c3, c4])) = some y1 := hfd 1 _ rfl
  rw [k2] at h1
  replace h1 : DataW.trod enc Try.prog W 0 (fun _ => true) true n 27 [c1] = some y1 := h1
  have h2 : DataW.trod enc Try.prog W 0 (fun _ => true) true n 28 (List.take (Try.prog.cellsOf 28) (List.drop 2 [c0, c1, c2, c3, c4])) = some y2 := hfd 2 _ rfl
  rw [k3] at h2
  replace h2 : DataW.trod enc Try.prog W 0 (fun _ => true) true n 28 [c2] = some y2 := h2
  have h3 : DataW.trod enc Try.prog W 0 (fun _ => true) true n 22 (List.take (Try.prog.cellsOf 22) (List.drop 3 [c0, c1, c2, c3, c4])) = some y3 := hfd 3 _ rfl
  rw [k4] at h3
  replace h3 : DataW.trod enc Try.prog W 0 (fun _ => true) true n 22 [c3] = some y3 := h3
  have h4 : DataW.trod enc Try.prog W 0 (fun _ => true) true n 29 (List.take (Try.prog.cellsOf 29) (List.drop 4 [c0, c1, c2, c3, c4])) = some y4 := hfd 4 _ rfl
  rw [k5] at h4
  replace h4 : DataW.trod enc Try.prog W 0 (fun _ => true) true n 29 [c4] = some y4 := h4
  obtain ⟨ty, e0, _, w0⟩ := DataW.trod_int Try.underlying3 h0
  obtain ⟨ns, n1, n2⟩ := open_nms h1
  obtain ⟨us, u1, u2⟩ := open_u32s h2
  obtain ⟨ts, t1⟩ := open_nm Try.underlying22 h3
  obtain ⟨rs, r1⟩ := open_u8s h4
  simp at e0
  subst e0
  exact ⟨⟨ty, ns, us, ts, rs⟩, ⟨c1, c2, c3, c4, rfl, n1, u1, t1.1, r1⟩, wf_i64 w0, n2, u2, t1.2.2⟩
/-- A law's row from its walk, over laid variables, the world's shape handed on. -/
theorem returnsInHanded_and_shaped {a : Assume} {C : Checked} {os : Os} {f : FuncId} {fn : Func} {s : ChangeSpec} {conds : List PathCond} {apart fresh handsOn again : Bool} {X : World → Array Value → Prop}
    (hX : ∀ (w w' : World) (args : Array Value), w.heap = w'.heap → X w args → X w' args)
    (own : ownKnob C.prog.godebug = none) (started : os.Started) (noInit : C.prog.inits.idxOf? f = none) (hfn : C.prog.funcs[f]? = some fn)
    (witness : ∃ (w : World) (tape : Tape) (i : Input), w.os = os ∧ (w.forCall tape i).Shaped C.prog ∧ i.vars = [] ∧ Input.okWide C.prog (w.forCall tape i) .any w.heap.size f i ∧
      ((s.pre enc C.prog fn conds apart (w.forCall tape i).memory i.args ∧ X (w.forCall tape i).memory i.args) ∧ sizedMet enc C.prog fn (OpenSpec.ofChange s) apart (w.forCall tape i).memory i.args) ∧ a.holds C.prog (lone (Frame.enter C.prog f i.args .normal) [] (w.forCall tape i)))
    (contract : ∀ (W : World) (base : Nat) (args : Array Value) (ds gs : List (DataW H)) (before : List MemPlace),
      (∀ (j : Nat) t v, fn.params[j]? = some t → args[j]? = some v → Value.okWide C.prog W .any base t v) →
      DataW.Whole enc C.prog fn.params.toList s.vars apart W args.toList ds gs before →
      conds.all (PathCond.test C.prog ⟨fn.params.toList, ds, s.plain.varTypes C.prog, gs⟩) = true →
      (DataW.weightsEach C.prog (fn.params.toList ++ s.plain.varTypes C.prog) (ds ++ gs)).all (· ≤ reachBytes) = true → X W args →
      W.ShapedOpen C.prog →
      a.holds C.prog (lone (Frame.enter C.prog f args .normal) [] W) →
      Calls C.prog f args W fun e W' => ∃ v, e = .returned v ∧ s.post enc C.prog fn apart fresh handsOn again W args v W') :
    ReturnsInHanded a C os f .any (fun w args => (s.pre enc C.prog fn conds apart w args ∧ X w args) ∧ sizedMet enc C.prog fn (OpenSpec.ofChange s) apart w args) (s.post enc C.prog fn apart fresh handsOn again) := by
  refine returnsInHanded_of_calls own started noInit witness ?_
  intro w tape i _ hsh _ hok hpre hholds
  obtain ⟨_, _, _, fn', hfn', _, _, _, _, hval⟩ := hok
  obtain rfl : fn' = fn := Option.some.inj (hfn'.symm.trans hfn)
  obtain ⟨⟨⟨ds, gs, before, hw, hc⟩, hx⟩, hz⟩ := hpre
  have hw' := DataW.Whole.of_heap (w' := w.forCall tape i) (by rfl) hw
  refine (contract (w.forCall tape i) w.heap.size i.args ds gs before hval hw' hc (hz.weights hw) (hX _ _ _ (by rfl) hx) hsh hholds).mono fun e W' ⟨v, he, hp⟩ => ?_
  subst he
  exact ChangeSpec.post_blind hp
theorem cellsRec : Try.prog.cellsOf 33 = 7 := by kernel_rfl
theorem open_rec {fuel : Nat} {cs : List Value} {x : DataW H × List MemPlace} (hf : DataW.trod enc Try.prog W 0 (fun _ => true) true fuel 33 cs = some x) : ∃ r, RcArg W cs r := by
  obtain ⟨k1, k2, k3, k4, k5, k6, k7, k8, k9, _⟩ := cells3
  obtain ⟨xs, n, _, _, hl, hx, hfd⟩ := DataW.trod_struct Try.underlying33 hf
  rw [cellsRec] at hl
  match cs, hl with
  | [c0, c1, c2, c3, c4, c5, c6], _ =>
  match xs, hx with
  | [y0, y1, y2], _ =>
  have h0 : DataW.trod enc Try.prog W 0 (fun _ => true) true n 23 (List.take (Try.prog.cellsOf 23) (List.drop 0 [c0, c1, c2, c3, c4, c5, c6])) = some y0 := hfd 0 _ rfl
  rw [k7] at h0
  replace h0 : DataW.trod enc Try.prog W 0 (fun _ => true) true n 23 [c0] = some y0 := h0
  have h1 : DataW.trod enc Try.prog W 0 (fun _ => true) true n 26 (List.take (Try.prog.cellsOf 26) (List.drop 1 [c0, c1, c2, c3, c4, c5, c6])) = some y1 := hfd 1 _ rfl
  rw [k9] at h1
  replace h1 : DataW.trod enc Try.prog W 0 (fun _ => true) true n 26 [c1] = some y1 := h1
  have h2 : DataW.trod enc Try.prog W 0 (fun _ => true) true n 31 (List.take (Try.prog.cellsOf 31) (List.drop 2 [c0, c1, c2, c3, c4, c5, c6])) = some y2 := hfd 2 _ rfl
  rw [k6] at h2
  replace h2 : DataW.trod enc Try.prog W 0 (fun _ => true) true n 31 [c2, c3, c4, c5, c6] = some y2 := h2
  obtain ⟨o, o1⟩ := open_nm Try.underlying23 h0
  obtain ⟨t, e1, _, w1⟩ := DataW.trod_int Try.underlying26 h1
  obtain ⟨d, hd⟩ := open_data h2
  simp at e1
  subst e1
  have ht := wf_u32 w1
  obtain ⟨vn, vu, vt, vr, e, hh⟩ := hd.1
  have e' : [c2, c3, c4, c5, c6] = [Value.int .i64 d.ty, vn, vu, vt, vr] := by
    have : [c2, c3, c4, c5, c6].toArray = #[Value.int .i64 d.ty, vn, vu, vt, vr] := by injection e
    exact congrArg Array.toList this
  simp only [List.cons.injEq, and_true] at e'
  obtain ⟨rfl, rfl, rfl, rfl, rfl⟩ := e'
  refine ⟨⟨o, t.toNat, d⟩, _, _, _, _, _, ?_, o1, hd, by show t.toNat < 2 ^ 32; omega⟩
  show [_, Value.int .u32 t, _, _, _, _, _] = [_, Value.int .u32 ((t.toNat : Nat) : Int), _, _, _, _, _]
  rw [Int.toNat_of_nonneg ht.1]
theorem flatten_at (k : Nat) (k0 : 0 < k) : ∀ (l : List (List Value)), (∀ cs ∈ l, cs.length = k) → ∀ (t : Nat) (u : Value), l.flatten[t]? = some u → ∃ h : t / k < l.length, (l[t / k])[t % k]? = some u
  | [], _, t, u, h => by simp at h
  | x :: r, hk, t, u, h => by
    have hx := hk x (by simp)
    rw [List.flatten_cons] at h
    by_cases ht : t < k
    · rw [List.getElem?_append_left (by omega)] at h
      have e0 : t / k = 0 := Nat.div_eq_of_lt ht
      have e1 : t % k = t := Nat.mod_eq_of_lt ht
      refine ⟨by rw [e0]; simp, ?_⟩
      simp only [e0, e1, List.getElem_cons_zero]
      exact h
    · rw [List.getElem?_append_right (by omega), hx] at h
      obtain ⟨h1, h2⟩ := flatten_at k k0 r (fun cs hc => hk cs (by simp [hc])) (t - k) u h
      have e0 : t / k = (t - k) / k + 1 := by
        rw [Nat.div_eq_sub_div k0 (by omega)]
      have e1 : t % k = (t - k) % k := by
        rw [Nat.mod_eq_sub_mod (by omega)]
      refine ⟨by rw [e0]; simpa using h1, ?_⟩
      simp only [e0, e1, List.getElem_cons_succ]
      exact h2
instance inhRec : Inhabited (List Value × Rc) := ⟨([], Rc.none)⟩
theorem open_recs {fuel : Nat} {v : Value} {x : DataW H × List MemPlace} (hf : DataW.trod enc Try.prog W 0 (fun _ => true) true fuel 24 [v] = some x) :
    ∃ (css : List (List Value)) (l : List Rc), SlK W v css ∧ css.length = l.length ∧ ∀ i (h1 : i < css.length) (h2 : i < l.length), RcArg W css[i] l[i] := by
  rcases Go.Deep.open_slice Try.underlying24 hf with ⟨hcs, _⟩ | ⟨a, len, cap, m, n, D, Pl, hcs, _, hl, hm, hmm, _, hV⟩
  · simp at hcs
    subst hcs
    exact ⟨[], [], SlK.nil W, rfl, fun i h1 => absurd h1 (Nat.not_lt_zero _)⟩
  · simp at hcs
    subst hcs
    simp only [if_true] at hmm
    subst hmm
    rw [cellsRec] at hV
    obtain ⟨F, hF⟩ := Go.Deep.choose_lt (α := List Value × Rc) (p := fun i z => W.cells? 0 (a.add (i * 7)) 7 = some z.1 ∧ RcArg W z.1 z.2) (fun i hi => by
      obtain ⟨cs', h1, h2⟩ := hV i hi
      obtain ⟨r, hr⟩ := open_rec h2
      exact ⟨(cs', r), h1, hr⟩)
    have hlen : ∀ i, i < len → (F i).1.length = 7 := fun i hi => (World.cells?_some (hF i (by omega)).1).2.1
    refine ⟨(List.range len).map fun i => (F i).1, (List.range len).map fun i => (F i).2, ⟨some a, m, by simp, by simpa using hl, (fun e => by cases e), ?_⟩, by simp, fun i h1 h2 => ?_⟩
    · by_cases h0 : len = 0
      · subst h0; left; rfl
      · right
        obtain ⟨b, off, spot⟩ := a
        have hc0 := (World.cells?_some (hF 0 (by omega)).1).2.2 0 (by omega)
        rw [List.getElem?_eq_getElem (by rw [hlen 0 (by omega)]; omega)] at hc0
        have hspot : spot = none := by simpa [Addr.add] using World.cell?_spot hc0
        subst hspot
        have hb : b < W.heap.size := World.block_lt_of_cell? W _ (by simpa [Addr.add] using hc0 : W.cell? ⟨b, off, none⟩ = some _)
        refine ⟨b, off, rfl, hb, fun j u hj => ?_⟩
        obtain ⟨h1, h2⟩ := flatten_at 7 (by omega) _ (fun cs hc => by
          obtain ⟨i, hi, rfl⟩ := List.mem_map.1 hc
          exact hlen i (List.mem_range.1 hi)) j u hj
        have hi : j / 7 < len := by simpa using h1
        rw [List.getElem_map, List.getElem_range] at h2
        have hd : j % 7 < 7 := Nat.mod_lt _ (by omega)
        have hc := (World.cells?_some (hF (j / 7) (by omega)).1).2.2 (j % 7) hd
        rw [h2] at hc
        rw [Addr.add_lit, Addr.add_lit, show off + j / 7 * 7 + j % 7 = off + j by omega] at hc
        exact hc
    · simp only [List.length_map, List.length_range] at h1
      simpa using (hF i (by omega)).2
end Go.Proofs.Ytckammgnmgkieaa

