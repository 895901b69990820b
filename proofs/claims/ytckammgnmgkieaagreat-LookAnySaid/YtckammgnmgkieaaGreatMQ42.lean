import Derived.Deep.RegionHeld3
import Derived.ProofKit
import Derived.OpenShut
import Derived.ShutString
import Derived.ChangeArms
import Derived.ChangeSlices
import Derived.SliceStrings
import Derived.Deep.Slices
import Derived.Shelf.Vars
import Derived.Handed
import Derived.HandedShaped
import Derived.Test.YtckammgnmgkieaaGreatMQ14
import Derived.Test.YtckammgnmgkieaaGreatMQ25
namespace Go.Proofs.YtckammgnmgkieaaGreat
set_option linter.unusedVariables false
set_option linter.unusedSimpArgs false
set_option maxRecDepth 100000
set_option maxHeartbeats 2000000
open Go.RowKit Go.Shelf
theorem qhi (least : Nat) (a : Option Addr) (n c : Nat) (w : World) :
 Calls Tryz.prog 91 #[.int .i64 (least : Int), .slice a n c] w fun e w' => e = .returned (.func (.func 138) #[] #[.pointer (some ⟨w.heap.size, 0, none⟩), .pointer (some ⟨w.heap.size + 1, 0, none⟩)]) ∧ w' = (w.alloc (.cells #[.int .i64 (least : Int)] 3)).alloc (.cells #[.slice a n c] 24) := by
 go_enter Tryz.func91, Tryz.ntmps91
 go_wp2
 go_ret
 exact ⟨rfl, rfl⟩
def cutA (a : Option Addr) (d c : Nat) : Option Addr := match a with
 | none => none
 | some ad => if c = d then some ad else some (ad.add d)
def dlV {N : Nat} (a : Option Addr) (len c least : Nat) (x : Fin N) : Array Value := #[.slice (cutA a (len - (least + x.val)) c) (least + x.val) (c - (len - (least + x.val)))]
theorem qmL {W : World} {a : Option Addr} {q c : Nat} {n : Nm} (h : NmAt W (.slice a q c) n) {s : Nat} (h2 : s ≤ q) : NmAt W (.slice (cutA a (q - s) c) s (c - (q - s))) (ancN n s) := by
 have hq := nm_len h
 have hc := nm_cap h
 have h0 := h.1
 subst hq
 cases a with
 | none =>
  have hc0 : c = 0 := by
   obtain ⟨a', n', c', e, _, h1⟩ := h.2
   injection e with e1 e2 e3
   rw [e3]; exact h1 e1.symm
  have hn : n = [] := List.eq_nil_of_length_eq_zero (by omega)
  subst hn
  have hs : s = 0 := by simp at h2; exact h2
  subst hs; subst hc0
  exact h
 | some ad =>
  by_cases hn : n = []
  ·subst hn
   have hs : s = 0 := by simp at h2; exact h2
   subst hs
   refine ⟨⟨_, _, rfl, .inl (by simp [ancN])⟩, ⟨_, _, _, rfl, by omega, fun e => ?_⟩⟩
   unfold cutA at e
   simp only at e
   split at e <;> cases e
  ·obtain ⟨g, off, rfl⟩ : ∃ g off, ad = ⟨g, off, none⟩ := by
    obtain ⟨a', c', e, h1⟩ := h0
    rcases h1 with h1 | ⟨b, off, e2, _⟩
    ·exact absurd h1 hn
    ·injection e with e1 _ _
     rw [e2] at e1
     injection e1 with e1
     exact ⟨b, off, e1⟩
   have hd := qcq h0 hc (n.length - s) (by omega) (c - (n.length - s))
   rw [show n.length - (n.length - s) = s by omega] at hd
   have ec : cutA (some ⟨g, off, none⟩) (n.length - s) c = (if c = n.length - s then some ⟨g, off, none⟩ else some ⟨g, off + (n.length - s), none⟩) := by
    unfold cutA
    simp only [Addr.add_lit]
   rw [ec]
   refine ⟨hd, ⟨_, _, _, rfl, by omega, fun e => ?_⟩⟩
   split at e <;> cases e
section
attribute [local go_sem] Oper.semAt_some
theorem qh2 (n : Nat) (hn : 1 ≤ n) (l b1 b2 : Nat) (a : Option Addr) (len c least N : Nat) (hN : N = len + 1 - least) (ha : a = none → c = 0) (hc : len ≤ c) (hs : len ≤ 1048576) (hs2 : least ≤ 1048577) (J Jx : List (Fin N) → World → Prop)
 (hY : ∀ pre x W, J pre W → pre.length < N → YieldAt Fence.wide (n - 1) Tryz.prog l (dlV a len c least x) W fun e W' =>
   (e = .returned (.bool true) ∧ J (pre ++ [x]) W' ∧ KeepB b2 W W') ∨ (e = .returned (.bool false) ∧ Jx (pre ++ [x]) W'))
 (W : World) (hc1 : W.cell? ⟨b1, 0, none⟩ = some (.int .i64 (least : Int))) (hc2 : W.cell? ⟨b2, 0, none⟩ = some (.slice a len c)) (h0 : J [] W) :
 CallsIn Fence.wide n Tryz.prog 138 #[.func (.yield l) #[] #[], .pointer (some ⟨b1, 0, none⟩), .pointer (some ⟨b2, 0, none⟩)] W fun e W' => (∃ v, e = .returned v) ∧
  ((∃ ys, ys = List.finRange N ∧ J ys W') ∨ (∃ pre, pre <+: List.finRange N ∧ Jx pre W')) := by
 have HNN := qH0 hN; have HAA := qH0 ha
 clear hN ha
 refine callsIn_of_wp Tryz.func138 rfl trivial ?_ rfl
 simp only [Tryz.ntmps138, List.size_toArray, List.length_cons, List.length_nil, Nat.reduceAdd, Nat.reduceSub, Array.replicate_succ, Array.replicate_zero, List.push_toArray, List.append_toArray, List.nil_append, List.cons_append]
 gi_wp2
 gi_loopw [4] (fun i wr => ∃ k : Nat, k ≤ N ∧ i = .int .i64 ((least + k : Nat) : Int) ∧ J ((List.finRange N).take k) wr ∧ KeepB b2 W wr)
  (fun i _ => ((len : Int) + 1 - intOf i).toNat)
 case atStart => exact ⟨0, Nat.zero_le _, rfl, h0, KeepB.refl _ _⟩
 case round =>
  obtain ⟨k, hk, rfl, hJs, hnx⟩ := hrel
  obtain ⟨s, hs⟩ : ∃ s, least + k = s := ⟨_, rfl⟩
  have HS := qH0 hs
  rw [hs]
  clear hs
  have hcb : wr.cell? ⟨b2, 0, none⟩ = some (.slice a len c) := hnx.cell.trans hc2
  by_cases hlt : k < N
  ·have hsl : (s : Int) ≤ (len : Int) := by have := HS.out; have := HNN.out; omega
   obtain ⟨d, hd⟩ : ∃ d, d + s = len := ⟨len - s, by omega⟩
   have hsub : (len : Int) - (s : Int) = (d : Int) := by omega
   have hdl : (d : Int) ≤ (len : Int) := by omega
   have hln : len - d = s := by omega
   obtain ⟨fn, tmps, assign, body, hy, hR⟩ := hY _ ⟨k, hlt⟩ wr hJs (by simp; omega)
   have hv : dlV a len c least (⟨k, hlt⟩ : Fin N) = #[.slice (cutA a d c) s (c - d)] := by
    unfold dlV
    simp only
    rw [HS.out, show len - s = d by omega]
   rw [hv] at hy
   have HD := qH0 hd
   clear hv hd
   cases a with
   | none =>
    have hc0 := HAA.out rfl
    have hd0 : d = 0 := by have := HD.out; omega
    subst hd0 hc0
    unfold cutA at hy
    simp only at hy
    gi_wp2
    refine hR.mono ?_
    rintro e W3 (⟨rfl, hJ3, hk3⟩ | ⟨rfl, hJx3⟩)
    ·gi_wp2
     go_roundw
     case rel => exact ⟨k + 1, by omega, by congr 1; have := HS.out; omega, by rw [qak hlt]; exact hJ3, hnx.trans hk3⟩
     case measure => simp [intOf]; omega
    ·gi_wp2
     refine bodyPost_ret (results_none rfl _ _ _) rfl ?_
     exact ⟨⟨_, rfl⟩, .inr ⟨_, by rw [← qak hlt]; exact List.take_prefix _ _, hJx3⟩⟩
   | some ad =>
    by_cases hcd : c = d
    ·subst hcd
     unfold cutA at hy
     simp only [if_true, Nat.sub_self] at hy
     gi_wp2
     refine hR.mono ?_
     rintro e W3 (⟨rfl, hJ3, hk3⟩ | ⟨rfl, hJx3⟩)
     ·gi_wp2
      go_roundw
      case rel => exact ⟨k + 1, by omega, by congr 1; have := HS.out; omega, by rw [qak hlt]; exact hJ3, hnx.trans hk3⟩
      case measure => simp [intOf]; omega
     ·gi_wp2
      refine bodyPost_ret (results_none rfl _ _ _) rfl ?_
      exact ⟨⟨_, rfl⟩, .inr ⟨_, by rw [← qak hlt]; exact List.take_prefix _ _, hJx3⟩⟩
    ·unfold cutA at hy
     simp only [if_neg hcd] at hy
     gi_wp2
     refine hR.mono ?_
     rintro e W3 (⟨rfl, hJ3, hk3⟩ | ⟨rfl, hJx3⟩)
     ·gi_wp2
      go_roundw
      case rel => exact ⟨k + 1, by omega, by congr 1; have := HS.out; omega, by rw [qak hlt]; exact hJ3, hnx.trans hk3⟩
      case measure => simp [intOf]; omega
     ·gi_wp2
      refine bodyPost_ret (results_none rfl _ _ _) rfl ?_
      exact ⟨⟨_, rfl⟩, .inr ⟨_, by rw [← qak hlt]; exact List.take_prefix _ _, hJx3⟩⟩
  ·obtain rfl : k = N := by omega
   have hsl : ¬ (s : Int) ≤ (len : Int) := by have := HS.out; have := HNN.out; omega
   rw [List.take_of_length_le (by simp)] at hJs
   gi_wp2
   go_end0
   first
    | exact ⟨⟨_, rfl⟩, .inl hJs⟩
    | exact ⟨⟨_, rfl⟩, .inl ⟨_, rfl, hJs⟩⟩
theorem qgo (n : Nat) (hn : 1 ≤ n) (b1 b2 : Nat) (a : Option Addr) (len c least N : Nat) (hN : N = len + 1 - least) (ha : a = none → c = 0) (hc : len ≤ c) (hs : len ≤ 1048576) (hs2 : least ≤ 1048577) (w : World) (h1 : b1 < w.heap.size) (h2 : b2 < w.heap.size)
 (hc1 : w.cell? ⟨b1, 0, none⟩ = some (.int .i64 (least : Int))) (hc2 : w.cell? ⟨b2, 0, none⟩ = some (.slice a len c)) :
 SeqStopsK Fence.wide n Tryz.prog 138 #[.pointer (some ⟨b1, 0, none⟩), .pointer (some ⟨b2, 0, none⟩)] (dlV (N := N) a len c least) (KeepB b2) (fun ys => ys = List.finRange N) (fun pre => pre <+: List.finRange N) N w := fun l J Jx W hW _ _ hY h0 =>
 qh2 n hn l b1 b2 a len c least N hN ha hc hs hs2 J Jx hY W ((hW.cell (p := ⟨b1, 0, none⟩) h1).trans hc1) ((hW.cell (p := ⟨b2, 0, none⟩) h2).trans hc2) h0
end
end Go.Proofs.YtckammgnmgkieaaGreat
namespace Go.Proofs.YtckammgnmgkieaaGreat
set_option linter.unusedVariables false
set_option linter.unusedSimpArgs false
set_option maxRecDepth 20000
open Go.RowKit
def hasM (rs : List Rc) (n : Nm) (t : Int) : Bool := rs.any fun r => decide (r.data.ty = t) && sameN r.owner n
theorem qmE {o n : Nm} {rs : List Rc} (hu : underN n o = true) : qaq o rs n = (sameN n o || rs.any fun r => underN r.owner n) := by
 rw [Bool.eq_iff_iff, qc8 hu, Bool.or_eq_true, List.any_eq_true]
 have hs : n.length = o.length ↔ sameN n o = true := by
  constructor
  ·intro e
   have := qfI hu
   rw [← e, qe4] at this; exact this
  ·intro h
   have := congrArg List.length ((qaw _ _).1 h)
   rwa [qgW, qgW] at this
 rw [hs]
theorem qlQ {o n : Nm} {rs : List Rc} {s : Nat} (hs : s ≤ n.length) (he : qaq o rs (ancN n s) = true) (h : ∀ j, s < j → j ≤ n.length → qaq o rs (ancN n j) = false) : encM o rs n = ancN n s := by
 have hua : underN (ancN n s) o = true := by
  unfold qaq at he; simp only [Bool.and_eq_true] at he; exact he.1
 have hu : underN n o = true := qcW (qbr n s) hua
 have hol := qa1 hua
 rw [qcV hs] at hol
 have hl := qa1 hu
 obtain ⟨d1, d2, d3, d4⟩ := qcm rs hl
 unfold encM
 rw [if_pos hu]
 have hlt : depthM o rs n ≤ s := by
  by_cases hc : depthM o rs n ≤ s
  ·exact hc
  ·exfalso
   have := h (depthM o rs n) (by omega) d2
   have he2 := qfr (rs := rs) hu
   unfold encM at he2
   rw [if_pos hu, this] at he2
   cases he2
 have hge : s ≤ depthM o rs n := by
  rcases (qc8 hua).1 he with e | ⟨r, hr, e⟩
  ·rw [qcV hs] at e; omega
  ·exact d4 r hr s hs e
 rw [show depthM o rs n = s by omega]
theorem qmq {o n : Nm} {rs : List Rc} (h : ∀ j, j ≤ n.length → qaq o rs (ancN n j) = false) : encM o rs n = [] := by
 unfold encM
 split
 ·rename_i hu
  exfalso
  have he := qfr (rs := rs) hu
  unfold encM at he
  rw [if_pos hu, h _ (qgK rs (qa1 hu))] at he
  cases he
 ·rfl
end Go.Proofs.YtckammgnmgkieaaGreat
namespace Go.Proofs.YtckammgnmgkieaaGreat
set_option linter.unusedVariables false
set_option linter.unusedSimpArgs false
set_option maxRecDepth 100000
set_option maxHeartbeats 8000000
open Go.RowKit Go.Shelf
theorem qiq {n : Nm} (h : NmOK n) (s : Nat) : NmOK (ancN n s) := ⟨by unfold ancN; rw [List.length_drop]; have := h.1; omega, fun x hx => h.2 x (List.mem_of_mem_drop hx)⟩
theorem qbN {n : Nm} {k : Nat} (h : k ≤ n.length) : n.drop k = ancN n (n.length - k) := by unfold ancN; congr 1; omega
theorem qgY {W : World} {a : Option Addr} {q c : Nat} {n : Nm} (h : NmAt W (.slice a q c) n) {k : Nat} (hk : k ≤ q) :
 (c = k ∧ NmAt W (.slice a (q - k) (c - k)) (n.drop k)) ∨ (¬ c = k ∧ q = 0 ∧ k = 0 ∧ (∃ ad, a = some ad) ∧ NmAt W (.slice a (q - k) (c - k)) (n.drop k)) ∨ (¬ c = k ∧ 0 < q ∧ ∃ g off, a = some ⟨g, off, none⟩ ∧ NmAt W (.slice (some ⟨g, off + k, none⟩) (q - k) (c - k)) (n.drop k)) := by
 have hq := nm_len h
 have hc := nm_cap h
 have h0 := h.1
 have h1 := h.2
 obtain ⟨a1, n1, c1, e1, hc1, hn1⟩ := h1
 injection e1 with ea en ec
 subst ea en ec
 by_cases e : c = k
 ·left
  have hqk : q = k := by omega
  have hd : n.drop k = [] := List.drop_eq_nil_of_le (by omega)
  refine ⟨e, ⟨⟨a, c - k, by rw [hd]; congr 1; simp; omega, .inl hd⟩, ⟨a, _, _, rfl, by omega, fun ha => by have := hn1 ha; omega⟩⟩⟩
 ·right
  by_cases hz : q = 0
  ·left
   have hk0 : k = 0 := by omega
   have hn0 : n = [] := List.eq_nil_of_length_eq_zero (by omega)
   refine ⟨e, hz, hk0, ?_, ?_⟩
   ·cases a with
    | none => exact absurd (hn1 rfl) (by omega)
    | some ad => exact ⟨ad, rfl⟩
   ·rw [hk0, hn0]; rw [hn0] at h; exact h
  ·right
   refine ⟨e, by omega, ?_⟩
   obtain ⟨a2, c2, e2, hx⟩ := h0
   injection e2 with e3 e4 e5
   rcases hx with hx | ⟨g, off, hx, _⟩
   ·rw [hx] at hq; simp at hq; omega
   ·subst e3
    subst hx
    refine ⟨g, off, rfl, ?_⟩
    have h9 := h.1
    subst hq
    have hd := qcq h9 hc k hk (c - k)
    rw [if_neg e] at hd
    exact ⟨hd, ⟨_, _, _, rfl, by omega, fun e => by cases e⟩⟩
theorem qnf {w : World} {za v1 : Option Addr} {zn zc m c : Nat} {o n : Nm} {rs : List Rc} {vn : Value} (t : Int) (h : ZonS w za zn zc v1 m c o rs) (hO : NmAt w vn n) (hko : NmOK n) :
 Calls Tryz.prog 74 #[.agg #[.slice za zn zc, .slice v1 m c], vn, .int .i64 t] w fun e w' => e = .returned (.bool (hasM rs n t)) ∧ Below w.heap.size w w' := by
 obtain ⟨-, -, ⟨css, hA, hR⟩, hOK, hl⟩ := h
 obtain ⟨hln, hx⟩ : css.length = m ∧ m ≤ c := by
  obtain ⟨a', c', e, h1, _⟩ := id hA
  cases e; exact ⟨rfl, h1⟩
 have HSO := qH0 (show hasM rs n t = rs.any fun r => decide (r.data.ty = t) && sameN r.owner n from rfl)
 have HA := qH0 hA; have HR := qH0 hR; have HLN := qH0 hln; have HOK := qH0 hOK
 have HDL := qH0 (show rs.length = m by rw [← hR.1]; exact hln)
 have HNO := qH0 hO; have HKN := qH0 hko
 obtain ⟨ao, co, rfl, -⟩ := nmAt_sl.1 hO
 generalize (List.map strV n).length = qo at *
 generalize hasM rs n t = res at *
 have X0 := knew w (.cells #[.slice za zn zc, .slice v1 m c] 60)
 have HB0 := qH0 ((Below.refl w.heap.size w).alloc (qN0) (.cells #[.slice za zn zc, .slice v1 m c] 60))
 obtain ⟨w2, hw2⟩ : ∃ w2, w.alloc (.cells #[.slice za zn zc, .slice v1 m c] 60) = w2 := ⟨_, rfl⟩
 rw [hw2] at X0 HB0
 have HY := qH0 (fun W (hb : Below w2.heap.size w2 W) => And.intro (kcell ((hb.block _ (qaa X0)).trans X0) 0 _ rfl) (kcell ((hb.block _ (qaa X0)).trans X0) 1 _ rfl))
 clear hO hko hA hR hOK hln X0
 go_enter Tryz.func74, Tryz.ntmps74
 go_wp2
 clear hw2
 go_loopw [7] (fun vi wr => ∃ k : Nat, vi = .int .i64 k ∧ k ≤ m ∧ Hid (((rs.take k).any fun r => decide (r.data.ty = t) && sameN r.owner n) = false) ∧ Hid (Below w2.heap.size w2 wr)) (fun vi _ => m - (intOf vi).toNat)
 case atStart => exact ⟨0, rfl, Nat.zero_le _, qH0 (by simp), qH0 (qL0)⟩
 case round =>
  obtain ⟨k, rfl, hk, HN, HB⟩ := hrel
  obtain ⟨y0, y1⟩ := HY.out wr HB.out
  by_cases hlt : k < m
  ·have hltz : (k : Int) < (m : Int) := by omega
   have hk1 : k < css.length := by have := HLN.out; omega
   have hk2 : k < rs.length := by have := HDL.out; omega
   obtain ⟨b, off, rfl, hb, hel⟩ := HA.out.elem HR.out.ck (by omega)
   have h0 := HR.out.2 k hk1 hk2
   have hokr := (HOK.out _ (List.getElem_mem hk2)).1
   have hany := qdB (p := fun r => decide (r.data.ty = t) && sameN r.owner n) hk2
   obtain ⟨d, hd⟩ : ∃ d, rs[k]'hk2 = d := ⟨_, rfl⟩
   have hdm : d ∈ rs := by rw [← hd]; exact List.getElem_mem _
   rw [hd] at h0 hokr hany
   rw [HN.out, Bool.false_or] at hany
   have hsh := h0.shape
   obtain ⟨⟨p0, q0, k0⟩, ⟨p3, q3, k3⟩, ⟨p4, q4, k4⟩, ⟨p5, q5, k5⟩, ⟨p6, q6, k6⟩, e0⟩ := hsh
   simp only at e0
   have hwr : Below w.heap.size w wr := qB0 HB0.out HB.out
   obtain ⟨c0', c1', c2', c3, c4, c5, c6⟩ := hel k hk1 _ _ _ _ _ _ _ e0 wr hwr
   have hown0 : NmAt w (.slice p0 q0 k0) d.owner := by
    obtain ⟨_, _, _, _, _, e5, g1, _⟩ := h0
    rw [e0] at e5
    simp only [List.cons.injEq, and_true] at e5
    rw [e5.1]; exact g1
   have hn := qbq (.slice p0 q0 k0) (.slice ao qo co) d.owner n _ rfl _ (hown0.below hwr) (HNO.out.below hwr) hokr HKN.out
   have HANY := qH0 hany; have HDM := qH0 hdm
   clear h0 hd e0 hel hown0 hokr hany hdm hk1 hk2 hwr c1' c3 c4 c5 c6
   obtain ⟨ty, hty⟩ : ∃ ty, d.data.ty = ty := ⟨_, rfl⟩
   have HTY := qH0 hty
   rw [hty] at c2'
   clear hty
   by_cases ht : ty = t
   ·subst ht
    go_wp2_with fail
    refine hn.mono ?_
    rintro e w3 ⟨rfl, hb3⟩
    have HB3 := qH0 (qB0 HB.out hb3)
    clear hn hb3 c0' c2' y0 y1
    obtain ⟨q, hq⟩ : ∃ q, sameN d.owner n = q := ⟨_, rfl⟩
    have HQ := qH0 hq
    rw [hq] at HANY ⊢
    clear hq
    cases q
    ·go_wp2
     go_roundw
     case measure => simp [intOf]; omega
     case rel => exact ⟨k + 1, by go_num, by omega, qH0 (by rw [HANY.out, Bool.and_false]), HB3⟩
    ·have H1 : Hid (res = true) := qH0 (by rw [HSO.out, List.any_eq_true]; exact ⟨d, HDM.out, by rw [HQ.out, HTY.out]; simp⟩)
     go_wp2
     go_ret
     exact ⟨by rw [H1.out]; rfl, qB0 HB0.out HB3.out⟩
   ·have htn : (ty == t) = false := by simpa using ht
    have HF := qH0 (show decide (d.data.ty = t) = false by rw [HTY.out]; simpa using ht)
    clear hn
    go_wp2
    go_roundw
    case measure => simp [intOf]; omega
    case rel => exact ⟨k + 1, by go_num, by omega, qH0 (by rw [HANY.out, HF.out, Bool.false_and]), HB⟩
  ·obtain rfl : k = m := by omega
   have hn := HN.out
   rw [List.take_of_length_le (by have := HDL.out; omega)] at hn
   have H1 : Hid (res = false) := qH0 (by rw [HSO.out]; exact hn)
   clear hn
   go_wp2
   go_ret
   exact ⟨by rw [H1.out]; rfl, qB0 HB0.out HB.out⟩
theorem qcF {w : World} {za v1 : Option Addr} {zn zc m c : Nat} {o n : Nm} {rs : List Rc} {vn : Value} (h : ZonS w za zn zc v1 m c o rs) (hO : NmAt w vn n) (hko : NmOK n) :
 Calls Tryz.prog 38 #[.agg #[.slice za zn zc, .slice v1 m c], vn] w fun e w' => e = .returned (.bool (qaq o rs n)) ∧ Below w.heap.size w w' := by
 have HZU := qH0 (fun (W : World) (hb : Below w.heap.size w W) => qd4 vn (.slice za zn zc) n o _ rfl W (hO.below hb) (h.1.below hb) hko h.2.1)
 have HZS := qH0 (fun (W : World) (hb : Below w.heap.size w W) => qbq vn (.slice za zn zc) n o _ rfl W (hO.below hb) (h.1.below hb) hko h.2.1)
 have HEX := qH0 (fun (hu : underN n o = true) => qmE (rs := rs) hu)
 have HEF := qH0 (fun (hu : underN n o = false) => (show qaq o rs n = false by unfold qaq; rw [hu, Bool.false_and]))
 obtain ⟨-, -, ⟨css, hA, hR⟩, hOK, hl⟩ := h
 obtain ⟨hln, hx⟩ : css.length = m ∧ m ≤ c := by
  obtain ⟨a', c', e, h1, _⟩ := id hA
  cases e; exact ⟨rfl, h1⟩
 have HA := qH0 hA; have HR := qH0 hR; have HLN := qH0 hln; have HOK := qH0 hOK
 have HDL := qH0 (show rs.length = m by rw [← hR.1]; exact hln)
 have HNO := qH0 hO; have HKN := qH0 hko
 obtain ⟨ao, co, rfl, -⟩ := nmAt_sl.1 hO
 generalize (List.map strV n).length = qo at *
 generalize qaq o rs n = res at *
 have X0 := knew w (.cells #[.slice za zn zc, .slice v1 m c] 60)
 have HB0 := qH0 ((Below.refl w.heap.size w).alloc (qN0) (.cells #[.slice za zn zc, .slice v1 m c] 60))
 obtain ⟨w2, hw2⟩ : ∃ w2, w.alloc (.cells #[.slice za zn zc, .slice v1 m c] 60) = w2 := ⟨_, rfl⟩
 rw [hw2] at X0 HB0
 have HY := qH0 (fun W (hb : Below w2.heap.size w2 W) => And.intro (kcell ((hb.block _ (qaa X0)).trans X0) 0 _ rfl) (kcell ((hb.block _ (qaa X0)).trans X0) 1 _ rfl))
 have hcu := HZU.out w2 HB0.out
 obtain ⟨y0, y1⟩ := HY.out w2 (qL0)
 clear hO hko hA hR hOK hln X0 HZU
 go_enter Tryz.func38, Tryz.ntmps38
 go_wp2_with fail
 clear hw2
 refine hcu.mono ?_
 rintro e w3 ⟨rfl, hb3⟩
 have HB3 := qH0 hb3
 clear hcu y0 y1 hb3
 obtain ⟨u, hu⟩ : ∃ u, underN n o = u := ⟨_, rfl⟩
 rw [hu] at HEX HEF ⊢
 clear hu
 cases u
 ·have H1 := qH0 (HEF.out rfl)
  go_wp2
  go_ret
  exact ⟨by rw [H1.out]; rfl, qB0 HB0.out HB3.out⟩
 have HE2 := qH0 (HEX.out rfl)
 have hcs := HZS.out w3 (qB0 HB0.out HB3.out)
 obtain ⟨y0, y1⟩ := HY.out w3 HB3.out
 clear HEX HEF HZS
 go_wp2_with fail
 refine hcs.mono ?_
 rintro e w4 ⟨rfl, hb4⟩
 have HB4 := qH0 (qB0 HB3.out hb4)
 clear hcs y0 y1 hb4 HB3
 obtain ⟨u, hu⟩ : ∃ u, sameN n o = u := ⟨_, rfl⟩
 rw [hu] at HE2 ⊢
 clear hu
 cases u
 rotate_left
 ·have H1 : Hid (res = true) := qH0 (by rw [HE2.out]; rfl)
  go_wp2
  go_ret
  exact ⟨by rw [H1.out]; rfl, qB0 HB0.out HB4.out⟩
 have HSO : Hid (res = rs.any fun r => underN r.owner n) := qH0 (by rw [HE2.out, Bool.false_or])
 clear HE2
 go_wp2
 go_loopw [5] (fun vi wr => ∃ k : Nat, vi = .int .i64 k ∧ k ≤ m ∧ Hid (((rs.take k).any fun r => underN r.owner n) = false) ∧ Hid (Below w4.heap.size w4 wr)) (fun vi _ => m - (intOf vi).toNat)
 case atStart => exact ⟨0, rfl, Nat.zero_le _, qH0 (by simp), qH0 (qL0)⟩
 case round =>
  obtain ⟨k, rfl, hk, HN, HB⟩ := hrel
  have HBx := qH0 (qB0 HB4.out HB.out)
  obtain ⟨y0, y1⟩ := HY.out wr HBx.out
  by_cases hlt : k < m
  ·have hltz : (k : Int) < (m : Int) := by omega
   have hk1 : k < css.length := by have := HLN.out; omega
   have hk2 : k < rs.length := by have := HDL.out; omega
   obtain ⟨b, off, rfl, hb, hel⟩ := HA.out.elem HR.out.ck (by omega)
   have h0 := HR.out.2 k hk1 hk2
   have hokr := (HOK.out _ (List.getElem_mem hk2)).1
   have hany := qdB (p := fun r => underN r.owner n) hk2
   obtain ⟨d, hd⟩ : ∃ d, rs[k]'hk2 = d := ⟨_, rfl⟩
   have hdm : d ∈ rs := by rw [← hd]; exact List.getElem_mem _
   rw [hd] at h0 hokr hany
   rw [HN.out, Bool.false_or] at hany
   have hsh := h0.shape
   obtain ⟨⟨p0, q0, k0⟩, ⟨p3, q3, k3⟩, ⟨p4, q4, k4⟩, ⟨p5, q5, k5⟩, ⟨p6, q6, k6⟩, e0⟩ := hsh
   simp only at e0
   have hwr : Below w.heap.size w wr := qB0 HB0.out HBx.out
   obtain ⟨c0', c1', c2', c3, c4, c5, c6⟩ := hel k hk1 _ _ _ _ _ _ _ e0 wr hwr
   have hown0 : NmAt w (.slice p0 q0 k0) d.owner := by
    obtain ⟨_, _, _, _, _, e5, g1, _⟩ := h0
    rw [e0] at e5
    simp only [List.cons.injEq, and_true] at e5
    rw [e5.1]; exact g1
   have hn := qd4 (.slice p0 q0 k0) (.slice ao qo co) d.owner n _ rfl _ (hown0.below hwr) (HNO.out.below hwr) hokr HKN.out
   have HANY := qH0 hany; have HDM := qH0 hdm
   clear h0 hd e0 hel hown0 hokr hany hdm hk1 hk2 hwr c1' c2' c3 c4 c5 c6
   go_wp2_with fail
   refine hn.mono ?_
   rintro e w5 ⟨rfl, hb5⟩
   have HB5 := qH0 (qB0 HB.out hb5)
   clear hn hb5 c0' y0 y1
   obtain ⟨q, hq⟩ : ∃ q, underN d.owner n = q := ⟨_, rfl⟩
   have HQ := qH0 hq
   rw [hq] at HANY ⊢
   clear hq
   cases q
   ·go_wp2
    go_roundw
    case measure => simp [intOf]; omega
    case rel => exact ⟨k + 1, by go_num, by omega, HANY, HB5⟩
   ·have H1 : Hid (res = true) := qH0 (by rw [HSO.out, List.any_eq_true]; exact ⟨d, HDM.out, HQ.out⟩)
    go_wp2
    go_ret
    exact ⟨by rw [H1.out]; rfl, HB0.out.trans ((qB0 HB4.out HB5.out).mono HB0.out.size)⟩
  ·obtain rfl : k = m := by omega
   have hn := HN.out
   rw [List.take_of_length_le (by have := HDL.out; omega)] at hn
   have H1 : Hid (res = false) := qH0 (by rw [HSO.out]; exact hn)
   clear hn
   go_wp2
   go_ret
   exact ⟨by rw [H1.out]; rfl, qB0 HB0.out HBx.out⟩
end Go.Proofs.YtckammgnmgkieaaGreat
namespace Go.Proofs.YtckammgnmgkieaaGreat
set_option linter.unusedVariables false
set_option linter.unusedSimpArgs false
set_option maxRecDepth 20000
open Go Go.ChangeShapes Go.WideShapes Go.ChangeAt Go.RowKit Go.Shelf
theorem sl_row {W : World} {x : Addr} {l c : Nat} (f : Nat → Value) (hl : l ≤ c) (hcell : ∀ i, i < c → W.cell? (x.add i) = some (f i)) : SlAt W (.slice (some x) l c) ((List.range l).map f) := by
 refine ⟨some x, c, by simp, by simpa using hl, by simp, ?_⟩
 by_cases h0 : l = 0
 ·subst h0; left; simp
 ·right
  obtain ⟨b, off, spot⟩ := x
  have hspot : spot = none := by simpa [Addr.add] using World.cell?_spot (hcell 0 (by omega))
  subst hspot
  have hb : b < W.heap.size := by
   have h := hcell 0 (by omega)
   exact World.block_lt_of_cell? W _ (by simpa [Addr.add] using h : W.cell? ⟨b, off, none⟩ = some (f 0))
  refine ⟨b, off, rfl, hb, fun j hj => ?_⟩
  rw [List.length_map, List.length_range] at hj
  rw [← Go.WideShapes.add_plain, hcell j (by omega)]
  simp
theorem qhx {W : World} {k : IntKind} {x : Addr} {l c : Nat} {zs : List Int} (hl : l ≤ c) (hz : zs.length = c) (hcell : ∀ i, i < zs.length → W.cell? (x.add i) = some (.int k (zs.getD i 0))) : SlAt W (.slice (some x) l c) ((zs.take l).map fun z => .int k z) := by
 have h := sl_row (fun i => Value.int k (zs.getD i 0)) hl (fun i hi => hcell i (by omega))
 have e : (List.range l).map (fun i => Value.int k (zs.getD i 0)) = (zs.take l).map fun z => Value.int k z := by
  apply List.ext_getElem
  ·simp; omega
  ·intro i h1 h2
   simp only [List.length_map, List.length_range] at h1
   have : i < zs.length := by omega
   simp [List.getD, this]
 rwa [e] at h
variable {H : Type} {enc : TypeId × Value → H} {W : World}
theorem cells3 : Tryz.prog.cellsOf 3 = 1 ∧ Tryz.prog.cellsOf 42 = 1 ∧ Tryz.prog.cellsOf 98 = 1 ∧ Tryz.prog.cellsOf 23 = 1 ∧ Tryz.prog.cellsOf 99 = 1 ∧ Tryz.prog.cellsOf 101 = 5 ∧ Tryz.prog.cellsOf 24 = 1 ∧ Tryz.prog.cellsOf 9 = 1 ∧ Tryz.prog.cellsOf 35 = 1 ∧ Tryz.prog.cellsOf 5 = 1 :=
 ⟨by kernel_rfl, by kernel_rfl, by kernel_rfl, by kernel_rfl, by kernel_rfl, by kernel_rfl, by kernel_rfl, by kernel_rfl, by kernel_rfl, by kernel_rfl⟩
theorem qf6 {t : TypeId} (ht : Tryz.prog.underlying t = some (.slice 9)) {fuel : Nat} {v : Value} {x : DataW H × List MemPlace} (hf : DataW.trod enc Tryz.prog W 0 (fun _ => true) true fuel t [v] = some x) : ∃ zs, NmArg W v zs := by
 rcases Go.ChangeShapes.open_strings ht Tryz.underlying9 (by kernel_rfl) hf with ⟨hcs, _⟩ | ⟨x, l, c, zs, hcs, _, hl, hm, hz, _, hcell, hwz⟩
 ·simp at hcs
  subst hcs
  exact ⟨[], qeq W⟩
 ·simp at hcs
  subst hcs
  exact ⟨_, qep hl hm (by simpa using hz) hcell hwz⟩
theorem ql4 {fuel : Nat} {v : Value} {x : DataW H × List MemPlace} (hf : DataW.trod enc Tryz.prog W 0 (fun _ => true) true fuel 42 [v] = some x) : ∃ ns : List Nm, NmsAt W v ns ∧ ∀ n ∈ ns, n.length ≤ maxLen ∧ ∀ y ∈ n, y.length ≤ maxLen := by
 rcases Go.Deep.open_slice1 Tryz.underlying42 (by kernel_rfl) hf with ⟨hcs, _⟩ | ⟨a, len, cap, m, n, V, D, Pl, hcs, _, hl, hm, hmm, _, hV⟩
 ·simp at hcs
  subst hcs
  exact ⟨[], NmsAt.nil W, by simp⟩
 ·simp at hcs
  subst hcs
  simp only [if_true] at hmm
  subst hmm
  obtain ⟨F, hF⟩ := Go.Deep.choose_lt (α := Nm) (p := fun i z => NmArg W (V i) z) (fun i hi => qf6 Tryz.underlying24 (hV i hi).2)
  refine ⟨(List.range len).map F, ⟨(List.range len).map V, sl_row V hl (fun i hi => (hV i hi).1), by simp, fun j hj => ?_⟩, ?_⟩
  ·simp only [List.length_map, List.length_range] at hj
   simpa using (hF j (by omega)).1
  ·intro n hn
   obtain ⟨i, hi, rfl⟩ := List.mem_map.1 hn
   exact (hF i (by have := List.mem_range.1 hi; omega)).2
theorem wf_u32 {n : Int} (h : (Lit.int .u32 n).wf = true) : 0 ≤ n ∧ n < 2 ^ 32 := by
 simp [Lit.wf] at h
 have e1 : IntKind.u32.min = 0 := by decide
 have e2 : IntKind.u32.max = 4294967295 := by decide
 omega
theorem wf_u8 {n : Int} (h : (Lit.int .u8 n).wf = true) : 0 ≤ n ∧ n < 256 := by
 simp [Lit.wf] at h
 have e1 : IntKind.u8.min = 0 := by decide
 have e2 : IntKind.u8.max = 255 := by decide
 omega
theorem wf_i64 {n : Int} (h : (Lit.int .i64 n).wf = true) : -(2 ^ 63) ≤ n ∧ n < 2 ^ 63 := by
 simp [Lit.wf] at h
 have e1 : IntKind.i64.min = -9223372036854775808 := by decide
 have e2 : IntKind.i64.max = 9223372036854775807 := by decide
 omega
theorem qlm {fuel : Nat} {v : Value} {x : DataW H × List MemPlace} (hf : DataW.trod enc Tryz.prog W 0 (fun _ => true) true fuel 98 [v] = some x) : ∃ ns : List Nat, SlAt W v (ns.map u32V) ∧ ∀ n ∈ ns, n < 2 ^ 32 := by
 rcases open_ints Tryz.underlying98 Tryz.underlying35 (by kernel_rfl) hf with ⟨hcs, _⟩ | ⟨a, l, c, zs, hcs, _, hl, hm, hz, _, hcell, hw⟩
 ·simp at hcs
  subst hcs
  exact ⟨[], SlAt.nil W, by simp⟩
 ·simp at hcs
  subst hcs
  refine ⟨(zs.take l).map Int.toNat, ?_, ?_⟩
  ·have h := qhx hl (by simpa using hz) hcell
   have e : ((zs.take l).map Int.toNat).map u32V = (zs.take l).map fun z => Value.int .u32 z := by
    rw [List.map_map]
    apply List.map_congr_left
    intro z hz
    have := wf_u32 (hw z (List.mem_of_mem_take hz))
    show Value.int .u32 ((z.toNat : Nat) : Int) = _
    rw [Int.toNat_of_nonneg this.1]
   rw [e]; exact h
  ·intro n hn
   obtain ⟨z, hz, rfl⟩ := List.mem_map.1 hn
   have := wf_u32 (hw z (List.mem_of_mem_take hz))
   omega
theorem qlB {fuel : Nat} {v : Value} {x : DataW H × List MemPlace} (hf : DataW.trod enc Tryz.prog W 0 (fun _ => true) true fuel 99 [v] = some x) : ∃ ns : List UInt8, SlAt W v (ns.map bv) := by
 rcases open_ints Tryz.underlying99 Tryz.underlying5 (by kernel_rfl) hf with ⟨hcs, _⟩ | ⟨a, l, c, zs, hcs, _, hl, hm, hz, _, hcell, hw⟩
 ·simp at hcs
  subst hcs
  exact ⟨[], SlAt.nil W⟩
 ·simp at hcs
  subst hcs
  refine ⟨(zs.take l).map fun z => UInt8.ofNat z.toNat, ?_⟩
  have h := qhx hl (by simpa using hz) hcell
  have e : ((zs.take l).map fun z => UInt8.ofNat z.toNat).map bv = (zs.take l).map fun z => Value.int .u8 z := by
   rw [List.map_map]
   apply List.map_congr_left
   intro z hz
   have := wf_u8 (hw z (List.mem_of_mem_take hz))
   show Value.int .u8 ((UInt8.ofNat z.toNat).toNat : Int) = _
   congr 1
   simp
   omega
  rw [e]; exact h
theorem qkx {fuel : Nat} {cs : List Value} {x : DataW H × List MemPlace} (hf : DataW.trod enc Tryz.prog W 0 (fun _ => true) true fuel 101 cs = some x) : ∃ d, DatArg W (.agg cs.toArray) d := by
 obtain ⟨k1, k2, k3, k4, k5, k6, _⟩ := cells3
 obtain ⟨xs, n, _, _, hl, hx, hfd⟩ := DataW.trod_struct Tryz.underlying101 hf
 rw [k6] at hl
 match cs, hl with
 | [c0, c1, c2, c3, c4], _ =>
 match xs, hx with
 | [y0, y1, y2, y3, y4], _ =>
 have h0 : DataW.trod enc Tryz.prog W 0 (fun _ => true) true n 3 (List.take (Tryz.prog.cellsOf 3) (List.drop 0 [c0, c1, c2, c3, c4])) = some y0 := hfd 0 _ rfl
 rw [k1] at h0
 replace h0 : DataW.trod enc Tryz.prog W 0 (fun _ => true) true n 3 [c0] = some y0 := h0
 have h1 : DataW.trod enc Tryz.prog W 0 (fun _ => true) true n 42 (List.take (Tryz.prog.cellsOf 42) (List.drop 1 [c0, c1, c2, c3, c4])) = some y1 := hfd 1 _ rfl
 rw [k2] at h1
 replace h1 : DataW.trod enc Tryz.prog W 0 (fun _ => true) true n 42 [c1] = some y1 := h1
 have h2 : DataW.trod enc Tryz.prog W 0 (fun _ => true) true n 98 (List.take (Tryz.prog.cellsOf 98) (List.drop 2 [c0, c1, c2, c3, c4])) = some y2 := hfd 2 _ rfl
 rw [k3] at h2
 replace h2 : DataW.trod enc Tryz.prog W 0 (fun _ => true) true n 98 [c2] = some y2 := h2
 have h3 : DataW.trod enc Tryz.prog W 0 (fun _ => true) true n 23 (List.take (Tryz.prog.cellsOf 23) (List.drop 3 [c0, c1, c2, c3, c4])) = some y3 := hfd 3 _ rfl
 rw [k4] at h3
 replace h3 : DataW.trod enc Tryz.prog W 0 (fun _ => true) true n 23 [c3] = some y3 := h3
 have h4 : DataW.trod enc Tryz.prog W 0 (fun _ => true) true n 99 (List.take (Tryz.prog.cellsOf 99) (List.drop 4 [c0, c1, c2, c3, c4])) = some y4 := hfd 4 _ rfl
 rw [k5] at h4
 replace h4 : DataW.trod enc Tryz.prog W 0 (fun _ => true) true n 99 [c4] = some y4 := h4
 obtain ⟨ty, e0, _, w0⟩ := DataW.trod_int Tryz.underlying3 h0
 obtain ⟨ns, n1, n2⟩ := ql4 h1
 obtain ⟨us, u1, u2⟩ := qlm h2
 obtain ⟨ts, t1⟩ := qf6 Tryz.underlying23 h3
 obtain ⟨rs, r1⟩ := qlB h4
 simp at e0
 subst e0
 exact ⟨⟨ty, ns, us, ts, rs⟩, ⟨c1, c2, c3, c4, rfl, n1, u1, t1.1, r1⟩, wf_i64 w0, n2, u2, t1.2.2⟩
theorem qhD : Tryz.prog.cellsOf 103 = 7 := by kernel_rfl
theorem qms {fuel : Nat} {cs : List Value} {x : DataW H × List MemPlace} (hf : DataW.trod enc Tryz.prog W 0 (fun _ => true) true fuel 103 cs = some x) : ∃ r, RcArg W cs r := by
 obtain ⟨k1, k2, k3, k4, k5, k6, k7, k8, k9, _⟩ := cells3
 obtain ⟨xs, n, _, _, hl, hx, hfd⟩ := DataW.trod_struct Tryz.underlying103 hf
 rw [qhD] at hl
 match cs, hl with
 | [c0, c1, c2, c3, c4, c5, c6], _ =>
 match xs, hx with
 | [y0, y1, y2], _ =>
 have h0 : DataW.trod enc Tryz.prog W 0 (fun _ => true) true n 24 (List.take (Tryz.prog.cellsOf 24) (List.drop 0 [c0, c1, c2, c3, c4, c5, c6])) = some y0 := hfd 0 _ rfl
 rw [k7] at h0
 replace h0 : DataW.trod enc Tryz.prog W 0 (fun _ => true) true n 24 [c0] = some y0 := h0
 have h1 : DataW.trod enc Tryz.prog W 0 (fun _ => true) true n 35 (List.take (Tryz.prog.cellsOf 35) (List.drop 1 [c0, c1, c2, c3, c4, c5, c6])) = some y1 := hfd 1 _ rfl
 rw [k9] at h1
 replace h1 : DataW.trod enc Tryz.prog W 0 (fun _ => true) true n 35 [c1] = some y1 := h1
 have h2 : DataW.trod enc Tryz.prog W 0 (fun _ => true) true n 101 (List.take (Tryz.prog.cellsOf 101) (List.drop 2 [c0, c1, c2, c3, c4, c5, c6])) = some y2 := hfd 2 _ rfl
 rw [k6] at h2
 replace h2 : DataW.trod enc Tryz.prog W 0 (fun _ => true) true n 101 [c2, c3, c4, c5, c6] = some y2 := h2
 obtain ⟨o, o1⟩ := qf6 Tryz.underlying24 h0
 obtain ⟨t, e1, _, w1⟩ := DataW.trod_int Tryz.underlying35 h1
 obtain ⟨d, hd⟩ := qkx h2
 simp at e1
 subst e1
 have ht := wf_u32 w1
 obtain ⟨vn, vu, vt, vr, e, hh⟩ := hd.1
 have e' : [c2, c3, c4, c5, c6] = [Value.int .i64 d.ty, vn, vu, vt, vr] := by
  have : [c2, c3, c4, c5, c6].toArray = #[Value.int .i64 d.ty, vn, vu, vt, vr] := by injection e
  exact congrArg Array.toList this
 simp only [List.cons.injEq, and_true] at e'
 obtain ⟨rfl, rfl, rfl, rfl, rfl⟩ := e'
 refine ⟨⟨o, t.toNat, d⟩, _, _, _, _, _, ?_, o1, hd, by show t.toNat < 2 ^ 32; omega⟩
 show [_, Value.int .u32 t, _, _, _, _, _] = [_, Value.int .u32 ((t.toNat : Nat) : Int), _, _, _, _, _]
 rw [Int.toNat_of_nonneg ht.1]
theorem qfq (k : Nat) (k0 : 0 < k) : ∀ (l : List (List Value)), (∀ cs ∈ l, cs.length = k) → ∀ (t : Nat) (u : Value), l.flatten[t]? = some u → ∃ h : t / k < l.length, (l[t / k])[t % k]? = some u
 | [], _, t, u, h => by simp at h
 | x :: r, hk, t, u, h => by
  have hx := hk x (by simp)
  rw [List.flatten_cons] at h
  by_cases ht : t < k
  ·rw [List.getElem?_append_left (by omega)] at h
   have e0 : t / k = 0 := Nat.div_eq_of_lt ht
   have e1 : t % k = t := Nat.mod_eq_of_lt ht
   refine ⟨by rw [e0]; simp, ?_⟩
   simp only [e0, e1, List.getElem_cons_zero]
   exact h
  ·rw [List.getElem?_append_right (by omega), hx] at h
   obtain ⟨h1, h2⟩ := qfq k k0 r (fun cs hc => hk cs (by simp [hc])) (t - k) u h
   have e0 : t / k = (t - k) / k + 1 := by
    rw [Nat.div_eq_sub_div k0 (by omega)]
   have e1 : t % k = (t - k) % k := by
    rw [Nat.mod_eq_sub_mod (by omega)]
   refine ⟨by rw [e0]; simpa using h1, ?_⟩
   simp only [e0, e1, List.getElem_cons_succ]
   exact h2
instance inhRec : Inhabited (List Value × Rc) := ⟨([], Rc.none)⟩
theorem qla {fuel : Nat} {v : Value} {x : DataW H × List MemPlace} (hf : DataW.trod enc Tryz.prog W 0 (fun _ => true) true fuel 22 [v] = some x) :
 ∃ (css : List (List Value)) (l : List Rc), SlK W v css ∧ css.length = l.length ∧ ∀ i (h1 : i < css.length) (h2 : i < l.length), RcArg W css[i] l[i] := by
 rcases Go.Deep.open_slice Tryz.underlying22 hf with ⟨hcs, _⟩ | ⟨a, len, cap, m, n, D, Pl, hcs, _, hl, hm, hmm, _, hV⟩
 ·simp at hcs
  subst hcs
  exact ⟨[], [], SlK.nil W, rfl, fun i h1 => absurd h1 (Nat.not_lt_zero _)⟩
 ·simp at hcs
  subst hcs
  simp only [if_true] at hmm
  subst hmm
  rw [qhD] at hV
  obtain ⟨F, hF⟩ := Go.Deep.choose_lt (α := List Value × Rc) (p := fun i z => W.cells? 0 (a.add (i * 7)) 7 = some z.1 ∧ RcArg W z.1 z.2) (fun i hi => by
   obtain ⟨cs', h1, h2⟩ := hV i hi
   obtain ⟨r, hr⟩ := qms h2
   exact ⟨(cs', r), h1, hr⟩)
  have hlen : ∀ i, i < len → (F i).1.length = 7 := fun i hi => (World.cells?_some (hF i (by omega)).1).2.1
  refine ⟨(List.range len).map fun i => (F i).1, (List.range len).map fun i => (F i).2, ⟨some a, m, by simp, by simpa using hl, (fun e => by cases e), ?_⟩, by simp, fun i h1 h2 => ?_⟩
  ·by_cases h0 : len = 0
   ·subst h0; left; rfl
   ·right
    obtain ⟨b, off, spot⟩ := a
    have hc0 := (World.cells?_some (hF 0 (by omega)).1).2.2 0 (by omega)
    rw [List.getElem?_eq_getElem (by rw [hlen 0 (by omega)]; omega)] at hc0
    have hspot : spot = none := by simpa [Addr.add] using World.cell?_spot hc0
    subst hspot
    have hb : b < W.heap.size := World.block_lt_of_cell? W _ (by simpa [Addr.add] using hc0 : W.cell? ⟨b, off, none⟩ = some _)
    refine ⟨b, off, rfl, hb, fun j u hj => ?_⟩
    obtain ⟨h1, h2⟩ := qfq 7 (by omega) _ (fun cs hc => by
     obtain ⟨i, hi, rfl⟩ := List.mem_map.1 hc
     exact hlen i (List.mem_range.1 hi)) j u hj
    have hi : j / 7 < len := by simpa using h1
    rw [List.getElem_map, List.getElem_range] at h2
    have hd : j % 7 < 7 := Nat.mod_lt _ (by omega)
    have hc := (World.cells?_some (hF (j / 7) (by omega)).1).2.2 (j % 7) hd
    rw [h2] at hc
    rw [Addr.add_lit, Addr.add_lit, show off + j / 7 * 7 + j % 7 = off + j by omega] at hc
    exact hc
  ·simp only [List.length_map, List.length_range] at h1
   simpa using (hF i (by omega)).2
end Go.Proofs.YtckammgnmgkieaaGreat
