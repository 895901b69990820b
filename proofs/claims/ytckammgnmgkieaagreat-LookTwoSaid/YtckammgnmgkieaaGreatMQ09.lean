/-
  look.above.
-/
import Derived.Test.YtckammgnmgkieaaGreatMQ25
import Derived.Test.YtckammgnmgkieaaGreatMQ10
import Derived.Test.YtckammgnmgkieaaGreatMQ08
import Derived.Test.YtckammgnmgkieaaGreatMQ21
import Derived.Test.YtckammgnmgkieaaGreatMQ36
namespace Go.Proofs.YtckammgnmgkieaaGreat
set_option maxRecDepth 20000
open Go.RowKit Go.Shelf
set_option maxRecDepth 20000
set_option linter.unusedVariables false
set_option linter.unusedSimpArgs false
theorem onM_take {q : Nm} {l : List Rc} {k : Nat} (h : k < l.length) : onM (l.take (k + 1)) q = onM (l.take k) q ++ if underN q l[k].owner = true then [l[k]] else [] := by
  unfold onM
  rw [List.take_succ_eq_append_getElem h, List.filter_append]
  congr 1
  cases e : underN q l[k].owner <;> simp [e]
theorem onM_len (l : List Rc) (q : Nm) : (onM l q).length ≤ l.length := List.length_filter_le _ _
def AbPost (w : World) (l : List Rc) (e : Ending) (w' : World) : Prop := ∃ v csw, e = .returned v ∧ OwnC 7 103 w' w.heap.size v csw ∧ Rcs w csw l ∧ Below w.heap.size w w'
set_option maxRecDepth 100000 in
set_option maxHeartbeats 16000000 in
theorem look_above {w : World} {za v1 : Option Addr} {zn zc n c : Nat} {o q : Nm} {rs : List Rc} {vq : Value} (hz : ZonS w za zn zc v1 n c o rs) (hO : NmAt w vq q) (hko : NmOK q) :
    Calls Tryz.prog 90 #[.agg #[.slice za zn zc, .slice v1 n c], vq] w (AbPost w (onM rs q)) := by
  obtain ⟨-, -, ⟨css, hA, hR⟩, hOK, hl⟩ := hz
  obtain ⟨hln, hx⟩ : css.length = n ∧ n ≤ c := by
    obtain ⟨a', c', e, h1, _⟩ := id hA
    cases e; exact ⟨rfl, h1⟩
  have HN := Lib.hid (fun (k : Nat) (u : Value) (W : World) (h1 : k < rs.length) (hu : NmAt W u rs[k].owner) (hb : Below w.heap.size w W) => kn_NUnder vq u q rs[k].owner _ rfl W (hO.below hb) hu hko (hOK _ (List.getElem_mem h1)).1)
  obtain ⟨ao, co, rfl, -⟩ := nmAt_sl.1 hO
  have HA := Lib.hid hA; have HR := Lib.hid hR; have HLN := Lib.hid hln
  have HDL := Lib.hid (show rs.length = n by rw [← hR.1]; exact hln)
  obtain ⟨qo, hqo⟩ : ∃ q', (List.map strV q).length = q' := ⟨_, rfl⟩
  rw [hqo] at HN ⊢
  have HB0 := Lib.hid ((Below.refl w.heap.size w).alloc (Nat.le_refl _) (.cells #[.slice za zn zc, .slice v1 n c] 57))
  clear hA hR hOK hln hO hko hqo
  go_enter Tryz.func90, Tryz.ntmps90
  go_wp2
  generalize w.alloc (.cells #[.slice za zn zc, .slice v1 n c] 57) = W0 at *
  go_loopw [5, 11] (fun v3 vi wr => ∃ (k : Nat) (ga : Option Addr) (gn gc : Nat) (csw : List (List Value)), v3 = .slice ga gn gc ∧ vi = .int .i64 k ∧ k ≤ n ∧ Hid (OwnC 7 103 wr w.heap.size (.slice ga gn gc) csw) ∧ Hid (Rcs w csw (onM (rs.take k) q)) ∧ Hid (Below w.heap.size w wr)) (fun _ vi _ => n - (intOf vi).toNat)
  case atStart => exact ⟨0, none, 0, 0, [], rfl, rfl, Nat.zero_le _, Lib.hid (OwnK.nil _ _), Lib.hid ⟨rfl, fun i a => absurd a (by simp)⟩, HB0⟩
  case round =>
    obtain ⟨k, ga, gn, gc, csw, rfl, rfl, hk, HO, HRw, HB⟩ := hrel
    by_cases hlt : k < n
    · have hltz : (k : Int) < (n : Int) := by omega
      have hk1 : k < css.length := by have := HLN.out; omega
      have hk2 : k < rs.length := by have := HDL.out; omega
      have hwr := HB.out
      obtain ⟨b, off, rfl, hb, hel⟩ := HA.out.elem HR.out.ck (by omega)
      have h0 := HR.out.2 k hk1 hk2
      have htk := onM_take (q := q) hk2
      have hnk := fun u W => HN.out k u W hk2
      obtain ⟨d, hd⟩ : ∃ d, rs[k]'hk2 = d := ⟨_, rfl⟩
      rw [hd] at h0 htk
      simp only [hd] at hnk
      have hsh := h0.shape
      obtain ⟨⟨p0, q0, k0⟩, ⟨p3, q3, k3⟩, ⟨p4, q4, k4⟩, ⟨p5, q5, k5⟩, ⟨p6, q6, k6⟩, e0⟩ := hsh
      simp only at e0
      obtain ⟨c0', c1, c2, c3, c4, c5, c6⟩ := hel k hk1 _ _ _ _ _ _ _ e0 wr hwr
      have hown0 : NmAt w (.slice p0 q0 k0) d.owner := by
        obtain ⟨_, _, _, _, _, e5, g1, _⟩ := h0
        rw [e0] at e5
        simp only [List.cons.injEq, and_true] at e5
        rw [e5.1]; exact g1
      rw [e0] at h0
      have HD0 := Lib.hid h0
      have HBB := Lib.hid (HB.out.alloc HB.out.size (.cells #[.slice p0 q0 k0, .int .u32 (d.ttl : Int), .int .i64 d.data.ty, .slice p3 q3 k3, .slice p4 q4 k4, .slice p5 q5 k5, .slice p6 q6 k6] 103))
      have hn := hnk _ _ (hown0.below HBB.out) HBB.out
      have HO1 := Lib.hid (OwnK.below HO.out ((Below.refl _ wr).alloc (Nat.le_refl _) (.cells #[.slice p0 q0 k0, .int .u32 (d.ttl : Int), .int .i64 d.data.ty, .slice p3 q3 k3, .slice p4 q4 k4, .slice p5 q5 k5, .slice p6 q6 k6] 103)))
      have X1 := Lib.hid (knew wr (.cells #[.slice p0 q0 k0, .int .u32 (d.ttl : Int), .int .i64 d.data.ty, .slice p3 q3 k3, .slice p4 q4 k4, .slice p5 q5 k5, .slice p6 q6 k6] 103))
      have HTK := Lib.hid htk
      obtain ⟨res, hres⟩ : ∃ r, underN q d.owner = r := ⟨_, rfl⟩
      rw [hres] at hn HTK
      clear h0 htk hd e0 hown0 hk1 hk2 hel hnk HO HB hwr hres
      generalize (d.ttl : Int) = tr at *
      generalize d.data.ty = ty at *
      go_wp2_with fail
      refine hn.mono ?_
      rintro e w2 ⟨rfl, hbb2⟩
      have HB2 := Lib.hid (HBB.out.trans (hbb2.mono HBB.out.size))
      have hblk := (hbb2.block wr.heap.size (by simp)).trans X1.out
      have y0 := kcell hblk 0 _ rfl; have y1 := kcell hblk 1 _ rfl; have y2 := kcell hblk 2 _ rfl; have y3 := kcell hblk 3 _ rfl; have y4 := kcell hblk 4 _ rfl; have y5 := kcell hblk 5 _ rfl; have y6 := kcell hblk 6 _ rfl
      have HO2 := Lib.hid (OwnK.below HO1.out hbb2)
      have hz2 := HB2.out.size
      have HTL := Lib.hid (show csw.length ≤ 1048576 by have := HRw.out.1; have h2 := onM_len (rs.take k) q; rw [List.length_take] at h2; omega)
      clear hbb2 hblk hn HBB HO1 X1 c0' c1 c2 c3 c4 c5 c6
      cases res with
      | true =>
        have HT : Hid (onM (rs.take (k + 1)) q = onM (rs.take k) q ++ [d]) := Lib.hid (by rw [HTK.out]; simp)
        have HRw2 : Hid (Rcs w (csw ++ [[.slice p0 q0 k0, .int .u32 tr, .int .i64 ty, .slice p3 q3 k3, .slice p4 q4 k4, .slice p5 q5 k5, .slice p6 q6 k6]]) (onM (rs.take (k + 1)) q)) := Lib.hid (by rw [HT.out]; exact HRw.out.snoc HD0.out)
        clear HTK HT HRw HD0
        go_wp2_with (at_builtin; refine wpl_append_c' w2 rfl (.tmp 19) (.tmp 21) elem_rec (by decide) rfl w.heap.size (.slice ga gn gc) csw rfl HO2.out [.slice p0 q0 k0, .int .u32 tr, .int .i64 ty, .slice p3 q3 k3, .slice p4 q4 k4, .slice p5 q5 k5, .slice p6 q6 k6] rfl (by intro u hu; simp only [List.mem_cons, List.not_mem_nil, or_false] at hu; rcases hu with rfl | rfl | rfl | rfl | rfl | rfl | rfl <;> rfl) 1 (by rfl) hz2 (by have := HTL.out; unfold maxLen; omega) (by have := HTL.out; omega) ?_; intro v3 w3 hown3 hg3)
        have HB3 := Lib.hid (HB2.out.grown hg3 hz2 (OwnK.base_le HO2.out))
        obtain ⟨a9, c9, e9⟩ := OwnK.shape hown3
        subst e9
        have HO3 := Lib.hid hown3
        generalize List.length (csw ++ _) = m9 at *
        clear hg3 hown3
        go_roundw
        case measure => simp [intOf]; omega
        case rel => exact ⟨k + 1, a9, m9, c9, _, rfl, by go_num, by omega, HO3, HRw2, HB3⟩
      | false =>
        have HTK2 : Hid (onM (rs.take (k + 1)) q = onM (rs.take k) q) := Lib.hid (by rw [HTK.out]; simp)
        have HRw2 : Hid (Rcs w csw (onM (rs.take (k + 1)) q)) := Lib.hid (by rw [HTK2.out]; exact HRw.out)
        clear HTK HTK2 HRw
        go_wp2
        go_roundw
        case measure => simp [intOf]; omega
        case rel => exact ⟨k + 1, ga, gn, gc, csw, rfl, by go_num, by omega, HO2, HRw2, HB2⟩
    · obtain rfl : k = n := by omega
      have h := HRw.out
      rw [List.take_of_length_le (by have := HDL.out; omega)] at h
      have HH := Lib.hid h
      clear h HRw
      go_wp2
      go_ret
      exact ⟨_, csw, rfl, HO.out, HH.out, HB.out⟩
end Go.Proofs.YtckammgnmgkieaaGreat

/-
  look.downward and its iterator.
-/
namespace Go.Proofs.YtckammgnmgkieaaGreat
set_option maxRecDepth 20000
open Go.RowKit Go.Shelf
set_option maxRecDepth 20000
set_option linter.unusedVariables false
set_option linter.unusedSimpArgs false
theorem look_downward (least : Nat) (a : Option Addr) (n c : Nat) (w : World) :
    Calls Tryz.prog 91 #[.int .i64 (least : Int), .slice a n c] w fun e w' => e = .returned (.func (.func 138) #[] #[.pointer (some ⟨w.heap.size, 0, none⟩), .pointer (some ⟨w.heap.size + 1, 0, none⟩)]) ∧ w' = (w.alloc (.cells #[.int .i64 (least : Int)] 3)).alloc (.cells #[.slice a n c] 24) := by
  go_enter Tryz.func91, Tryz.ntmps91
  go_wp2
  go_ret
  exact ⟨rfl, rfl⟩
def cutA (a : Option Addr) (d c : Nat) : Option Addr := match a with
  | none => none
  | some ad => if c = d then some ad else some (ad.add d)
def dlV {N : Nat} (a : Option Addr) (len c least : Nat) (x : Fin N) : Array Value := #[.slice (cutA a (len - (least + x.val)) c) (least + x.val) (c - (len - (least + x.val)))]
theorem nm_ancW {W : World} {a : Option Addr} {q c : Nat} {n : Nm} (h : NmAt W (.slice a q c) n) {s : Nat} (h2 : s ≤ q) : NmAt W (.slice (cutA a (q - s) c) s (c - (q - s))) (ancN n s) := by
  have hq := nm_len h
  have hc := nm_cap h
  have h0 := h.1
  subst hq
  cases a with
  | none =>
    have hc0 : c = 0 := by
      obtain ⟨a', n', c', e, _, h1⟩ := h.2
      injection e with e1 e2 e3
      rw [e3]; exact h1 e1.symm
    have hn : n = [] := List.eq_nil_of_length_eq_zero (by omega)
    subst hn
    have hs : s = 0 := by simp at h2; exact h2
    subst hs; subst hc0
    exact h
  | some ad =>
    by_cases hn : n = []
    · subst hn
      have hs : s = 0 := by simp at h2; exact h2
      subst hs
      refine ⟨⟨_, _, rfl, .inl (by simp [ancN])⟩, ⟨_, _, _, rfl, by omega, fun e => ?_⟩⟩
      unfold cutA at e
      simp only at e
      split at e <;> cases e
    · obtain ⟨g, off, rfl⟩ : ∃ g off, ad = ⟨g, off, none⟩ := by
        obtain ⟨a', c', e, h1⟩ := h0
        rcases h1 with h1 | ⟨b, off, e2, _⟩
        · exact absurd h1 hn
        · injection e with e1 _ _
          rw [e2] at e1
          injection e1 with e1
          exact ⟨b, off, e1⟩
      have hd := strs_drop h0 hc (n.length - s) (by omega) (c - (n.length - s))
      rw [show n.length - (n.length - s) = s by omega] at hd
      have ec : cutA (some ⟨g, off, none⟩) (n.length - s) c = (if c = n.length - s then some ⟨g, off, none⟩ else some ⟨g, off + (n.length - s), none⟩) := by
        unfold cutA
        simp only [Addr.add_lit]
      rw [ec]
      refine ⟨hd, ⟨_, _, _, rfl, by omega, fun e => ?_⟩⟩
      split at e <;> cases e
section
attribute [local go_sem] Oper.semAt_some
set_option maxRecDepth 100000 in
set_option maxHeartbeats 2000000 in
theorem lookdown1_in (n : Nat) (hn : 1 ≤ n) (l b1 b2 : Nat) (a : Option Addr) (len c least N : Nat) (hN : N = len + 1 - least) (ha : a = none → c = 0) (hc : len ≤ c) (hs : len ≤ 1048576) (hs2 : least ≤ 1048577) (J Jx : List (Fin N) → World → Prop)
    (hY : ∀ pre x W, J pre W → pre.length < N → YieldAt Fence.wide (n - 1) Tryz.prog l (dlV a len c least x) W fun e W' =>
      (e = .returned (.bool true) ∧ J (pre ++ [x]) W' ∧ KeepB b2 W W') ∨ (e = .returned (.bool false) ∧ Jx (pre ++ [x]) W'))
    (W : World) (hc1 : W.cell? ⟨b1, 0, none⟩ = some (.int .i64 (least : Int))) (hc2 : W.cell? ⟨b2, 0, none⟩ = some (.slice a len c)) (h0 : J [] W) :
    CallsIn Fence.wide n Tryz.prog 138 #[.func (.yield l) #[] #[], .pointer (some ⟨b1, 0, none⟩), .pointer (some ⟨b2, 0, none⟩)] W fun e W' => (∃ v, e = .returned v) ∧
      ((∃ ys, ys = List.finRange N ∧ J ys W') ∨ (∃ pre, pre <+: List.finRange N ∧ Jx pre W')) := by
  have HNN := Lib.hid hN; have HAA := Lib.hid ha
  clear hN ha
  refine callsIn_of_wp Tryz.func138 rfl trivial ?_ rfl
  simp only [Tryz.ntmps138, List.size_toArray, List.length_cons, List.length_nil, Nat.reduceAdd, Nat.reduceSub, Array.replicate_succ, Array.replicate_zero, List.push_toArray, List.append_toArray, List.nil_append, List.cons_append]
  gi_wp2
  gi_loopw [4] (fun i wr => ∃ k : Nat, k ≤ N ∧ i = .int .i64 ((least + k : Nat) : Int) ∧ J ((List.finRange N).take k) wr ∧ KeepB b2 W wr)
    (fun i _ => ((len : Int) + 1 - intOf i).toNat)
  case atStart => exact ⟨0, Nat.zero_le _, rfl, h0, KeepB.refl _ _⟩
  case round =>
    obtain ⟨k, hk, rfl, hJs, hnx⟩ := hrel
    obtain ⟨s, hs⟩ : ∃ s, least + k = s := ⟨_, rfl⟩
    have HS := Lib.hid hs
    rw [hs]
    clear hs
    have hcb : wr.cell? ⟨b2, 0, none⟩ = some (.slice a len c) := hnx.cell.trans hc2
    by_cases hlt : k < N
    · have hsl : (s : Int) ≤ (len : Int) := by have := HS.out; have := HNN.out; omega
      obtain ⟨d, hd⟩ : ∃ d, d + s = len := ⟨len - s, by omega⟩
      have hsub : (len : Int) - (s : Int) = (d : Int) := by omega
      have hdl : (d : Int) ≤ (len : Int) := by omega
      have hln : len - d = s := by omega
      obtain ⟨fn, tmps, assign, body, hy, hR⟩ := hY _ ⟨k, hlt⟩ wr hJs (by simp; omega)
      have hv : dlV a len c least (⟨k, hlt⟩ : Fin N) = #[.slice (cutA a d c) s (c - d)] := by
        unfold dlV
        simp only
        rw [HS.out, show len - s = d by omega]
      rw [hv] at hy
      have HD := Lib.hid hd
      clear hv hd
      cases a with
      | none =>
        have hc0 := HAA.out rfl
        have hd0 : d = 0 := by have := HD.out; omega
        subst hd0 hc0
        unfold cutA at hy
        simp only at hy
        gi_wp2
        refine hR.mono ?_
        rintro e W3 (⟨rfl, hJ3, hk3⟩ | ⟨rfl, hJx3⟩)
        · gi_wp2
          go_roundw
          case rel => exact ⟨k + 1, by omega, by congr 1; have := HS.out; omega, by rw [finRange_take_succ hlt]; exact hJ3, hnx.trans hk3⟩
          case measure => simp [intOf]; omega
        · gi_wp2
          refine bodyPost_ret (results_none rfl _ _ _) rfl ?_
          exact ⟨⟨_, rfl⟩, .inr ⟨_, by rw [← finRange_take_succ hlt]; exact List.take_prefix _ _, hJx3⟩⟩
      | some ad =>
        by_cases hcd : c = d
        · subst hcd
          unfold cutA at hy
          simp only [if_true, Nat.sub_self] at hy
          gi_wp2
          refine hR.mono ?_
          rintro e W3 (⟨rfl, hJ3, hk3⟩ | ⟨rfl, hJx3⟩)
          · gi_wp2
            go_roundw
            case rel => exact ⟨k + 1, by omega, by congr 1; have := HS.out; omega, by rw [finRange_take_succ hlt]; exact hJ3, hnx.trans hk3⟩
            case measure => simp [intOf]; omega
          · gi_wp2
            refine bodyPost_ret (results_none rfl _ _ _) rfl ?_
            exact ⟨⟨_, rfl⟩, .inr ⟨_, by rw [← finRange_take_succ hlt]; exact List.take_prefix _ _, hJx3⟩⟩
        · unfold cutA at hy
          simp only [if_neg hcd] at hy
          gi_wp2
          refine hR.mono ?_
          rintro e W3 (⟨rfl, hJ3, hk3⟩ | ⟨rfl, hJx3⟩)
          · gi_wp2
            go_roundw
            case rel => exact ⟨k + 1, by omega, by congr 1; have := HS.out; omega, by rw [finRange_take_succ hlt]; exact hJ3, hnx.trans hk3⟩
            case measure => simp [intOf]; omega
          · gi_wp2
            refine bodyPost_ret (results_none rfl _ _ _) rfl ?_
            exact ⟨⟨_, rfl⟩, .inr ⟨_, by rw [← finRange_take_succ hlt]; exact List.take_prefix _ _, hJx3⟩⟩
    · obtain rfl : k = N := by omega
      have hsl : ¬ (s : Int) ≤ (len : Int) := by have := HS.out; have := HNN.out; omega
      rw [List.take_of_length_le (by simp)] at hJs
      gi_wp2
      go_end0
      first
        | exact ⟨⟨_, rfl⟩, .inl hJs⟩
        | exact ⟨⟨_, rfl⟩, .inl ⟨_, rfl, hJs⟩⟩
theorem lookdown_stops (n : Nat) (hn : 1 ≤ n) (b1 b2 : Nat) (a : Option Addr) (len c least N : Nat) (hN : N = len + 1 - least) (ha : a = none → c = 0) (hc : len ≤ c) (hs : len ≤ 1048576) (hs2 : least ≤ 1048577) (w : World) (h1 : b1 < w.heap.size) (h2 : b2 < w.heap.size)
    (hc1 : w.cell? ⟨b1, 0, none⟩ = some (.int .i64 (least : Int))) (hc2 : w.cell? ⟨b2, 0, none⟩ = some (.slice a len c)) :
    SeqStopsK Fence.wide n Tryz.prog 138 #[.pointer (some ⟨b1, 0, none⟩), .pointer (some ⟨b2, 0, none⟩)] (dlV (N := N) a len c least) (KeepB b2) (fun ys => ys = List.finRange N) (fun pre => pre <+: List.finRange N) N w := fun l J Jx W hW _ _ hY h0 =>
  lookdown1_in n hn l b1 b2 a len c least N hN ha hc hs hs2 J Jx hY W ((hW.cell (p := ⟨b1, 0, none⟩) h1).trans hc1) ((hW.cell (p := ⟨b2, 0, none⟩) h2).trans hc2) h0
end
end Go.Proofs.YtckammgnmgkieaaGreat

/-
  law5.Good of a row, law12.Good.
-/
namespace Go.Proofs.YtckammgnmgkieaaGreat
set_option maxRecDepth 20000
open Go.RowKit Go.Shelf
set_option maxRecDepth 20000
set_option linter.unusedVariables false
set_option linter.unusedSimpArgs false
def okR (r : Rc) : Bool := decide (checkR r = 0)
def goodRs (l : List Rc) : Bool := fewRs l && l.all okR
theorem all_succ {α : Type} {p : α → Bool} {l : List α} {k : Nat} (h : k < l.length) : (l.take (k + 1)).all p = ((l.take k).all p && p l[k]) := by
  rw [List.take_succ_eq_append_getElem h, List.all_append]; simp
def RowArg (W : World) (v : Value) (l : List Rc) : Prop := ∃ css, SlK W v css ∧ (css.length = l.length ∧ ∀ i (h1 : i < css.length) (h2 : i < l.length), RcArg W css[i] l[i])
theorem RowArg.row {W : World} {v : Value} {l : List Rc} (h : RowArg W v l) : RowC W v l := by
  obtain ⟨css, h1, h2, h3⟩ := h
  exact ⟨css, h1, h2, fun i a b => (h3 i a b).rcAt⟩
theorem RowArg.ok {W : World} {v : Value} {l : List Rc} (h : RowArg W v l) (hf : fewRs l = true) : l.length ≤ 60 ∧ ∀ r ∈ l, RcOK r := by
  obtain ⟨css, h1, h2, h3⟩ := h
  simp only [fewRs, Bool.and_eq_true, decide_eq_true_eq, List.all_eq_true] at hf
  refine ⟨hf.1, fun r hr => ?_⟩
  obtain ⟨i, hi, rfl⟩ := List.mem_iff_getElem.1 hr
  exact (h3 i (by omega) hi).ok (hf.2 _ hr)
theorem fewR_names {r : Rc} (h : fewR r = true) : r.data.names.length ≤ 1048576 := by
  simp only [fewR, Bool.and_eq_true] at h
  have h2 := h.2
  simp only [fewD, Bool.and_eq_true, decide_eq_true_eq] at h2; omega
set_option maxRecDepth 100000 in
set_option maxHeartbeats 8000000 in
theorem law5_Good (v : Value) (l : List Rc) (w0 w : World) (hL : RowArg w0 v l) (hwz : Below w0.heap.size w0 w) :
    Calls Tryz.prog 67 #[v] w fun e w' => e = .returned (.bool (goodRs l)) ∧ Below w.heap.size w w' := by
  have HOK := Lib.hid hL.ok
  obtain ⟨css, hA, hR⟩ := hL
  have hf := law5_Few v css l w0 w hA hR hwz
  have HR := Lib.hid hR; have HA := Lib.hid hA; have HWZ := Lib.hid hwz
  obtain ⟨a, c, rfl, hc1, -, -⟩ := id hA
  obtain ⟨n, hn⟩ : ∃ n, css.length = n := ⟨_, rfl⟩
  have HLN := Lib.hid hn
  have HDL := Lib.hid (show l.length = n by rw [← hR.1]; exact hn)
  rw [hn] at hf ⊢
  have HG := Lib.hid (show goodRs l = (fewRs l && l.all okR) from rfl)
  generalize goodRs l = res at *
  clear hA hR hwz hn hc1
  go_enter Tryz.func67, Tryz.ntmps67
  go_wp2_with fail
  refine hf.mono ?_
  rintro e w1 ⟨rfl, hb1⟩
  have HB1 := Lib.hid hb1
  clear hf hb1
  obtain ⟨fw, hfw⟩ : ∃ fw, fewRs l = fw := ⟨_, rfl⟩
  have HFW := Lib.hid hfw
  rw [hfw] at HG ⊢
  clear hfw
  cases fw
  · have H1 : Hid (res = false) := Lib.hid (by rw [HG.out]; rfl)
    clear HG
    go_wp2
    go_ret
    exact ⟨by rw [H1.out]; rfl, HB1.out⟩
  obtain ⟨hl60, hok⟩ := HOK.out HFW.out
  have HOKL := Lib.hid hok
  have HFR := Lib.hid (show ∀ r ∈ l, r.data.names.length ≤ 1048576 from fun r hr => by
    have h := HFW.out
    simp only [fewRs, Bool.and_eq_true, decide_eq_true_eq, List.all_eq_true] at h
    exact fewR_names (h.2 r hr))
  have hn60 : n ≤ 60 := by have := HDL.out; omega
  clear hok hl60 HOK
  go_wp2
  go_loopw [3] (fun vi wr => ∃ k : Nat, vi = .int .i64 k ∧ k ≤ n ∧ Hid ((l.take k).all okR = true) ∧ Hid (Below w.heap.size w wr)) (fun vi _ => n - (intOf vi).toNat)
  case atStart => exact ⟨0, rfl, Nat.zero_le _, Lib.hid (by simp), HB1⟩
  case round =>
    obtain ⟨k, rfl, hk, HO, HB⟩ := hrel
    by_cases hlt : k < n
    · have hltz : (k : Int) < (n : Int) := by omega
      have hk1 : k < css.length := by have := HLN.out; omega
      have hk2 : k < l.length := by have := HDL.out; omega
      have hck : ∀ cs ∈ css, cs.length = 7 := fun cs hc => by
        obtain ⟨i, hi, rfl⟩ := List.mem_iff_getElem.1 hc
        exact ((HR.out.2 i hi (by have := HR.out.1; omega)).rcAt).len
      obtain ⟨b, off, rfl, hb, hel⟩ := HA.out.elem hck (by omega)
      have h0 := (HR.out.2 k hk1 hk2).rcAt
      have hokr := HOKL.out _ (List.getElem_mem hk2)
      have hnl := HFR.out _ (List.getElem_mem hk2)
      have hall := all_succ (p := okR) hk2
      obtain ⟨r, hr⟩ : ∃ r, l[k]'hk2 = r := ⟨_, rfl⟩
      have hrm : r ∈ l := by rw [← hr]; exact List.getElem_mem _
      rw [hr] at h0 hokr hnl hall
      rw [HO.out, Bool.true_and] at hall
      clear hr
      have hwr : Below w0.heap.size w0 wr := HWZ.out.trans (HB.out.mono HWZ.out.size)
      have hof := law5_Of w0 _ r wr h0 hwr hnl
      obtain ⟨⟨p0, q0, r0⟩, ⟨p3, q3, r3⟩, ⟨p4, q4, r4⟩, ⟨p5, q5, r5⟩, ⟨p6, q6, r6⟩, e0⟩ := h0.shape
      simp only at e0
      obtain ⟨c0, c1, c2, c3, c4, c5, c6⟩ := hel k hk1 _ _ _ _ _ _ _ e0 wr hwr
      rw [e0] at hof
      have HWR := Lib.hid hwr; have HOKR := Lib.hid hokr; have HALL := Lib.hid hall; have HRM := Lib.hid hrm
      clear h0 hnl e0 hel hk1 hk2 hck hwr hokr hall hrm
      go_wp2_with fail
      refine hof.mono ?_
      rintro e w2 ⟨cs2, rfl, hof2, hb2⟩
      have HB2 := Lib.hid (HB.out.trans (hb2.mono HB.out.size))
      have hck := ref_CheckRec cs2 r w2 (hof2.rcAt (HWR.out.trans (hb2.mono HWR.out.size))) HOKR.out
      clear hb2 hof hof2 c0 c1 c2 c3 c4 c5 c6
      go_wp2_with fail
      refine hck.mono ?_
      rintro e w3 ⟨rfl, hb3⟩
      have HB3 := Lib.hid (HB2.out.trans (hb3.mono HB2.out.size))
      clear hb3 hck
      unfold okR at HALL
      generalize checkR r = cr at *
      by_cases hcr : cr = 0
      · have hbb : (cr != 0) = false := by simpa using hcr
        have HA2 : Hid ((l.take (k + 1)).all okR = true) := Lib.hid (by unfold okR; rw [HALL.out]; simpa using hcr)
        clear hcr HALL
        go_wp2
        go_roundw
        case measure => simp [intOf]; omega
        case rel => exact ⟨k + 1, by go_num, by omega, HA2, HB3⟩
      · have hbb : (cr != 0) = true := by simpa using hcr
        have H1 : Hid (res = false) := Lib.hid (by
          rw [HG.out, Bool.true_and]
          have h9 : (l.take (k + 1)).all okR = false := by unfold okR; rw [HALL.out]; simpa using hcr
          cases h8 : l.all okR
          · rfl
          · exfalso
            rw [List.all_eq_true] at h8
            have : (l.take (k + 1)).all okR = true := by rw [List.all_eq_true]; exact fun x hx => h8 x (List.mem_of_mem_take hx)
            rw [h9] at this; cases this)
        clear hcr HALL
        go_wp2
        go_ret
        exact ⟨by rw [H1.out]; rfl, HB3.out⟩
    · obtain rfl : k = n := by omega
      have h := HO.out
      rw [List.take_of_length_le (by have := HDL.out; omega)] at h
      have H1 : Hid (res = true) := Lib.hid (by rw [HG.out, h]; rfl)
      clear h
      go_wp2
      go_ret
      exact ⟨by rw [H1.out]; rfl, HB.out⟩
set_option maxRecDepth 100000 in
set_option maxHeartbeats 8000000 in
theorem law12_Good (vo vl : Value) (o : Nm) (l : List Rc) (w0 w : World) (hO : NmArg w0 vo o) (hL : RowArg w0 vl l) (hwz : Below w0.heap.size w0 w) :
    Calls Tryz.prog 26 #[vo, vl] w fun e w' => e = .returned (.bool (goodN o && goodRs l)) ∧ Below w.heap.size w w' := by
  have hc := kn_Good vo o _ rfl w0 w hO (hO.1.below hwz)
  have HL := Lib.hid (fun (W : World) (hb : Below w.heap.size w W) => law5_Good vl l w0 W hL (hwz.trans (hb.mono hwz.size)))
  clear hO hL hwz
  generalize goodN o = g at *
  go_enter Tryz.func26, Tryz.ntmps26
  go_wp2_with fail
  refine hc.mono ?_
  rintro e w1 ⟨rfl, hb1⟩
  have HB1 := Lib.hid hb1
  clear hc hb1
  cases g
  · go_wp2
    go_ret
    exact ⟨rfl, HB1.out⟩
  · have hc := HL.out w1 HB1.out
    clear HL
    go_wp2_with fail
    refine hc.mono ?_
    rintro e w2 ⟨rfl, hb2⟩
    have HB2 := Lib.hid (HB1.out.trans (hb2.mono HB1.out.size))
    clear hc hb2
    go_wp2
    go_ret
    exact ⟨by rw [Bool.true_and]; rfl, HB2.out⟩
end Go.Proofs.YtckammgnmgkieaaGreat

