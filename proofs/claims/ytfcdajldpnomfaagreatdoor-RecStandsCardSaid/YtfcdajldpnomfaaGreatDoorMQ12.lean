/-
  Contract of name.Compare.
-/
import Derived.Test.YtfcdajldpnomfaaGreatDoorMQ43
import Derived.Test.YtfcdajldpnomfaaGreatDoorMQ27
import Derived.Test.YtfcdajldpnomfaaGreatDoorMQ29
import Derived.Test.YtfcdajldpnomfaaGreatDoorMQ34
import Derived.BigQuiet
import Derived.Deep.RegionHeld3
namespace Go.Proofs.YtfcdajldpnomfaaGreatDoor
set_option maxRecDepth 20000
open Go.RowKit Go.Shelf

section
attribute [local go_sem] Oper.semAt_some
set_option maxRecDepth 100000 in
set_option maxHeartbeats 4000000 in
theorem name_Compare (v u : Value) (xs ys : Nm) (w : World) (hA : StrsAt w v xs) (hU : StrsAt w u ys) (hk : NmOK xs) (hk2 : NmOK ys) :
    Calls Tryz.prog 33 #[v, u] w fun e w' => e = .returned (.int .i64 (compareN xs ys)) ∧ Below w.heap.size w w' := by
  obtain ⟨a, c, rfl, _⟩ := id hA
  obtain ⟨a2, c2, rfl, _⟩ := id hU
  have hl1 := hk.1
  have hl2 := hk2.1
  refine (callsIn_wide (n := 5)).1 ?_
  refine callsIn_of_wp_marks Tryz.func33 rfl trivial ?_ rfl
  simp only [Tryz.ntmps33, List.size_toArray, List.length_cons, List.length_nil, Nat.reduceAdd, Nat.reduceSub, Array.replicate_succ, Array.replicate_zero, List.push_toArray, List.append_toArray, List.nil_append, List.cons_append]
  gi_wp2_with (refine ⟨trivial, ?_⟩; gi_at_call 66; refine (callsIn_wide.2 (name_upward _ _ _ _)).mono ?_; rintro e w' ⟨rfl, rfl⟩)
  obtain ⟨W0, hW0⟩ : ∃ W0, ((((w.alloc (.cells #[.slice a xs.length c] 23)).alloc (.cells #[.slice a2 ys.length c2] 23)).alloc (.cells #[.int .i64 0] 3)).alloc (.cells #[.slice a xs.length c] 23)) = W0 := ⟨_, rfl⟩
  have bA : Boxed W0 w.heap.size 23 (.slice a xs.length c) := by rw [← hW0]; exact (((Boxed.new w _ _).alloc _).alloc _).alloc _
  have bB : Boxed W0 (w.heap.size + 1) 23 (.slice a2 ys.length c2) := by
    have := Boxed.new (w.alloc (.cells #[.slice a xs.length c] 23)) 23 (.slice a2 ys.length c2)
    rw [World.size_alloc] at this
    rw [← hW0]; exact (this.alloc _).alloc _
  have bI : Boxed W0 (w.heap.size + 1 + 1) 3 (.int .i64 0) := by
    have := Boxed.new ((w.alloc (.cells #[.slice a xs.length c] 23)).alloc (.cells #[.slice a2 ys.length c2] 23)) 3 (.int .i64 0)
    rw [World.size_alloc, World.size_alloc] at this
    rw [← hW0]; exact this.alloc _
  have bV : Boxed W0 (w.heap.size + 1 + 1 + 1) 23 (.slice a xs.length c) := by
    have := Boxed.new (((w.alloc (.cells #[.slice a xs.length c] 23)).alloc (.cells #[.slice a2 ys.length c2] 23)).alloc (.cells #[.int .i64 0] 3)) 23 (.slice a xs.length c)
    rw [World.size_alloc, World.size_alloc, World.size_alloc] at this
    rw [← hW0]; exact this
  have hsz : W0.heap.size = w.heap.size + 4 := by rw [← hW0]; simp
  have hB0 : Below w.heap.size w W0 := by rw [← hW0]; exact ((((Below.refl _ w).alloc (Nat.le_refl _) _).alloc (by simp) _).alloc (by simp; omega) _).alloc (by simp; omega) _
  have hrow := hA.row_lt
  rw [hW0]
  have HZ := Lib.hid hsz; clear hsz hW0
  refine wpIn_rangeFunc_ownG rfl (by omega) (gf := 105) (lb := #[.pointer (some ⟨w.heap.size + 1 + 1 + 1, 0, none⟩)]) rfl trivial (enters_of Tryz.func105 (by kernel_rfl) rfl)
    (upward_stops _ (by omega) (w.heap.size + 1 + 1 + 1) (.slice a xs.length c) xs (by unfold maxLen; omega) W0 (by rw [HZ.out]; omega) bV.cell (hA.below hB0)) keepN_t (keepN_b (by rw [HZ.out]; omega) (fun g e => by have := hrow g e; rw [HZ.out]; omega)) (Below.refl _ _) (fun _ => rfl)
    (fun pre W => Boxed W w.heap.size 23 (.slice a xs.length c) ∧ Boxed W (w.heap.size + 1) 23 (.slice a2 ys.length c2) ∧ Boxed W (w.heap.size + 1 + 1) 3 (.int .i64 0) ∧ Below w.heap.size w W ∧ ∀ j ∈ pre, AlikeAt xs ys j)
    (fun k pre W => Boxed W w.heap.size 23 (.slice a xs.length c) ∧ Boxed W (w.heap.size + 1) 23 (.slice a2 ys.length c2) ∧ Below w.heap.size w W ∧ ∃ p x, pre = p ++ [x] ∧ (∀ j ∈ p, AlikeAt xs ys j) ∧
      ((k = .exit 0 ∧ ¬ xs.length ≤ x.val + ys.length ∧ Boxed W (w.heap.size + 1 + 1) 3 (.int .i64 0)) ∨ (k = .ret ∧ ∃ d, ∃ h : d < ys.length, x.val + ys.length = d + xs.length ∧ compareM xs[x] ys[d] ≠ 0 ∧ Boxed W (w.heap.size + 1 + 1) 3 (.int .i64 (compareM xs[x] ys[d])))))
    (OwnFrom.and (Own.from (boxed_own _ _ _) _) (OwnFrom.and (Own.from (boxed_own _ _ _) _) (OwnFrom.and (Own.from (boxed_own _ _ _) _) (OwnFrom.and (ownFrom_below (Nat.le_refl _) (by rw [HZ.out]; omega)) (ownFrom_pure _ _)))))
    ?hix
    ⟨bA, bB, bI, hB0, by simp⟩
    (fun j => { tmps := #[.slice a xs.length c, .slice a2 ys.length c2, .pointer (some ⟨w.heap.size, 0, none⟩), .pointer (some ⟨w.heap.size + 1, 0, none⟩), .pointer (some ⟨w.heap.size + 1 + 1, 0, none⟩), .int .i64 (j.val : Int), .string ⟨xs[j].toArray⟩, undef, undef, .slice a xs.length c, .func (.func 105) #[] #[.pointer (some ⟨w.heap.size + 1 + 1 + 1, 0, none⟩)], .int .i64 (j.val : Int), .string ⟨xs[j].toArray⟩, undef, undef, undef, undef, undef, undef, undef, undef, undef, undef, undef, undef, undef, undef, undef, undef, undef, undef, undef, undef, undef, undef, undef], defers := [] }) ?assign ?body ?done ?stop
  case hix =>
    intro k pre W W' row hs hg hr
    obtain ⟨h1, h2, h3, p, x, e, h4, h5⟩ := hs
    have hO : ∀ {B : Nat} {t : TypeId} {v : Value}, Boxed W B t v → Boxed W' B t v := fun hb => Own.from (boxed_own _ _ (fun _ : Unit => _)) _ () W W' row hb hg hr
    refine ⟨hO h1, hO h2, ownFrom_below (β := Unit) (Nat.le_refl _) (by rw [HZ.out]; omega) () W W' row h3 hg hr, p, x, e, h4, ?_⟩
    rcases h5 with ⟨a1, a2, a3⟩ | ⟨a1, d, h, a2, a3, a4⟩
    · exact .inl ⟨a1, a2, hO a3⟩
    · exact .inr ⟨a1, d, h, a2, a3, hO a4⟩
  case assign =>
    intro l x W K hK
    unfold idxV strV
    gi_wp2
    exact hK
  case body =>
    rintro l pre x W ⟨hN, hM, hI, hB, hC⟩ hlt
    have cn := hN.cell
    have cm := hM.cell
    have c0 := hI.cell; have f0 := hI.frozen
    have hxi : x.val < xs.length := x.isLt
    by_cases hge : xs.length ≤ x.val + ys.length
    · obtain ⟨d, hd⟩ : ∃ d, x.val + ys.length = d + xs.length := ⟨x.val + ys.length - xs.length, by omega⟩
      have hdy : d < ys.length := by omega
      have hde : x.val + ys.length - xs.length = d := by omega
      obtain ⟨g, off, rfl, hg, hcell⟩ := hU.cell hB d hdy
      have hz1 : ys[d].length ≤ 1048576 := hk2.get d hdy
      have hx1 : xs[x].length ≤ 1048576 := hk.get x.val hxi
      obtain ⟨sx, hsx0, hsxz, hsxv⟩ := str_of xs[x]
      obtain ⟨sy, hsy0, hsyz, hsyv⟩ := str_of ys[d]
      have hS := fun W => label_Compare sx sy W (by unfold maxLen; omega) (by unfold maxLen; omega)
      rw [hsx0, hsy0] at hS
      rw [str_at hsxv]
      rw [hsyv] at hcell
      have hsub : (x.val : Int) + (ys.length : Int) - (xs.length : Int) = (d : Int) := by omega
      generalize hq : compareM xs[x] ys[d] = q at *
      have HQ := Lib.hid hq
      clear hsx0 hsxz hsxv hsy0 hsyz hsyv hx1 hz1 hq hde
      by_cases hq0 : (q != 0) = true
      · have hn : q ≠ 0 := by simpa using hq0
        have HN := Lib.hid hn; clear hn
        gi_wp2_with (refine ⟨trivial, ?_⟩; gi_at_call 67; refine (CallsIn.inRound l (callsIn_wide.2 (hS _))).mono ?_; rintro e w' ⟨rfl, n, rfl⟩)
        refine ⟨((keepsOthers_drewN _ _).trans (KeepsOthers.setCell _ _ _)).from _, hN.other (by omega) _, hM.other (by omega) _, (below_drewQ hB _).setCell (p := ⟨w.heap.size + 1 + 1, 0, none⟩) (by simp; omega) _, pre, x, rfl, hC, .inr ⟨rfl, d, hdy, hd, by rw [HQ.out]; exact HN.out, ?_⟩⟩
        rw [HQ.out]; exact Boxed.set _ (show Boxed (W.drewN n) (w.heap.size + 1 + 1) 3 (.int .i64 0) from hI)
      · have hn : (q != 0) = false := by simpa using hq0
        have hn0 : q = 0 := by simpa using hn
        have HN := Lib.hid hn0; clear hn0 hq0
        gi_wp2_with (refine ⟨trivial, ?_⟩; gi_at_call 67; refine (CallsIn.inRound l (callsIn_wide.2 (hS _))).mono ?_; rintro e w' ⟨rfl, n, rfl⟩)
        refine ⟨(keepsOthers_drewN _ _).from _, KeepN.drewN _ _, hN, hM, hI, below_drewQ hB _, ?_⟩
        intro j hj
        rcases List.mem_append.1 hj with hj | hj
        · exact hC j hj
        · obtain rfl := List.mem_singleton.1 hj; exact ⟨d, hdy, hd, by rw [HQ.out]; exact HN.out⟩
    · have hneg : (x.val : Int) + (ys.length : Int) - (xs.length : Int) < 0 := by omega
      gi_wp2
      exact ⟨(KeepsOthers.refl _).from _, hN, hM, hB, pre, x, rfl, hC, .inl ⟨rfl, hge, hI⟩⟩
  case done =>
    rintro D zs W hD rfl ⟨hN, hM, hI, hB, hC⟩ hK
    have cn := hN.cell
    have cm := hM.cell
    have c0 := hI.cell; have f0 := hI.frozen
    have hDn : w.heap.size + 1 + 1 ≠ D := by have := HZ.out; omega
    have hE : compareN xs ys = cmpI xs.length ys.length := compareN_even (fun j h1 h2 => (hC ⟨j, h1⟩ (by simp)).eq.2 (by omega))
    have HE := Lib.hid hE; clear hE hC
    gi_wp2_with (refine ⟨trivial, ?_⟩; gi_at_call 68; refine (callsIn_wide.2 (cmp_int _ _ _)).mono ?_; rintro e w' ⟨rfl, rfl⟩)
    refine ⟨by simp, .inl ⟨_, _, rfl, run_takeDeferred (heap_setOther hK hDn.symm _), ?_⟩⟩
    refine ⟨_, results_cell rfl Tryz.underlying3 _ _ rfl (out_cell (hI.set _) hDn _), by rw [HE.out], ?_⟩
    exact below_putO (hB.setCell (p := ⟨w.heap.size + 1 + 1, 0, none⟩) (by simp; omega) _) (by have := HZ.out; omega) (Nat.le_refl _)
  case stop =>
    rintro D k pre W hD hp ⟨hN, hM, hB, p, x, rfl, hp0, hor⟩ hK
    have cn := hN.cell
    have cm := hM.cell
    have hDn : w.heap.size + 1 + 1 ≠ D := by have := HZ.out; omega
    obtain ⟨_, hall⟩ := rev_prefix hp
    rcases hor with ⟨rfl, hx, hI⟩ | ⟨rfl, d, hd, he, hne, hI⟩
    · have c0 := hI.cell; have f0 := hI.frozen
      have hE : compareN xs ys = cmpI xs.length ys.length := compareN_even (fun j h1 h2 => (hp0 ⟨j, h1⟩ (hall _ (by show x.val < j; omega))).eq.2 (by omega))
      have HE := Lib.hid hE; clear hE hall hp0 hx
      gi_wp2_with (refine ⟨trivial, ?_⟩; gi_at_call 68; refine (callsIn_wide.2 (cmp_int _ _ _)).mono ?_; rintro e w' ⟨rfl, rfl⟩)
      refine ⟨by simp, .inl ⟨_, _, rfl, run_takeDeferred (heap_setOther hK hDn.symm _), ?_⟩⟩
      refine ⟨_, results_cell rfl Tryz.underlying3 _ _ rfl (out_cell (hI.set _) hDn _), by rw [HE.out], ?_⟩
      exact below_putO (hB.setCell (p := ⟨w.heap.size + 1 + 1, 0, none⟩) (by simp; omega) _) (by have := HZ.out; omega) (Nat.le_refl _)
    · have c0 := hI.cell; have f0 := hI.frozen
      have hE : compareN xs ys = compareM xs[x] ys[d] := by
        obtain rfl : d = x.val + ys.length - xs.length := by omega
        exact compareN_at x.val x.isLt (by omega) hne (fun j h1 h2 h3 => (hp0 ⟨j, h1⟩ (hall _ h3)).eq.2 (by omega))
      have HE := Lib.hid hE; clear hE hall hp0
      gi_wp2
      refine ⟨by simp, .inl ⟨_, _, rfl, run_takeDeferred hK, ?_⟩⟩
      refine ⟨_, results_cell rfl Tryz.underlying3 _ _ rfl (out_cell hI hDn _), by rw [HE.out], ?_⟩
      exact below_putO hB (by have := HZ.out; omega) (Nat.le_refl _)
end
end Go.Proofs.YtfcdajldpnomfaaGreatDoor

/-
  The document's names: NameText; the statements' own helpers of layer 2: Few, Is.
-/
namespace Go.Proofs.YtfcdajldpnomfaaGreatDoor
set_option maxRecDepth 20000
open Go.RowKit Go.Shelf

def fewN (xs : Nm) : Bool := decide (xs.length ≤ 140 ∧ ∀ x ∈ xs, x.length ≤ 100)
theorem fewN_ok {xs : Nm} (h : fewN xs = true) : NmOK xs := by
  have := of_decide_eq_true h
  exact ⟨by omega, fun x hx => by have := this.2 x hx; omega⟩

set_option maxHeartbeats 4000000 in
theorem law2_Few (v : Value) (xs : Nm) (w : World) (hA : StrsAt w v xs) (hm : xs.length ≤ maxLen) (hk : ∀ x ∈ xs, x.length ≤ maxLen) :
    Calls Tryz.prog 24 #[v] w fun e w' => e = .returned (.bool (fewN xs)) ∧ w' = w := by
  obtain ⟨a, c, rfl, _⟩ := id hA
  unfold maxLen at hm hk
  obtain ⟨n, hn⟩ : ∃ n, xs.length = n := ⟨_, rfl⟩
  have hcell := fun j hj => hA.cell (Below.refl _ w) j hj
  rw [hn] at hm ⊢
  have HN := Lib.hid hn
  clear hA hn
  by_cases hbig : 140 < (n : Int)
  · have H0 : Hid (fewN xs = false) := Lib.hid (decide_eq_false (fun h => by have := HN.out; omega))
    go_enter Tryz.func24, Tryz.ntmps24
    go_wp2
    go_ret
    exact ⟨by rw [H0.out]; rfl, rfl⟩
  go_enter Tryz.func24, Tryz.ntmps24
  go_wp2
  go_loopw [3] (fun i wr => ∃ k : Nat, i = .int .i64 k ∧ k ≤ n ∧ Hid (∀ x ∈ xs.take k, x.length ≤ 100) ∧ wr = w) (fun i _ => n - (intOf i).toNat)
  case atStart => exact ⟨0, rfl, Nat.zero_le _, Lib.hid (by simp), rfl⟩
  case round =>
    obtain ⟨k, rfl, hkn, HC, rfl⟩ := hrel
    by_cases hlt : k < n
    · have hkp : k < xs.length := by rw [HN.out]; exact hlt
      obtain ⟨g, off, rfl, hg, hc⟩ := hcell k hkp
      obtain ⟨s, hs0, hsz, hsv⟩ := str_of xs[k]
      rw [hsv] at hc
      have hxk := hk _ (List.getElem_mem hkp)
      rw [← hsz] at hxk
      by_cases hb : 100 < (s.size : Int)
      · have H0 : Hid (fewN xs = false) := Lib.hid (decide_eq_false (fun h => by have := h.2 _ (List.getElem_mem hkp); omega))
        clear hs0 hsz hsv hk
        go_wp2
        go_ret
        exact ⟨by rw [H0.out]; rfl, rfl⟩
      · have HC2 : Hid (∀ x ∈ xs.take (k + 1), x.length ≤ 100) := Lib.hid (by
          intro x hx; rw [List.take_succ_eq_append_getElem hkp] at hx
          rcases List.mem_append.1 hx with h | h
          · exact HC.out x h
          · obtain rfl := List.mem_singleton.1 h; omega)
        clear hs0 hsz hsv hk
        go_wp2
        go_roundw
        case rel => exact ⟨k + 1, by go_num, by omega, HC2, trivial⟩
        case measure => simp [intOf]; omega
    · obtain rfl : k = n := by omega
      have H0 : Hid (fewN xs = true) := Lib.hid (decide_eq_true ⟨by have := HN.out; omega, by have h := HC.out; rw [List.take_of_length_le (by rw [HN.out]; exact Nat.le_refl _)] at h; exact h⟩)
      clear hk
      go_wp2
      go_ret
      exact ⟨by rw [H0.out]; rfl, rfl⟩

set_option maxHeartbeats 4000000 in
theorem ref_NameText (v : Value) (xs : Nm) (w : World) (hA : StrsAt w v xs) (hk : NmOK xs) :
    Calls Tryz.prog 41 #[v] w fun e w' => e = .returned (.string ⟨(textN xs).toArray⟩) ∧ Below w.heap.size w w' := by
  obtain ⟨a, c, rfl, _⟩ := id hA
  have hl := hk.1
  by_cases h0 : xs = []
  · have ht : textN xs = [46] := by unfold textN; rw [if_pos h0]
    have h00 : xs.length = 0 := by rw [h0]; rfl
    rw [ht, h00]
    clear h0 ht
    go_enter Tryz.func41, Tryz.ntmps41
    go_wp2
    go_ret
    exact ⟨rfl, Below.refl _ _⟩
  have HT := Lib.hid (textN_eq h0)
  obtain ⟨n, hn⟩ : ∃ n, xs.length = n := ⟨_, rfl⟩
  have hne : ((n : Int) == 0) = false := by
    have : xs.length ≠ 0 := fun e => h0 (List.eq_nil_of_length_eq_zero e)
    simp; omega
  have hcell := fun W' (hb : Below w.heap.size w W') j hj => hA.cell hb j hj
  rw [hn] at hl ⊢
  have HN := Lib.hid hn
  clear hA hn h0
  go_enter Tryz.func41, Tryz.ntmps41
  go_wp2
  go_loopw [3, 4] (fun u i wr => ∃ (k : Nat) (T : List UInt8), i = .int .i64 k ∧ k ≤ n ∧ u = .string ⟨T.toArray⟩ ∧ T.length ≤ k * 4194305 ∧ Below w.heap.size w wr ∧ Hid (textF (xs.take k) = T)) (fun _ i _ => n - (intOf i).toNat)
  case atStart => exact ⟨0, [], rfl, Nat.zero_le _, rfl, Nat.zero_le _, Below.refl _ _, Lib.hid rfl⟩
  case round =>
    obtain ⟨k, T, rfl, hkn, rfl, hTl, hB, HF⟩ := hrel
    by_cases hlt : k < n
    · have hkp : k < xs.length := by rw [HN.out]; exact hlt
      obtain ⟨g, off, rfl, hg, hc⟩ := hcell wr hB k hkp
      obtain ⟨s, hs0, hsz, hsv⟩ := str_of xs[k]
      rw [hsv] at hc
      have hxk := hk.get k hkp
      have hFd := fun W => ref_LabelText s W (by omega)
      rw [hs0] at hFd
      have htl := textL_le xs[k]
      have hr : textF (xs.take (k + 1)) = T ++ textL xs[k] ++ [46] := by rw [List.take_succ_eq_append_getElem hkp, textF_snoc, HF.out]
      have HR := Lib.hid hr
      clear hs0 hsz hsv hr
      generalize textL xs[k] = y at *
      have hT2 : (T ++ y ++ [46]).length ≤ (k + 1) * 4194305 := by simp; omega
      have a1 := fun W => run_string_add_sum (P := Tryz.prog) W ⟨T.toArray⟩ ⟨y.toArray⟩ (by rw [mk_size, mk_size]; omega)
      rw [mk_append] at a1
      have a2 := fun W => run_string_add_sum (P := Tryz.prog) W ⟨(T ++ y).toArray⟩ ⟨#[46]⟩ (by rw [mk_size]; show _ + 1 ≤ _; simp; omega)
      have e2 : (⟨(T ++ y).toArray⟩ : ByteArray) ++ ⟨#[46]⟩ = ⟨(T ++ y ++ [46]).toArray⟩ := mk_append (T ++ y) [46]
      rw [e2] at a2
      have HT2 := Lib.hid hT2
      clear e2 htl hxk hT2
      have hBz := hB.size
      generalize hZ : T ++ y ++ [46] = Z at *
      generalize hY : T ++ y = Y at *
      clear hZ hY
      go_wp2_with (go_at_call 90; refine (hFd _).mono ?_; rintro e w2 ⟨rfl, hb2⟩; have hB2 := hB.trans (hb2.mono hBz))
      go_roundw
      case rel => exact ⟨k + 1, Z, by go_num, by omega, rfl, HT2.out, hB2, HR⟩
      case measure => simp [intOf]; omega
    · obtain rfl : k = n := by omega
      have hr : textN xs = T := by rw [HT.out, ← HF.out, List.take_of_length_le (by rw [HN.out]; exact Nat.le_refl _)]
      have HR := Lib.hid hr; clear hr
      go_wp2
      go_ret
      exact ⟨by rw [HR.out]; rfl, hB⟩
end Go.Proofs.YtfcdajldpnomfaaGreatDoor

/-
  The statements' own helper of layer 2: Is.
-/
namespace Go.Proofs.YtfcdajldpnomfaaGreatDoor
set_option maxRecDepth 20000
open Go.RowKit Go.Shelf

set_option maxHeartbeats 4000000 in
theorem law2_Is (v u : Value) (xs ys : Nm) (w : World) (hA : StrsAt w v xs) (hU : StrsAt w u ys) (hm : xs.length ≤ 4611686018427387904) :
    Calls Tryz.prog 50 #[v, u] w fun e w' => e = .returned (.bool (decide (xs = ys))) ∧ Below w.heap.size w w' := by
  obtain ⟨a, c, rfl, _⟩ := id hA
  obtain ⟨a2, c2, rfl, _⟩ := id hU
  by_cases hne : ((xs.length : Int) != (ys.length : Int)) = true
  · have H0 : Hid (decide (xs = ys) = false) := Lib.hid (decide_eq_false (by intro e; rw [e] at hne; simp at hne))
    go_enter Tryz.func50, Tryz.ntmps50
    go_wp2
    go_ret
    exact ⟨by rw [H0.out]; rfl, Below.refl _ _⟩
  have hlen : ((xs.length : Int) != (ys.length : Int)) = false := by simpa using hne
  have hel : xs.length = ys.length := by simp at hlen; omega
  have hcell := fun W' (hb : Below w.heap.size w W') j hj => hA.cell hb j hj
  have hcell2 := fun W' (hb : Below w.heap.size w W') j hj => hU.cell hb j hj
  have HE := Lib.hid hel
  obtain ⟨n, hn⟩ : ∃ n, xs.length = n := ⟨_, rfl⟩
  have hn2 : ys.length = n := by omega
  rw [hn] at hm ⊢
  rw [hn2]
  have HN := Lib.hid hn; have HN2 := Lib.hid hn2
  clear hA hU hel hne hlen hn hn2
  have hnn : ((n : Int) != (n : Int)) = false := by simp
  go_enter Tryz.func50, Tryz.ntmps50
  go_wp2
  go_loopw [5] (fun i wr => ∃ k : Nat, i = .int .i64 k ∧ k ≤ n ∧ Hid (xs.take k = ys.take k) ∧ Below w.heap.size w wr) (fun i _ => n - (intOf i).toNat)
  case atStart => exact ⟨0, rfl, Nat.zero_le _, Lib.hid rfl, Below.refl _ _⟩
  case round =>
    obtain ⟨k, rfl, hkn, HC, hB⟩ := hrel
    by_cases hlt : k < n
    · have hkp : k < xs.length := by rw [HN.out]; exact hlt
      have hkq : k < ys.length := by rw [HN2.out]; exact hlt
      obtain ⟨g, off, rfl, hg, hc⟩ := hcell wr hB k hkp
      obtain ⟨g2, off2, rfl, hg2, hc2⟩ := hcell2 wr hB k hkq
      obtain ⟨s, hs0, hsz, hsv⟩ := str_of xs[k]
      obtain ⟨t, ht0, htz, htv⟩ := str_of ys[k]
      rw [hsv] at hc
      rw [htv] at hc2
      by_cases hq : s = t
      · have HC2 : Hid (xs.take (k + 1) = ys.take (k + 1)) := Lib.hid (by
          rw [List.take_succ_eq_append_getElem hkp, List.take_succ_eq_append_getElem hkq, HC.out, ← hs0, ← ht0, hq])
        subst hq
        clear hs0 hsz hsv ht0 htz htv
        go_wp2
        go_quiet (fail)
        go_wp2
        go_roundw
        case rel => exact ⟨k + 1, by go_num, by omega, HC2, below_drewQ hB _⟩
        case measure => simp [intOf]; omega
      · have H0 : Hid (decide (xs = ys) = false) := Lib.hid (decide_eq_false (by
          intro e; apply hq; apply ba_ext; rw [hs0, ht0]; simp only [e]))
        have hq2 : (s.toList == t.toList) = false := by
          rw [toList_data, toList_data]; simp only [beq_eq_false_iff_ne, ne_eq]; exact fun e => hq (ba_ext e)
        clear hs0 hsz hsv ht0 htz htv
        go_wp2
        go_quiet (fail)
        go_wp2
        go_ret
        exact ⟨by rw [H0.out]; rfl, below_drewQ hB _⟩
    · obtain rfl : k = n := by omega
      have H0 : Hid (decide (xs = ys) = true) := Lib.hid (decide_eq_true (by
        have h := HC.out
        rwa [List.take_of_length_le (by rw [HN.out]; exact Nat.le_refl _), List.take_of_length_le (by rw [HN2.out]; exact Nat.le_refl _)] at h))
      go_wp2
      go_ret
      exact ⟨by rw [H0.out]; rfl, hB⟩
end Go.Proofs.YtfcdajldpnomfaaGreatDoor

/-
  The statements' own helper of layer 2: Good.
-/
namespace Go.Proofs.YtfcdajldpnomfaaGreatDoor
set_option maxRecDepth 20000
open Go.RowKit Go.Shelf

def goodN (xs : Nm) : Bool := fewN xs && decide (checkN xs = 0)
end Go.Proofs.YtfcdajldpnomfaaGreatDoor

/-
  The document's names (package toponymref6): Same, Under.
-/
namespace Go.Proofs.YtfcdajldpnomfaaGreatDoor
set_option maxRecDepth 20000
open Go.RowKit Go.Shelf

theorem keepS2 {n : Nat} {w W W' : World} {p q : Addr} {u v : Value} (h : W.cell? p = some u ∧ W.cell? q = some v ∧ Below n w W) (hb : Below W.heap.size W W') (hp : p.block < n) (hq : q.block < n) (hn : n ≤ w.heap.size) :
    W'.cell? p = some u ∧ W'.cell? q = some v ∧ Below n w W' := by
  have hz := h.2.2.size
  exact ⟨(hb.cell (by omega)).trans h.1, (hb.cell (by omega)).trans h.2.1, h.2.2.trans (hb.mono (by omega))⟩

theorem nm_nil (W : World) : NmAt W (.slice none 0 0) [] := ⟨⟨_, _, rfl, .inl rfl⟩, SlOK.nil⟩
theorem foldN_cons (x : List UInt8) (r : Nm) : foldN (x :: r) = foldL x :: foldN r := rfl
theorem foldL_size (l : List UInt8) : (foldL l).length = l.length := by simp [foldL]

end Go.Proofs.YtfcdajldpnomfaaGreatDoor

/-
  The document's names (package toponymref6): Under, Common.
-/
namespace Go.Proofs.YtfcdajldpnomfaaGreatDoor
set_option maxRecDepth 20000
open Go.RowKit Go.Shelf

theorem strs_cap {W : World} {a : Option Addr} {n c c' : Nat} {xs : Nm} (h : StrsAt W (.slice a n c) xs) : StrsAt W (.slice a n c') xs := by
  obtain ⟨a1, c1, e, hx⟩ := h
  cases e
  exact ⟨_, _, rfl, hx⟩
/-- What is left of a slice from d on, as the walk has it. -/
theorem nm_drop {W : World} {a : Option Addr} {c d : Nat} {xs : Nm} (h : NmAt W (.slice a xs.length c) xs) (hd : d ≤ xs.length) :
    (a = none ∧ xs = [] ∧ d = 0 ∧ c = 0) ∨ (∃ ad, a = some ad ∧ xs = [] ∧ d = 0) ∨ ∃ g off, a = some ⟨g, off, none⟩ ∧ NmAt W (.slice (if c = d then some ⟨g, off, none⟩ else some ⟨g, off + d, none⟩) (xs.length - d) (c - d)) (xs.drop d) := by
  obtain ⟨hA, a', n', c', e, hcap, hno⟩ := h
  cases e
  cases a with
  | none =>
    have h0 := hno rfl
    subst h0
    have hx : xs = [] := List.eq_nil_of_length_eq_zero (by omega)
    subst hx
    exact .inl ⟨rfl, rfl, by simpa using hd, rfl⟩
  | some ad =>
    by_cases hx : xs = []
    · subst hx; exact .inr (.inl ⟨ad, rfl, rfl, by simpa using hd⟩)
    · right; right
      obtain ⟨a1, c1, e1, h1⟩ := id hA
      cases e1
      rcases h1 with e | ⟨g, off, e, hg, hc⟩
      · exact absurd e hx
      · cases e
        exact ⟨g, off, rfl, strs_drop hA hcap d hd _, drop_ok hcap⟩

theorem common_first {xs ys : Nm} {k : Nat} (hk : k ≤ xs.length) (h : underN ys (xs.drop k) = true) (hn : ∀ j, j < k → underN ys (xs.drop j) = false) : commonN xs ys = xs.drop k := by
  have hl := sharedR_le xs.reverse ys.reverse
  simp only [List.length_reverse] at hl
  have h1 := common_deepest xs ys (xs.length - k) (by omega) (by rw [show xs.length - (xs.length - k) = k by omega]; exact h)
  rw [common_len] at h1
  have h2 := common_under_b xs ys
  unfold commonN at h2 ⊢
  by_cases hlt : xs.length - sharedR xs.reverse ys.reverse < k
  · rw [hn _ hlt] at h2; cases h2
  · congr 1; omega
def CommonPost (xs ys : Nm) (w : World) (e : Ending) (w' : World) : Prop := ∃ v', e = .returned v' ∧ NmAt w' v' (commonN xs ys) ∧ Below w.heap.size w w'

end Go.Proofs.YtfcdajldpnomfaaGreatDoor

