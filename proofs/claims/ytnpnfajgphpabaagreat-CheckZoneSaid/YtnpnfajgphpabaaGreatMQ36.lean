import Derived.Test.YtnpnfajgphpabaaGreatMQ15
namespace Go.Proofs.YtnpnfajgphpabaaGreat
set_option maxRecDepth 100000
set_option maxHeartbeats 8000000
open Go.RowKit Go.Shelf
theorem SlAt.cell {W W' : World} {a : Option Addr} {n c : Nat} {xs : List Value} (h : SlAt W (.slice a n c) xs) (hb : Below W.heap.size W W') (j : Nat) (hj : j < xs.length) :
 ∃ b off, a = some ⟨b, off, none⟩ ∧ b < W.heap.size ∧ W'.cell? ⟨b, off + j, none⟩ = some xs[j] := by
 obtain ⟨a', c', e, _, _, hx⟩ := h
 cases e
 rcases hx with e | ⟨b, off, ea, hlt, hc⟩
 ·subst e; simp at hj
 ·exact ⟨b, off, ea, hlt, (hb.cell (p := ⟨b, off + j, none⟩) hlt).trans (hc j hj)⟩
theorem qkL (v : Value) (d : Dat) (w : World) (hA : DatArg w v d) :
 Calls Tryz.prog 74 #[v] w fun e w' => e = .returned (.bool (fewD d)) ∧ Below w.heap.size w w' := by
 obtain ⟨⟨vn, vu, vt, vr, rfl, a1, a2, a3, a4⟩, _, hN, _, hT⟩ := hA
 obtain ⟨vs, s1, sl, s2⟩ := a1
 obtain ⟨an, cn, rfl, x1⟩ := id s1
 obtain ⟨au, cu, rfl, x2⟩ := a2
 obtain ⟨ax, ct, rfl, x3⟩ := id a3.1
 obtain ⟨ar, cr, rfl, x4⟩ := a4
 clear x1 x2 x3 x4
 rw [List.length_map, List.length_map]
 obtain ⟨n1, e1⟩ : ∃ n, vs.length = n := ⟨_, rfl⟩
 obtain ⟨n2, e2⟩ : ∃ n, d.nums.length = n := ⟨_, rfl⟩
 obtain ⟨n3, e3⟩ : ∃ n, d.texts.length = n := ⟨_, rfl⟩
 obtain ⟨n4, e4⟩ : ∃ n, d.raw.length = n := ⟨_, rfl⟩
 have hbig : ¬ (n1 ≤ 8 ∧ n2 ≤ 12 ∧ n3 ≤ 40 ∧ n4 ≤ 1100) → fewD d = false := by
  intro h
  unfold fewD
  rw [decide_eq_false (by rw [← sl, e1, e2, e3, e4]; exact h)]; rfl
 have hb0 : ∀ o, Below w.heap.size w (w.alloc o) := fun o => (Below.refl _ w).alloc (qN0) o
 have hcn := fun o j (hj : j < vs.length) => s1.cell (hb0 o) j hj
 have hst : ∀ o j (h1 : j < vs.length) (h2 : j < d.names.length), StrsAt (w.alloc o) vs[j] d.names[j] := fun o j h1 _ => ((s2 j h1).below (hb0 o)).1
 have hct := fun o j hj => a3.1.cell (hb0 o) j hj
 have n0 := new_at w [.int .i64 d.ty, .slice an vs.length cn, .slice au n2 cu, .slice ax n3 ct, .slice ar n4 cr] 44
 rw [e2, e3, e4]
 rw [e1] at n0 ⊢
 have f1 := n0 1 _ rfl; have f2 := n0 2 _ rfl; have f3 := n0 3 _ rfl; have f4 := n0 4 _ rfl
 have E1 := qH0 e1; have E3 := qH0 e3; have SL := qH0 sl; have HB0 := qH0 hb0
 have E24 := qH0 (And.intro e2 e4)
 clear n0 s1 s2 a3 e1 e2 e3 e4 sl hb0
 by_cases c1 : 8 < (n1 : Int)
 ·have H0 : Hid (fewD d = false) := qH0 (hbig (by omega))
  clear hbig hcn hst hct hN hT
  go_enter Tryz.func74, Tryz.ntmps74
  go_wp2
  go_ret
  exact ⟨by rw [H0.out]; rfl, HB0.out _⟩
 by_cases c2 : 12 < (n2 : Int)
 ·have H0 : Hid (fewD d = false) := qH0 (hbig (by omega))
  clear hbig hcn hst hct hN hT
  go_enter Tryz.func74, Tryz.ntmps74
  go_wp2
  go_ret
  exact ⟨by rw [H0.out]; rfl, HB0.out _⟩
 by_cases c3 : 40 < (n3 : Int)
 ·have H0 : Hid (fewD d = false) := qH0 (hbig (by omega))
  clear hbig hcn hst hct hN hT
  go_enter Tryz.func74, Tryz.ntmps74
  go_wp2
  go_ret
  exact ⟨by rw [H0.out]; rfl, HB0.out _⟩
 by_cases c4 : 1100 < (n4 : Int)
 ·have H0 : Hid (fewD d = false) := qH0 (hbig (by omega))
  clear hbig hcn hst hct hN hT
  go_enter Tryz.func74, Tryz.ntmps74
  go_wp2
  go_ret
  exact ⟨by rw [H0.out]; rfl, HB0.out _⟩
 have hC := fun j h1 => hcn (.cells #[.int .i64 d.ty, .slice an n1 cn, .slice au n2 cu, .slice ax n3 ct, .slice ar n4 cr] 44) j h1
 have hS := hst (.cells #[.int .i64 d.ty, .slice an n1 cn, .slice au n2 cu, .slice ax n3 ct, .slice ar n4 cr] 44)
 have hT2 := hct (.cells #[.int .i64 d.ty, .slice an n1 cn, .slice au n2 cu, .slice ax n3 ct, .slice ar n4 cr] 44)
 have hB1 := qH0 (HB0.out (.cells #[.int .i64 d.ty, .slice an n1 cn, .slice au n2 cu, .slice ax n3 ct, .slice ar n4 cr] 44))
 clear hcn hst hct hbig HB0
 go_enter Tryz.func74, Tryz.ntmps74
 go_wp2
 generalize w.alloc (.cells #[.int .i64 d.ty, .slice an n1 cn, .slice au n2 cu, .slice ax n3 ct, .slice ar n4 cr] 44) = W0 at *
 have HFF : Hid (∀ (k : Nat) (h : k < d.names.length), fewN d.names[k] = false → fewD d = false) := qH0 (fun k h e => by
  unfold fewD
  rw [decide_eq_false (p := ∀ n ∈ d.names, fewN n = true) (fun hh => by have := hh _ (List.getElem_mem h); rw [e] at this; cases this)]
  simp)
 have HFT : Hid (∀ (k : Nat) (h : k < d.texts.length), 300 < d.texts[k].length → fewD d = false) := qH0 (fun k h e => by
  unfold fewD
  rw [decide_eq_false (p := ∀ x ∈ d.texts, x.length ≤ 300) (fun hh => by have := hh _ (List.getElem_mem h); omega)]
  simp)
 have HFO : Hid ((∀ n ∈ d.names, fewN n = true) → (∀ x ∈ d.texts, x.length ≤ 300) → fewD d = true) := qH0 (fun h1 h2 => by
  unfold fewD
  rw [decide_eq_true h1, decide_eq_true h2, decide_eq_true]
  ·rfl
  ·have := E24.out; have := E3.out; have := SL.out; have := E1.out; omega)
 go_loopw [3] (fun i wr => ∃ k : Nat, i = .int .i64 k ∧ k ≤ n1 ∧ Hid (∀ n ∈ d.names.take k, fewN n = true) ∧ W0 = wr) (fun i _ => n1 - (intOf i).toNat)
 case atStart => exact ⟨0, rfl, Nat.zero_le _, qH0 (by simp), by first | rfl | trivial⟩
 case round =>
  obtain ⟨k, rfl, hk, HC, rfl⟩ := hrel
  by_cases hlt : k < n1
  ·have hkv : k < vs.length := by rw [E1.out]; exact hlt
   have hkd : k < d.names.length := by rw [← SL.out]; exact hkv
   obtain ⟨g, off, rfl, hg, hc⟩ := hC k hkv
   have hNk := hN _ (List.getElem_mem hkd)
   have hF := qei _ _ W0 (hS k hkv hkd) hNk.1 hNk.2
   have HT := qH0 (show fewN d.names[k] = true → ∀ n ∈ d.names.take (k + 1), fewN n = true from fun e n hn => by
    rw [List.take_succ_eq_append_getElem hkd] at hn
    rcases List.mem_append.1 hn with hn | hn
    ·exact HC.out n hn
    ·rw [List.mem_singleton.1 hn]; exact e)
   have HF0 := qH0 (HFF.out k hkd)
   clear hC hS hNk hT2 hN hT
   generalize vs[k] = sv at *
   generalize fewN d.names[k] = q at *
   cases q with
   | false =>
    have H0 : Hid (fewD d = false) := qH0 (HF0.out rfl)
    go_wp2_with (go_at_call 40; refine hF.mono ?_; rintro e w2 ⟨rfl, rfl⟩)
    go_ret
    exact ⟨by rw [H0.out]; rfl, hB1.out⟩
   | true =>
    go_wp2_with (go_at_call 40; refine hF.mono ?_; rintro e w2 ⟨rfl, rfl⟩)
    go_roundw
    case rel => exact ⟨k + 1, by go_num, by omega, qH0 (by first | exact HT.out rfl | exact HT.out trivial), by first | rfl | trivial⟩
    case measure => simp [intOf]; omega
  ·obtain rfl : k = n1 := by omega
   have HN1 : Hid (∀ n ∈ d.names, fewN n = true) := qH0 (by
    have e := HC.out
    rw [List.take_of_length_le (by have := SL.out; have := E1.out; omega)] at e
    exact e)
   clear hC hS hN HC
   go_wp2
   go_loopw [4] (fun i wr => ∃ j : Nat, i = .int .i64 j ∧ j ≤ n3 ∧ Hid (∀ x ∈ d.texts.take j, x.length ≤ 300) ∧ W0 = wr) (fun i _ => n3 - (intOf i).toNat)
   case atStart => exact ⟨0, rfl, Nat.zero_le _, qH0 (by simp), by first | rfl | trivial⟩
   case round =>
    obtain ⟨j, rfl, hj, HC, rfl⟩ := hrel
    by_cases hlt2 : j < n3
    ·have hjt : j < d.texts.length := by rw [E3.out]; exact hlt2
     obtain ⟨g, off, rfl, hg, hc⟩ := hT2 j hjt
     obtain ⟨s, hs0, hsz, hsv⟩ := str_of d.texts[j]
     rw [hsv] at hc
     have hxk := hT _ (List.getElem_mem hjt)
     unfold maxLen at hxk
     rw [← hsz] at hxk
     by_cases hb : 300 < (s.size : Int)
     ·have H0 : Hid (fewD d = false) := qH0 (HFT.out j hjt (by omega))
      clear hs0 hsz hsv hT2 hT
      go_wp2
      go_ret
      exact ⟨by rw [H0.out]; rfl, hB1.out⟩
     ·have HT : Hid (∀ x ∈ d.texts.take (j + 1), x.length ≤ 300) := qH0 (fun n hn => by
       rw [List.take_succ_eq_append_getElem hjt] at hn
       rcases List.mem_append.1 hn with hn | hn
       ·exact HC.out n hn
       ·rw [List.mem_singleton.1 hn]; omega)
      clear hs0 hsz hsv hT2 hT
      go_wp2
      go_roundw
      case rel => exact ⟨j + 1, by go_num, by omega, HT, by first | rfl | trivial⟩
      case measure => simp [intOf]; omega
    ·obtain rfl : j = n3 := by omega
     have H0 : Hid (fewD d = true) := qH0 (HFO.out HN1.out (by
      have e := HC.out
      rw [List.take_of_length_le (by have := E3.out; omega)] at e
      exact e))
     clear hT2 hT
     go_wp2
     go_ret
     exact ⟨by rw [H0.out]; rfl, hB1.out⟩
end Go.Proofs.YtnpnfajgphpabaaGreat
