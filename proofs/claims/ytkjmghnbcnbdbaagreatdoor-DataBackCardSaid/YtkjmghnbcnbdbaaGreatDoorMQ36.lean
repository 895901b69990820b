/-
  The law's Few for data: the walk.
-/
import Derived.Test.YtkjmghnbcnbdbaaGreatDoorMQ14
import Derived.Test.YtkjmghnbcnbdbaaGreatDoorMQ16
namespace Go.Proofs.YtkjmghnbcnbdbaaGreatDoor
open Go.RowKit Go.Shelf

theorem SlAt.cell {W W' : World} {a : Option Addr} {n c : Nat} {xs : List Value} (h : SlAt W (.slice a n c) xs) (hb : Below W.heap.size W W') (j : Nat) (hj : j < xs.length) :
    ∃ b off, a = some ⟨b, off, none⟩ ∧ b < W.heap.size ∧ W'.cell? ⟨b, off + j, none⟩ = some xs[j] := by
  obtain ⟨a', c', e, _, _, hx⟩ := h
  cases e
  rcases hx with e | ⟨b, off, ea, hlt, hc⟩
  · subst e; simp at hj
  · exact ⟨b, off, ea, hlt, (hb.cell (p := ⟨b, off + j, none⟩) hlt).trans (hc j hj)⟩

set_option maxRecDepth 100000 in
set_option maxHeartbeats 8000000 in
theorem law4_Few (v : Value) (d : Dat) (w : World) (hA : DatArg w v d) :
    Calls Tryz.prog 8 #[v] w fun e w' => e = .returned (.bool (fewD d)) ∧ Below w.heap.size w w' := by
  obtain ⟨⟨vn, vu, vt, vr, rfl, a1, a2, a3, a4⟩, _, hN, _, hT⟩ := hA
  obtain ⟨vs, s1, sl, s2⟩ := a1
  obtain ⟨an, cn, rfl, x1⟩ := id s1
  obtain ⟨au, cu, rfl, x2⟩ := a2
  obtain ⟨ax, ct, rfl, x3⟩ := id a3.1
  obtain ⟨ar, cr, rfl, x4⟩ := a4
  clear x1 x2 x3 x4
  rw [List.length_map, List.length_map]
  obtain ⟨n1, e1⟩ : ∃ n, vs.length = n := ⟨_, rfl⟩
  obtain ⟨n2, e2⟩ : ∃ n, d.nums.length = n := ⟨_, rfl⟩
  obtain ⟨n3, e3⟩ : ∃ n, d.texts.length = n := ⟨_, rfl⟩
  obtain ⟨n4, e4⟩ : ∃ n, d.raw.length = n := ⟨_, rfl⟩
  have hbig : ¬ (n1 ≤ 8 ∧ n2 ≤ 12 ∧ n3 ≤ 40 ∧ n4 ≤ 1100) → fewD d = false := by
    intro h
    unfold fewD
    rw [decide_eq_false (by rw [← sl, e1, e2, e3, e4]; exact h)]; rfl
  have hb0 : ∀ o, Below w.heap.size w (w.alloc o) := fun o => (Below.refl _ w).alloc (Nat.le_refl _) o
  have hcn := fun o j (hj : j < vs.length) => s1.cell (hb0 o) j hj
  have hst : ∀ o j (h1 : j < vs.length) (h2 : j < d.names.length), StrsAt (w.alloc o) vs[j] d.names[j] := fun o j h1 _ => ((s2 j h1).below (hb0 o)).1
  have hct := fun o j hj => a3.1.cell (hb0 o) j hj
  have n0 := new_at w [.int .i64 d.ty, .slice an vs.length cn, .slice au n2 cu, .slice ax n3 ct, .slice ar n4 cr] 27
  rw [e2, e3, e4]
  rw [e1] at n0 ⊢
  have f1 := n0 1 _ rfl; have f2 := n0 2 _ rfl; have f3 := n0 3 _ rfl; have f4 := n0 4 _ rfl
  have E1 := Lib.hid e1; have E3 := Lib.hid e3; have SL := Lib.hid sl; have HB0 := Lib.hid hb0
  have E24 := Lib.hid (And.intro e2 e4)
  clear n0 s1 s2 a3 e1 e2 e3 e4 sl hb0
  by_cases c1 : 8 < (n1 : Int)
  · have H0 : Hid (fewD d = false) := Lib.hid (hbig (by omega))
    clear hbig hcn hst hct hN hT
    go_enter Tryz.func8, Tryz.ntmps8
    go_wp2
    go_ret
    exact ⟨by rw [H0.out]; rfl, HB0.out _⟩
  by_cases c2 : 12 < (n2 : Int)
  · have H0 : Hid (fewD d = false) := Lib.hid (hbig (by omega))
    clear hbig hcn hst hct hN hT
    go_enter Tryz.func8, Tryz.ntmps8
    go_wp2
    go_ret
    exact ⟨by rw [H0.out]; rfl, HB0.out _⟩
  by_cases c3 : 40 < (n3 : Int)
  · have H0 : Hid (fewD d = false) := Lib.hid (hbig (by omega))
    clear hbig hcn hst hct hN hT
    go_enter Tryz.func8, Tryz.ntmps8
    go_wp2
    go_ret
    exact ⟨by rw [H0.out]; rfl, HB0.out _⟩
  by_cases c4 : 1100 < (n4 : Int)
  · have H0 : Hid (fewD d = false) := Lib.hid (hbig (by omega))
    clear hbig hcn hst hct hN hT
    go_enter Tryz.func8, Tryz.ntmps8
    go_wp2
    go_ret
    exact ⟨by rw [H0.out]; rfl, HB0.out _⟩
  have hC := fun j h1 => hcn (.cells #[.int .i64 d.ty, .slice an n1 cn, .slice au n2 cu, .slice ax n3 ct, .slice ar n4 cr] 27) j h1
  have hS := hst (.cells #[.int .i64 d.ty, .slice an n1 cn, .slice au n2 cu, .slice ax n3 ct, .slice ar n4 cr] 27)
  have hT2 := hct (.cells #[.int .i64 d.ty, .slice an n1 cn, .slice au n2 cu, .slice ax n3 ct, .slice ar n4 cr] 27)
  have hB1 := Lib.hid (HB0.out (.cells #[.int .i64 d.ty, .slice an n1 cn, .slice au n2 cu, .slice ax n3 ct, .slice ar n4 cr] 27))
  clear hcn hst hct hbig HB0
  go_enter Tryz.func8, Tryz.ntmps8
  go_wp2
  generalize w.alloc (.cells #[.int .i64 d.ty, .slice an n1 cn, .slice au n2 cu, .slice ax n3 ct, .slice ar n4 cr] 27) = W0 at *
  have HFF : Hid (∀ (k : Nat) (h : k < d.names.length), fewN d.names[k] = false → fewD d = false) := Lib.hid (fun k h e => by
    unfold fewD
    rw [decide_eq_false (p := ∀ n ∈ d.names, fewN n = true) (fun hh => by have := hh _ (List.getElem_mem h); rw [e] at this; cases this)]
    simp)
  have HFT : Hid (∀ (k : Nat) (h : k < d.texts.length), 300 < d.texts[k].length → fewD d = false) := Lib.hid (fun k h e => by
    unfold fewD
    rw [decide_eq_false (p := ∀ x ∈ d.texts, x.length ≤ 300) (fun hh => by have := hh _ (List.getElem_mem h); omega)]
    simp)
  have HFO : Hid ((∀ n ∈ d.names, fewN n = true) → (∀ x ∈ d.texts, x.length ≤ 300) → fewD d = true) := Lib.hid (fun h1 h2 => by
    unfold fewD
    rw [decide_eq_true h1, decide_eq_true h2, decide_eq_true]
    · rfl
    · have := E24.out; have := E3.out; have := SL.out; have := E1.out; omega)
  go_loopw [3] (fun i wr => ∃ k : Nat, i = .int .i64 k ∧ k ≤ n1 ∧ Hid (∀ n ∈ d.names.take k, fewN n = true) ∧ W0 = wr) (fun i _ => n1 - (intOf i).toNat)
  case atStart => exact ⟨0, rfl, Nat.zero_le _, Lib.hid (by simp), by first | rfl | trivial⟩
  case round =>
    obtain ⟨k, rfl, hk, HC, rfl⟩ := hrel
    by_cases hlt : k < n1
    · have hkv : k < vs.length := by rw [E1.out]; exact hlt
      have hkd : k < d.names.length := by rw [← SL.out]; exact hkv
      obtain ⟨g, off, rfl, hg, hc⟩ := hC k hkv
      have hNk := hN _ (List.getElem_mem hkd)
      have hF := law2_Few _ _ W0 (hS k hkv hkd) hNk.1 hNk.2
      have HT := Lib.hid (show fewN d.names[k] = true → ∀ n ∈ d.names.take (k + 1), fewN n = true from fun e n hn => by
        rw [List.take_succ_eq_append_getElem hkd] at hn
        rcases List.mem_append.1 hn with hn | hn
        · exact HC.out n hn
        · rw [List.mem_singleton.1 hn]; exact e)
      have HF0 := Lib.hid (HFF.out k hkd)
      clear hC hS hNk hT2 hN hT
      generalize vs[k] = sv at *
      generalize fewN d.names[k] = q at *
      cases q with
      | false =>
        have H0 : Hid (fewD d = false) := Lib.hid (HF0.out rfl)
        go_wp2_with (go_at_call 22; refine hF.mono ?_; rintro e w2 ⟨rfl, rfl⟩)
        go_ret
        exact ⟨by rw [H0.out]; rfl, hB1.out⟩
      | true =>
        go_wp2_with (go_at_call 22; refine hF.mono ?_; rintro e w2 ⟨rfl, rfl⟩)
        go_roundw
        case rel => exact ⟨k + 1, by go_num, by omega, Lib.hid (by first | exact HT.out rfl | exact HT.out trivial), by first | rfl | trivial⟩
        case measure => simp [intOf]; omega
    · obtain rfl : k = n1 := by omega
      have HN1 : Hid (∀ n ∈ d.names, fewN n = true) := Lib.hid (by
        have e := HC.out
        rw [List.take_of_length_le (by have := SL.out; have := E1.out; omega)] at e
        exact e)
      clear hC hS hN HC
      go_wp2
      go_loopw [4] (fun i wr => ∃ j : Nat, i = .int .i64 j ∧ j ≤ n3 ∧ Hid (∀ x ∈ d.texts.take j, x.length ≤ 300) ∧ W0 = wr) (fun i _ => n3 - (intOf i).toNat)
      case atStart => exact ⟨0, rfl, Nat.zero_le _, Lib.hid (by simp), by first | rfl | trivial⟩
      case round =>
        obtain ⟨j, rfl, hj, HC, rfl⟩ := hrel
        by_cases hlt2 : j < n3
        · have hjt : j < d.texts.length := by rw [E3.out]; exact hlt2
          obtain ⟨g, off, rfl, hg, hc⟩ := hT2 j hjt
          obtain ⟨s, hs0, hsz, hsv⟩ := str_of d.texts[j]
          rw [hsv] at hc
          have hxk := hT _ (List.getElem_mem hjt)
          unfold maxLen at hxk
          rw [← hsz] at hxk
          by_cases hb : 300 < (s.size : Int)
          · have H0 : Hid (fewD d = false) := Lib.hid (HFT.out j hjt (by omega))
            clear hs0 hsz hsv hT2 hT
            go_wp2
            go_ret
            exact ⟨by rw [H0.out]; rfl, hB1.out⟩
          · have HT : Hid (∀ x ∈ d.texts.take (j + 1), x.length ≤ 300) := Lib.hid (fun n hn => by
              rw [List.take_succ_eq_append_getElem hjt] at hn
              rcases List.mem_append.1 hn with hn | hn
              · exact HC.out n hn
              · rw [List.mem_singleton.1 hn]; omega)
            clear hs0 hsz hsv hT2 hT
            go_wp2
            go_roundw
            case rel => exact ⟨j + 1, by go_num, by omega, HT, by first | rfl | trivial⟩
            case measure => simp [intOf]; omega
        · obtain rfl : j = n3 := by omega
          have H0 : Hid (fewD d = true) := Lib.hid (HFO.out HN1.out (by
            have e := HC.out
            rw [List.take_of_length_le (by have := E3.out; omega)] at e
            exact e))
          clear hT2 hT
          go_wp2
          go_ret
          exact ⟨by rw [H0.out]; rfl, hB1.out⟩
end Go.Proofs.YtkjmghnbcnbdbaaGreatDoor

/-
  rdata: nameWords, numWords, textWords. (Written by wip/tools/gen6.py.)
-/
namespace Go.Proofs.YtkjmghnbcnbdbaaGreatDoor
open Go.RowKit Go.Shelf

theorem str_name {l : List UInt8} {x : ByteArray} (h : x.data.toList = l) : (⟨l.toArray⟩ : ByteArray) = x := ba_ext (by rw [h])
theorem take_map_snoc {α β : Type} (f : α → β) (l : List α) (k : Nat) (h : k < l.length) : (l.take k).map f ++ [f l[k]] = (l.take (k + 1)).map f := by
  rw [List.take_succ_eq_append_getElem h, List.map_append]; rfl

set_option maxHeartbeats 4000000 in
theorem rdata_nameWords (v : Value) (d : Dat) (w : World) (hA : DatAt w v d) (hk : DatOK d) :
    Calls Tryz.prog 30 #[v] w (StrsRes (d.names.map textN) w) := by
  obtain ⟨vn, vu, vt, vr, rfl, a1, a2, a3, a4⟩ := hA
  obtain ⟨vs, s1, sl, s2⟩ := a1
  obtain ⟨an, cn, rfl, _⟩ := id s1
  have hcell := fun W (hb : Below w.heap.size w W) j (hj : j < vs.length) => s1.cell hb j hj
  have hnm : ∀ W, Below w.heap.size w W → ∀ j (h1 : j < vs.length) (h2 : j < d.names.length), NmAt W vs[j] d.names[j] := fun W hb j h1 _ => (s2 j h1).below hb
  obtain ⟨n, hn⟩ : ∃ n, vs.length = n := ⟨_, rfl⟩
  have HL := Lib.hid (show d.names.length = n by rw [← sl, hn])
  have HV := Lib.hid hn
  have hnb : n ≤ 1048576 := by have := hk.2.1; omega
  have hok := hk.2.2.1
  rw [hn]
  clear hn s1 s2 sl hk
  have hb0 : Below w.heap.size w (w.alloc (.cells #[.int .i64 d.ty, .slice an n cn, vu, vt, vr] 27)) := (Below.refl _ w).alloc (Nat.le_refl _) _
  have f1 := new_at w [.int .i64 d.ty, .slice an n cn, vu, vt, vr] 27 1 _ rfl
  clear a2 a3 a4
  go_enter Tryz.func30, Tryz.ntmps30
  go_wp2_with fail
  clear f1
  go_loopw [3, 9] (fun u i wr => ∃ (k : Nat) (done : Nm), i = .int .i64 k ∧ k ≤ n ∧ OwnG 9 strV wr w.heap.size u done ∧ Below w.heap.size w wr ∧ Hid (done = (d.names.take k).map textN)) (fun _ i _ => n - (intOf i).toNat)
  case atStart => exact ⟨0, [], rfl, Nat.zero_le _, OwnG.nil _ _, hb0, Lib.hid rfl⟩
  case round =>
    obtain ⟨k, done, rfl, hk0, hown, hB, HR⟩ := hrel
    obtain ⟨au, cu, rfl⟩ := hown.shape
    have hdk : done.length = k := by rw [HR.out]; simp [HL.out]; omega
    have HD := Lib.hid hdk; clear hdk
    generalize hdl : done.length = dl at *
    have HDL := Lib.hid hdl; clear hdl
    have hBz := hB.size
    by_cases hlt : k < n
    · have hkd : k < d.names.length := by rw [HL.out]; exact hlt
      have hkv : k < vs.length := by rw [HV.out]; exact hlt
      obtain ⟨g, off, rfl, hg, hc⟩ := hcell wr hB k hkv
      have hT := name_Text vs[k] d.names[k] wr (hnm wr hB k hkv hkd).1 (hok _ (List.getElem_mem hkd))
      have hsn := take_map_snoc textN d.names k hkd
      generalize hy : textN d.names[k] = y at *
      obtain ⟨sx, hy0, _, _⟩ := str_of y
      rw [str_name hy0] at hT
      clear hcell hnm hy hok
      generalize vs[k] = sv at *
      have HC := Lib.hid (show [Value.string sx] = [y].map strV by rw [← hy0]; simp [strV])
      have HR2 := Lib.hid (show done ++ [y] = (d.names.take (k + 1)).map textN by rw [HR.out]; exact hsn)
      clear hsn hy0 HR
      go_wp2_with (first | (go_at_call 67; refine hT.mono ?_; rintro e w2 ⟨rfl, hb2⟩) | (at_builtin; refine wpl_append_g w2 rfl (.tmp 13) (.tmp 16) elemStr rfl strV_one w.heap.size (.slice au dl cu) done rfl (hown.below hb2) [.string sx] [y] HC.out 1 1 rfl rfl (Nat.le_trans hBz hb2.size) (by have := HD.out; have := HDL.out; unfold maxLen; simp; omega) (by have := HD.out; have := HDL.out; simp; omega) ?_; intro v3 w3 hown3 hg3; have hB3 : Below w.heap.size w w3 := (hB.trans (hb2.mono hBz)).grown hg3 (Nat.le_trans hBz hb2.size) hown.base_le))
      go_roundw
      case rel => exact ⟨k + 1, done ++ [y], by go_num, by omega, hown3, hB3, HR2⟩
      case measure => simp [intOf]; omega
    · obtain rfl : k = n := by omega
      have H0 : Hid (done = (d.names.map textN)) := Lib.hid (by rw [HR.out, List.take_of_length_le (by rw [HL.out]; exact Nat.le_refl _)])
      clear HR
      go_wp2_with fail
      go_ret
      refine ⟨_, rfl, ?_, hB⟩
      rw [← H0.out]; exact hown

set_option maxHeartbeats 4000000 in
theorem rdata_textWords (v : Value) (d : Dat) (w : World) (hA : DatAt w v d) (hk : DatOK d) :
    Calls Tryz.prog 32 #[v] w (StrsRes (d.texts.map quotedM) w) := by
  obtain ⟨vn, vu, vt, vr, rfl, a1, a2, a3, a4⟩ := hA
  obtain ⟨an, cn, rfl, _⟩ := id a3.1
  have hcell := fun W (hb : Below w.heap.size w W) j (hj : j < d.texts.length) => a3.1.cell hb j hj
  obtain ⟨n, hn⟩ : ∃ n, d.texts.length = n := ⟨_, rfl⟩
  have HL := Lib.hid hn
  have hok := hk.2.2.2.2.2.1
  have hnb : n ≤ 1048576 := by have := hok.1; omega
  rw [hn]
  clear hn hk
  have hb0 : Below w.heap.size w (w.alloc (.cells #[.int .i64 d.ty, vn, vu, .slice an n cn, vr] 27)) := (Below.refl _ w).alloc (Nat.le_refl _) _
  have f1 := new_at w [.int .i64 d.ty, vn, vu, .slice an n cn, vr] 27 3 _ rfl
  clear a1 a2 a3 a4
  go_enter Tryz.func32, Tryz.ntmps32
  go_wp2_with fail
  clear f1
  go_loopw [3, 9] (fun u i wr => ∃ (k : Nat) (done : Nm), i = .int .i64 k ∧ k ≤ n ∧ OwnG 9 strV wr w.heap.size u done ∧ Below w.heap.size w wr ∧ Hid (done = (d.texts.take k).map quotedM)) (fun _ i _ => n - (intOf i).toNat)
  case atStart => exact ⟨0, [], rfl, Nat.zero_le _, OwnG.nil _ _, hb0, Lib.hid rfl⟩
  case round =>
    obtain ⟨k, done, rfl, hk0, hown, hB, HR⟩ := hrel
    obtain ⟨au, cu, rfl⟩ := hown.shape
    have hdk : done.length = k := by rw [HR.out]; simp [HL.out]; omega
    have HD := Lib.hid hdk; clear hdk
    generalize hdl : done.length = dl at *
    have HDL := Lib.hid hdl; clear hdl
    have hBz := hB.size
    by_cases hlt : k < n
    · have hkd : k < d.texts.length := by rw [HL.out]; exact hlt
      obtain ⟨g, off, rfl, hg, hc⟩ := hcell wr hB k hkd
      obtain ⟨x, hx0, hxz, hxv⟩ := str_of d.texts[k]
      rw [hxv] at hc
      have hxk := hok.2 _ (List.getElem_mem hkd)
      have hT := rdata_quoted x wr (by omega)
      rw [hx0] at hT
      have hsn := take_map_snoc quotedM d.texts k hkd
      generalize hy : quotedM d.texts[k] = y at *
      obtain ⟨sx, hy0, _, _⟩ := str_of y
      rw [str_name hy0] at hT
      clear hcell hy hok hx0 hxz hxv hxk
      have HC := Lib.hid (show [Value.string sx] = [y].map strV by rw [← hy0]; simp [strV])
      have HR2 := Lib.hid (show done ++ [y] = (d.texts.take (k + 1)).map quotedM by rw [HR.out]; exact hsn)
      clear hsn hy0 HR
      go_wp2_with (first | (go_at_call 68; refine hT.mono ?_; rintro e w2 ⟨rfl, hb2⟩) | (at_builtin; refine wpl_append_g w2 rfl (.tmp 13) (.tmp 16) elemStr rfl strV_one w.heap.size (.slice au dl cu) done rfl (hown.below hb2) [.string sx] [y] HC.out 1 1 rfl rfl (Nat.le_trans hBz hb2.size) (by have := HD.out; have := HDL.out; unfold maxLen; simp; omega) (by have := HD.out; have := HDL.out; simp; omega) ?_; intro v3 w3 hown3 hg3; have hB3 : Below w.heap.size w w3 := (hB.trans (hb2.mono hBz)).grown hg3 (Nat.le_trans hBz hb2.size) hown.base_le))
      go_roundw
      case rel => exact ⟨k + 1, done ++ [y], by go_num, by omega, hown3, hB3, HR2⟩
      case measure => simp [intOf]; omega
    · obtain rfl : k = n := by omega
      have H0 : Hid (done = (d.texts.map quotedM)) := Lib.hid (by rw [HR.out, List.take_of_length_le (by rw [HL.out]; exact Nat.le_refl _)])
      clear HR
      go_wp2_with fail
      go_ret
      refine ⟨_, rfl, ?_, hB⟩
      rw [← H0.out]; exact hown

set_option maxHeartbeats 4000000 in
theorem rdata_numWords (v : Value) (d : Dat) (w : World) (hA : DatAt w v d) (hk : DatOK d) (hT0 : Tab w) :
    Calls Tryz.prog 31 #[v] w (StrsRes (d.nums.map Lib.decDigits) w) := by
  obtain ⟨vn, vu, vt, vr, rfl, a1, a2, a3, a4⟩ := hA
  obtain ⟨an, cn, rfl, _⟩ := id a2
  have hcell := fun W (hb : Below w.heap.size w W) j (hj : j < (d.nums.map u32V).length) => a2.cell hb j hj
  obtain ⟨n, hn⟩ : ∃ n, d.nums.length = n := ⟨_, rfl⟩
  have HL := Lib.hid hn
  have hnb : n ≤ 1048576 := by have := hk.2.2.2.1; omega
  have hok := hk.2.2.2.2.1
  rw [List.length_map, hn]
  clear hn hk
  have hb0 : Below w.heap.size w (w.alloc (.cells #[.int .i64 d.ty, vn, .slice an n cn, vt, vr] 27)) := (Below.refl _ w).alloc (Nat.le_refl _) _
  have f1 := new_at w [.int .i64 d.ty, vn, .slice an n cn, vt, vr] 27 2 _ rfl
  clear a1 a2 a3 a4
  go_enter Tryz.func31, Tryz.ntmps31
  go_wp2_with fail
  clear f1
  go_loopw [3, 9] (fun u i wr => ∃ (k : Nat) (done : Nm), i = .int .i64 k ∧ k ≤ n ∧ OwnG 9 strV wr w.heap.size u done ∧ Below w.heap.size w wr ∧ Hid (done = (d.nums.take k).map Lib.decDigits)) (fun _ i _ => n - (intOf i).toNat)
  case atStart => exact ⟨0, [], rfl, Nat.zero_le _, OwnG.nil _ _, hb0, Lib.hid rfl⟩
  case round =>
    obtain ⟨k, done, rfl, hk0, hown, hB, HR⟩ := hrel
    obtain ⟨au, cu, rfl⟩ := hown.shape
    have hdk : done.length = k := by rw [HR.out]; simp [HL.out]; omega
    have HD := Lib.hid hdk; clear hdk
    generalize hdl : done.length = dl at *
    have HDL := Lib.hid hdl; clear hdl
    have hBz := hB.size
    by_cases hlt : k < n
    · have hkd : k < d.nums.length := by rw [HL.out]; exact hlt
      obtain ⟨g, off, rfl, hg, hc⟩ := hcell wr hB k (by rw [List.length_map]; exact hkd)
      rw [List.getElem_map] at hc
      have hxk := hok _ (List.getElem_mem hkd)
      have hT := strconv_FormatUint10 d.nums[k] (by omega) wr (hT0.below hB)
      have hsn := take_map_snoc Lib.decDigits d.nums k hkd
      have hx0 : (0 : Int) ≤ (d.nums[k] : Int) := by omega
      have hx1 : (d.nums[k] : Int) ≤ 4294967295 := by omega
      generalize hy : Lib.decDigits d.nums[k] = y at *
      obtain ⟨sx, hy0, _, _⟩ := str_of y
      rw [str_name hy0] at hT
      unfold u32V at hc
      clear hcell hy hok hxk
      generalize d.nums[k] = x at *
      have HC := Lib.hid (show [Value.string sx] = [y].map strV by rw [← hy0]; simp [strV])
      have HR2 := Lib.hid (show done ++ [y] = (d.nums.take (k + 1)).map Lib.decDigits by rw [HR.out]; exact hsn)
      clear hsn hy0 HR
      go_wp2_with (first | (go_at_call 63; refine hT.mono ?_; rintro e w2 ⟨rfl, hb2⟩) | (at_builtin; refine wpl_append_g w2 rfl (.tmp 13) (.tmp 17) elemStr rfl strV_one w.heap.size (.slice au dl cu) done rfl (hown.below hb2) [.string sx] [y] HC.out 1 1 rfl rfl (Nat.le_trans hBz hb2.size) (by have := HD.out; have := HDL.out; unfold maxLen; simp; omega) (by have := HD.out; have := HDL.out; simp; omega) ?_; intro v3 w3 hown3 hg3; have hB3 : Below w.heap.size w w3 := (hB.trans (hb2.mono hBz)).grown hg3 (Nat.le_trans hBz hb2.size) hown.base_le))
      go_roundw
      case rel => exact ⟨k + 1, done ++ [y], by go_num, by omega, hown3, hB3, HR2⟩
      case measure => simp [intOf]; omega
    · obtain rfl : k = n := by omega
      have H0 : Hid (done = (d.nums.map Lib.decDigits)) := Lib.hid (by rw [HR.out, List.take_of_length_le (by rw [HL.out]; exact Nat.le_refl _)])
      clear HR
      go_wp2_with fail
      go_ret
      refine ⟨_, rfl, ?_, hB⟩
      rw [← H0.out]; exact hown
end Go.Proofs.YtkjmghnbcnbdbaaGreatDoor

