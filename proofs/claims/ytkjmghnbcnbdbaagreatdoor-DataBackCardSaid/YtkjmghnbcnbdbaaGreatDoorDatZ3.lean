/-
  rdata.Parse: what it answers lies in memory of its own. (Written by wip/tools/gen18.py from XDatZ2's text.)
-/
import Derived.Test.YtkjmghnbcnbdbaaGreatDoorMQ19
namespace Go.Proofs.YtkjmghnbcnbdbaaGreatDoor
open Go.RowKit Go.Shelf
set_option maxRecDepth 20000
def ParseRPost (q : Dat × Int) (w : World) (e : Ending) (w' : World) : Prop := ∃ vn vu vt vr, e = .returned (.tuple #[.agg #[.int .i64 q.1.ty, vn, vu, vt, vr], .int .i64 q.2]) ∧ DRow w' w.heap.size vn vu vt vr q.1 ∧ Below w.heap.size w w'
theorem parseR_fin {q : Dat × Int} {w w' : World} {e : Ending} {vn vu vt vr : Value} (d : Dat) (er : Int) (h : q = (d, er)) (he : e = .returned (.tuple #[.agg #[.int .i64 d.ty, vn, vu, vt, vr], .int .i64 er])) (hd : DRow w' w.heap.size vn vu vt vr d) (hb : Below w.heap.size w w') : ParseRPost q w e w' := by
  subst h; exact ⟨vn, vu, vt, vr, he, hd, hb⟩
theorem row_none (W : World) (base : Nat) : DRow W base (.slice none 0 0) (.slice none 0 0) (.slice none 0 0) (.slice none 0 0) Dat.none := ⟨OwnNms.nil _ _, OwnG.nil _ _, OwnG.nil _ _, OwnG.nil _ _⟩
set_option maxRecDepth 100000 in
set_option maxHeartbeats 8000000 in
theorem rdata_ParseR (t : Int) (vl : Value) (l : List Wd) (vo : Value) (o : Nm) (w : World) (hA : WdsAt w vl l) (hk : WdsOK l) (hl : l.length ≤ 500000) (hO : NmAt w vo o) (hok : NmOK o) (ho : o.length ≤ 500000) (hM : MaxC w) :
    Calls Tryz.prog 18 #[.int .i64 t, vl, vo] w (ParseRPost (parseD t l o) w) := by
  by_cases ht : t < 1 ∨ 65535 < t
  · have H0 := Lib.hid (parseD_type (l := l) (o := o) ht)
    have ht2 : t < 1 ∨ (¬ t < 1 ∧ 65535 < t) := by omega
    clear ht hA hO hk hok ho hl
    rcases ht2 with h1 | ⟨h1, h2⟩
    all_goals
      go_enter Tryz.func18, Tryz.ntmps18
      go_wp2
      exact bodyPost_ret (v := .tuple #[.agg #[.int .i64 0, .slice none 0 0, .slice none 0 0, .slice none 0 0, .slice none 0 0], .int .i64 6]) (by simp [results, Tryz.results18, go_sem]) rfl (parseR_fin Dat.none 6 H0.out rfl (row_none _ _) ((Below.refl _ w).alloc (Nat.le_refl _) _))
  have h1 : ¬ t < 1 := by omega
  have h2 : ¬ 65535 < t := by omega
  obtain ⟨a, c, rfl, hcap, hnil, hx⟩ := id hA
  obtain ⟨n, hn⟩ : ∃ n, l.length = n := ⟨_, rfl⟩
  by_cases hoth : l.head? = some ([92, 35], false)
  · obtain ⟨x, r, rfl⟩ : ∃ x r, l = x :: r := by cases l with | nil => simp at hoth | cons x r => exact ⟨x, r, rfl⟩
    obtain rfl : x = ([92, 35], false) := by simpa using hoth
    have HPD := Lib.hid (parseD_other (o := o) ht hoth)
    rcases hx with hx | ⟨g, off, rfl, hg, hc⟩
    · cases hx
    have hc1 := (hc 0 (by simp)).1
    have hc2 := (hc 0 (by simp)).2
    simp only [Nat.zero_mul, Nat.add_zero, List.getElem_cons_zero] at hc1 hc2
    obtain ⟨x, hx0, _, hxv⟩ := str_of [92, 35]
    rw [hxv] at hc1
    have hs : (x.toList == [92, 35]) = true := by rw [toList_data, hx0]; rfl
    obtain ⟨n, rfl⟩ : ∃ m, n = m + 1 := ⟨r.length, by rw [← hn]; rfl⟩
    have hrn : r.length = n := by simpa using hn
    have hkr : WdsOK r := by have := hk.drop 1; simpa using this
    have hdr : WdsAt w (.slice (if c = 1 then some ⟨g, off, none⟩ else some ⟨g, off + 2, none⟩) n (c - 1)) r := by
      rw [hn] at hA
      have := WdsAt.drop hA hn (by omega)
      simpa using this
    have hO2 : ∀ W v, WdsAt W v r → Calls Tryz.prog 53 #[.int .i64 t, v] W (BytesE (octetsD t r).1 (octetsD t r).2 W) := fun W v h => rdata_readOctets t v r W h hkr
    have hpd := HPD.out
    rw [List.drop_one, List.tail_cons] at hpd
    obtain ⟨⟨lo, er⟩, hq⟩ : ∃ q, octetsD t r = q := ⟨_, rfl⟩
    rw [hq] at hO2 hpd
    simp only at hO2 hpd
    have HPD2 := Lib.hid hpd
    have hW : ∀ W0, ((w.alloc (.cells #[.int .i64 0, .slice none 0 0, .slice none 0 0, .slice none 0 0, .slice none 0 0] 27)).alloc (.cells #[.int .i64 t, .slice none 0 0, .slice none 0 0, .slice none 0 0, .slice none 0 0] 27)) = W0 →
        Below w.heap.size w W0 ∧ W0.heap[w.heap.size]? = some (.cells #[.int .i64 0, .slice none 0 0, .slice none 0 0, .slice none 0 0, .slice none 0 0] 27) ∧ W0.heap[w.heap.size + 1]? = some (.cells #[.int .i64 t, .slice none 0 0, .slice none 0 0, .slice none 0 0, .slice none 0 0] 27) := by
      rintro W0 rfl
      have hb0 : Below w.heap.size w ((w.alloc (.cells #[.int .i64 0, .slice none 0 0, .slice none 0 0, .slice none 0 0, .slice none 0 0] 27)).alloc (.cells #[.int .i64 t, .slice none 0 0, .slice none 0 0, .slice none 0 0, .slice none 0 0] 27)) := ((Below.refl _ w).alloc (Nat.le_refl _) _).alloc (by simp) _
      have e1 := block_new w (.cells #[.int .i64 0, .slice none 0 0, .slice none 0 0, .slice none 0 0, .slice none 0 0] 27)
      have e2 := block_new (w.alloc (.cells #[.int .i64 0, .slice none 0 0, .slice none 0 0, .slice none 0 0, .slice none 0 0] 27)) (.cells #[.int .i64 t, .slice none 0 0, .slice none 0 0, .slice none 0 0, .slice none 0 0] 27)
      rw [World.size_alloc] at e2
      have hb1 := (Below.refl _ (w.alloc (.cells #[.int .i64 0, .slice none 0 0, .slice none 0 0, .slice none 0 0, .slice none 0 0] 27))).alloc (Nat.le_refl _) (.cells #[.int .i64 t, .slice none 0 0, .slice none 0 0, .slice none 0 0, .slice none 0 0] 27)
      exact ⟨hb0, (hb1.block w.heap.size (by simp)).trans e1, e2⟩
    have HW := Lib.hid hW
    have hn0 : (0 : Int) ≤ (n : Int) := by omega
    have hcn : n + 1 ≤ c := by rw [← hn]; exact hcap
    rw [hn]
    have hgo : ∀ (ad : Option Addr), WdsAt w (.slice ad n (c - 1)) r → ∀ W0, Below w.heap.size w W0 → Calls Tryz.prog 53 #[.int .i64 t, .slice ad n (c - 1)] W0 (BytesE lo er W0) := fun ad h W0 hb => hO2 W0 _ (h.below hb)
    have HGO := Lib.hid hgo; have HDR := Lib.hid hdr
    clear hc hnil hoth ht hA hk hO hok ho hM hl hn hW hq hkr hdr hO2 hpd HPD hrn hcap hgo hx0 hxv
    by_cases hcc : c = 1
    · subst hcc
      obtain rfl : n = 0 := by omega
      have hcall := HGO.out _ (by have := HDR.out; rw [if_pos rfl] at this; exact this)
      rw [Nat.sub_self] at hcall
      have HC := Lib.hid hcall
      clear hcall
      go_enter Tryz.func18, Tryz.ntmps18
      go_wp2_with fail
      generalize hW0 : ((w.alloc (.cells #[.int .i64 0, .slice none 0 0, .slice none 0 0, .slice none 0 0, .slice none 0 0] 27)).alloc (.cells #[.int .i64 t, .slice none 0 0, .slice none 0 0, .slice none 0 0, .slice none 0 0] 27)) = W0
      obtain ⟨k1, k2, k3⟩ := HW.out W0 hW0
      clear hW0
      refine (HC.out W0 k1).mono ?_
      rintro e w2 ⟨v', rfl, hown, hb2⟩
      have hR := (hb2.block w.heap.size (block_lt k2)).trans k2
      have hBx := (hb2.block (w.heap.size + 1) (block_lt k3)).trans k3
      obtain ⟨r0, r1, r2, r3, r4⟩ := cells5 hR
      obtain ⟨f0, f1, f2, f3, f4⟩ := frozen5 hR
      obtain ⟨b0, b1, b2, b3, b4⟩ := cells5 hBx
      obtain ⟨g0, g1, g2, g3, g4⟩ := frozen5 hBx
      have hB2 := k1.trans (hb2.mono k1.size)
      obtain ⟨a4, c4, rfl⟩ := hown.shape
      generalize lo.length = m4 at *
      have hRs := ((grownBy_set w2 (w.heap.size + 1) 4 (.slice a4 m4 c4)).block w.heap.size (block_lt hR) (by simp)).trans hR
      have hB3 : Below w.heap.size w (w2.setCell ⟨w.heap.size + 1, 4, none⟩ (.slice a4 m4 c4)) := hB2.setCell (p := ⟨w.heap.size + 1, 4, none⟩) (by simp) _
      have hown3 := (hown.weaken k1.size).keptB hBx (by decide) 4 (.slice a4 m4 c4)
      have HKR := Lib.hid hRs
      have HOW := Lib.hid (show DRow (w2.setCell ⟨w.heap.size + 1, 4, none⟩ (.slice a4 m4 c4)) w.heap.size (.slice none 0 0) (.slice none 0 0) (.slice none 0 0) (.slice a4 m4 c4) ⟨t, [], [], [], lo⟩ from ⟨OwnNms.nil _ _, OwnG.nil _ _, OwnG.nil _ _, hown3⟩)
      have HB3 := Lib.hid hB3
      clear hR k2 k3 hBx hRs hB3 hown hown3 hB2
      by_cases he0 : (er != 0) = true
      · have H0 := Lib.hid (show parseD t (([92, 35], false) :: r) o = (Dat.none, er) by rw [HPD2.out, if_neg (by simpa using he0)])
        obtain ⟨q0, q1, q2, q3, q4⟩ := cells5 (set5_block HKR.out (.int .i64 0) (.slice none 0 0) (.slice none 0 0) (.slice none 0 0) (.slice none 0 0))
        unfold set5 at q0 q1 q2 q3 q4
        go_wp2_with fail
        exact bodyPost_ret (v := .tuple #[.agg #[.int .i64 0, .slice none 0 0, .slice none 0 0, .slice none 0 0, .slice none 0 0], .int .i64 er]) (by simp [results, Tryz.results18, go_sem, q0, q1, q2, q3, q4]) rfl (parseR_fin Dat.none er H0.out rfl (row_none _ _) (set5_below HB3.out _ _ _ _ _))
      · have he1 : er = 0 := by simpa using he0
        subst he1
        have H0 := Lib.hid (show parseD t (([92, 35], false) :: r) o = (⟨t, [], [], [], lo⟩, 0) by rw [HPD2.out, if_pos rfl])
        obtain ⟨q0, q1, q2, q3, q4⟩ := cells5 (set5_block HKR.out (.int .i64 t) (.slice none 0 0) (.slice none 0 0) (.slice none 0 0) (.slice a4 m4 c4))
        unfold set5 at q0 q1 q2 q3 q4
        clear he0
        go_wp2_with fail
        exact bodyPost_ret (v := .tuple #[.agg #[.int .i64 t, .slice none 0 0, .slice none 0 0, .slice none 0 0, .slice a4 m4 c4], .int .i64 0]) (by simp [results, Tryz.results18, go_sem, q0, q1, q2, q3, q4]) rfl (parseR_fin ⟨t, [], [], [], lo⟩ 0 H0.out rfl (set5_row HKR.out _ _ _ _ _ HOW.out) (set5_below HB3.out _ _ _ _ _))
    · have hcall := HGO.out _ (by have := HDR.out; rw [if_neg hcc] at this; exact this)
      have HC := Lib.hid hcall
      clear hcall
      go_enter Tryz.func18, Tryz.ntmps18
      go_wp2_with fail
      generalize hW0 : ((w.alloc (.cells #[.int .i64 0, .slice none 0 0, .slice none 0 0, .slice none 0 0, .slice none 0 0] 27)).alloc (.cells #[.int .i64 t, .slice none 0 0, .slice none 0 0, .slice none 0 0, .slice none 0 0] 27)) = W0
      obtain ⟨k1, k2, k3⟩ := HW.out W0 hW0
      clear hW0
      refine (HC.out W0 k1).mono ?_
      rintro e w2 ⟨v', rfl, hown, hb2⟩
      have hR := (hb2.block w.heap.size (block_lt k2)).trans k2
      have hBx := (hb2.block (w.heap.size + 1) (block_lt k3)).trans k3
      obtain ⟨r0, r1, r2, r3, r4⟩ := cells5 hR
      obtain ⟨f0, f1, f2, f3, f4⟩ := frozen5 hR
      obtain ⟨b0, b1, b2, b3, b4⟩ := cells5 hBx
      obtain ⟨g0, g1, g2, g3, g4⟩ := frozen5 hBx
      have hB2 := k1.trans (hb2.mono k1.size)
      obtain ⟨a4, c4, rfl⟩ := hown.shape
      generalize lo.length = m4 at *
      have hRs := ((grownBy_set w2 (w.heap.size + 1) 4 (.slice a4 m4 c4)).block w.heap.size (block_lt hR) (by simp)).trans hR
      have hB3 : Below w.heap.size w (w2.setCell ⟨w.heap.size + 1, 4, none⟩ (.slice a4 m4 c4)) := hB2.setCell (p := ⟨w.heap.size + 1, 4, none⟩) (by simp) _
      have hown3 := (hown.weaken k1.size).keptB hBx (by decide) 4 (.slice a4 m4 c4)
      have HKR := Lib.hid hRs
      have HOW := Lib.hid (show DRow (w2.setCell ⟨w.heap.size + 1, 4, none⟩ (.slice a4 m4 c4)) w.heap.size (.slice none 0 0) (.slice none 0 0) (.slice none 0 0) (.slice a4 m4 c4) ⟨t, [], [], [], lo⟩ from ⟨OwnNms.nil _ _, OwnG.nil _ _, OwnG.nil _ _, hown3⟩)
      have HB3 := Lib.hid hB3
      clear hR k2 k3 hBx hRs hB3 hown hown3 hB2
      by_cases he0 : (er != 0) = true
      · have H0 := Lib.hid (show parseD t (([92, 35], false) :: r) o = (Dat.none, er) by rw [HPD2.out, if_neg (by simpa using he0)])
        obtain ⟨q0, q1, q2, q3, q4⟩ := cells5 (set5_block HKR.out (.int .i64 0) (.slice none 0 0) (.slice none 0 0) (.slice none 0 0) (.slice none 0 0))
        unfold set5 at q0 q1 q2 q3 q4
        go_wp2_with fail
        exact bodyPost_ret (v := .tuple #[.agg #[.int .i64 0, .slice none 0 0, .slice none 0 0, .slice none 0 0, .slice none 0 0], .int .i64 er]) (by simp [results, Tryz.results18, go_sem, q0, q1, q2, q3, q4]) rfl (parseR_fin Dat.none er H0.out rfl (row_none _ _) (set5_below HB3.out _ _ _ _ _))
      · have he1 : er = 0 := by simpa using he0
        subst he1
        have H0 := Lib.hid (show parseD t (([92, 35], false) :: r) o = (⟨t, [], [], [], lo⟩, 0) by rw [HPD2.out, if_pos rfl])
        obtain ⟨q0, q1, q2, q3, q4⟩ := cells5 (set5_block HKR.out (.int .i64 t) (.slice none 0 0) (.slice none 0 0) (.slice none 0 0) (.slice a4 m4 c4))
        unfold set5 at q0 q1 q2 q3 q4
        clear he0
        go_wp2_with fail
        exact bodyPost_ret (v := .tuple #[.agg #[.int .i64 t, .slice none 0 0, .slice none 0 0, .slice none 0 0, .slice a4 m4 c4], .int .i64 0]) (by simp [results, Tryz.results18, go_sem, q0, q1, q2, q3, q4]) rfl (parseR_fin ⟨t, [], [], [], lo⟩ 0 H0.out rfl (set5_row HKR.out _ _ _ _ _ HOW.out) (set5_below HB3.out _ _ _ _ _))
  · have HPD := Lib.hid (parseD_words (o := o) ht hoth)
    -- the world in which readWords is called
    have hW : ∀ W0, ((w.alloc (.cells #[.int .i64 0, .slice none 0 0, .slice none 0 0, .slice none 0 0, .slice none 0 0] 27)).alloc (.cells #[.int .i64 t, .slice none 0 0, .slice none 0 0, .slice none 0 0, .slice none 0 0] 27)) = W0 →
        Below w.heap.size w W0 ∧ W0.heap[w.heap.size]? = some (.cells #[.int .i64 0, .slice none 0 0, .slice none 0 0, .slice none 0 0, .slice none 0 0] 27) ∧
        Calls Tryz.prog 54 #[.pointer (some ⟨w.heap.size + 1, 0, none⟩), .slice a n c, vo] W0 (WordsPost (w.heap.size + 1) w.heap.size (wordsE (Dat.of t) o (formD t l.length) l) W0) := by
      rintro W0 rfl
      have hb0 : Below w.heap.size w ((w.alloc (.cells #[.int .i64 0, .slice none 0 0, .slice none 0 0, .slice none 0 0, .slice none 0 0] 27)).alloc (.cells #[.int .i64 t, .slice none 0 0, .slice none 0 0, .slice none 0 0, .slice none 0 0] 27)) := ((Below.refl _ w).alloc (Nat.le_refl _) _).alloc (by simp) _
      have e1 := block_new w (.cells #[.int .i64 0, .slice none 0 0, .slice none 0 0, .slice none 0 0, .slice none 0 0] 27)
      have e2 := block_new (w.alloc (.cells #[.int .i64 0, .slice none 0 0, .slice none 0 0, .slice none 0 0, .slice none 0 0] 27)) (.cells #[.int .i64 t, .slice none 0 0, .slice none 0 0, .slice none 0 0, .slice none 0 0] 27)
      rw [World.size_alloc] at e2
      refine ⟨hb0, ?_, ?_⟩
      · have hb1 := (Below.refl _ (w.alloc (.cells #[.int .i64 0, .slice none 0 0, .slice none 0 0, .slice none 0 0, .slice none 0 0] 27))).alloc (Nat.le_refl _) (.cells #[.int .i64 t, .slice none 0 0, .slice none 0 0, .slice none 0 0, .slice none 0 0] 27)
        exact (hb1.block w.heap.size (by simp)).trans e1
      · rw [← hn]
        exact rdata_readWords w _ (w.heap.size + 1) (Dat.of t) _ l vo o hb0 ⟨_, _, _, _, e2, OwnNms.nil _ _, OwnG.nil _ _, OwnG.nil _ _, OwnG.nil _ _⟩ (by omega) hA hk hO hok ho hM rfl rfl rfl hl
    obtain ⟨⟨d', er⟩, hq⟩ : ∃ q, wordsE (Dat.of t) o (formD t l.length) l = q := ⟨_, rfl⟩
    rw [hq] at hW
    have HW := Lib.hid hW
    have hcs : n = 0 ∨ (∃ (g off : Nat) (x : ByteArray) (q : Bool), a = some ⟨g, off, none⟩ ∧ 1 ≤ n ∧ g < w.heap.size ∧ w.cell? ⟨g, off, none⟩ = some (.string x) ∧ w.cell? ⟨g, off + 1, none⟩ = some (.bool q) ∧ ((x.toList == [92, 35]) = false ∨ ((x.toList == [92, 35]) = true ∧ q = true))) := by
      cases l with
      | nil => left; rw [← hn]; rfl
      | cons y r =>
        right
        rcases hx with hx | ⟨g, off, ea, hg, hc⟩
        · cases hx
        have hc1 := (hc 0 (by simp)).1
        have hc2 := (hc 0 (by simp)).2
        simp only [Nat.zero_mul, Nat.add_zero, List.getElem_cons_zero] at hc1 hc2
        obtain ⟨x, hx0, hxz, hxv⟩ := str_of y.1
        rw [hxv] at hc1
        refine ⟨g, off, x, y.2, ea, by rw [← hn]; simp, hg, hc1, hc2, ?_⟩
        by_cases h3 : y.1 = [92, 35]
        · right
          refine ⟨by rw [toList_data, hx0, h3]; rfl, ?_⟩
          cases hq : y.2 with
          | true => rfl
          | false => exact absurd (show (y :: r).head? = some ([92, 35], false) by rw [List.head?_cons, ← h3, ← hq]) hoth
        · left; rw [toList_data, hx0]; simpa using h3
    rw [hn]
    have hpd := HPD.out
    rw [hq] at hpd
    have HPD2 := Lib.hid hpd
    clear hpd HPD
    clear hx hnil hoth ht hA hk hO hok ho hM hl hn hW hq
    have hn0 : (0 : Int) ≤ (n : Int) := by omega
    rcases hcs with rfl | ⟨g, off, x, q, rfl, hn1, hg, hc1, hc2, hs⟩
    · go_enter Tryz.func18, Tryz.ntmps18
      go_wp2_with fail
      generalize hW0 : ((w.alloc (.cells #[.int .i64 0, .slice none 0 0, .slice none 0 0, .slice none 0 0, .slice none 0 0] 27)).alloc (.cells #[.int .i64 t, .slice none 0 0, .slice none 0 0, .slice none 0 0, .slice none 0 0] 27)) = W0
      obtain ⟨k1, k2, k3⟩ := HW.out W0 hW0
      clear hW0
      refine k3.mono ?_
      rintro e w2 ⟨rfl, hd2, hb2, hkw2⟩
      have hR := hkw2 w.heap.size _ (by omega) k2
      obtain ⟨r0, r1, r2, r3, r4⟩ := cells5 hR
      obtain ⟨f0, f1, f2, f3, f4⟩ := frozen5 hR
      have hB2 := k1.trans hb2
      have HKR := Lib.hid hR
      clear hR k2 hkw2
      simp only at hd2
      by_cases he0 : (er != 0) = true
      · have H0 := Lib.hid (show parseD t l o = (Dat.none, er) by rw [HPD2.out, if_neg (by simpa using he0)])
        clear hd2 HPD2
        obtain ⟨q0, q1, q2, q3, q4⟩ := cells5 (set5_block HKR.out (.int .i64 0) (.slice none 0 0) (.slice none 0 0) (.slice none 0 0) (.slice none 0 0))
        unfold set5 at q0 q1 q2 q3 q4
        go_wp2_with fail
        exact bodyPost_ret (v := .tuple #[.agg #[.int .i64 0, .slice none 0 0, .slice none 0 0, .slice none 0 0, .slice none 0 0], .int .i64 er]) (by simp [results, Tryz.results18, go_sem, q0, q1, q2, q3, q4]) rfl (parseR_fin Dat.none er H0.out rfl (row_none _ _) (set5_below hB2 _ _ _ _ _))
      · have he1 : er = 0 := by simpa using he0
        subst he1
        have H0 := Lib.hid (show parseD t l o = (d', 0) by rw [HPD2.out, if_pos rfl])
        obtain ⟨vn, vu, vt, vr, hbx, hrow⟩ := hd2 rfl
        obtain ⟨vs, hvs, hvl, hve⟩ := hrow.1
        obtain ⟨a1, c1, rfl⟩ := hvs.shape
        obtain ⟨a2, c2, rfl⟩ := hrow.2.1.shape
        obtain ⟨a3, c3, rfl⟩ := hrow.2.2.1.shape
        obtain ⟨a4, c4, rfl⟩ := hrow.2.2.2.shape
        clear hvs hve
        generalize vs.length = m1 at *
        generalize d'.nums.length = m2 at *
        generalize hm3 : d'.texts.length = m3 at *
        generalize d'.raw.length = m4 at *
        obtain ⟨b0, b1, b2, b3, b4⟩ := cells5 hbx
        obtain ⟨q0, q1, q2, q3, q4⟩ := cells5 (set5_block HKR.out (.int .i64 d'.ty) (.slice a1 m1 c1) (.slice a2 m2 c2) (.slice a3 m3 c3) (.slice a4 m4 c4))
        unfold set5 at q0 q1 q2 q3 q4
        have HROW := Lib.hid hrow
        clear hd2 he0 hbx hrow HPD2 hvl hm3
        go_wp2_with fail
        exact bodyPost_ret (v := .tuple #[.agg #[.int .i64 d'.ty, .slice a1 m1 c1, .slice a2 m2 c2, .slice a3 m3 c3, .slice a4 m4 c4], .int .i64 0]) (by simp [results, Tryz.results18, go_sem, q0, q1, q2, q3, q4]) rfl (parseR_fin d' 0 H0.out rfl (set5_row HKR.out _ _ _ _ _ HROW.out) (set5_below hB2 _ _ _ _ _))
    · rcases hs with hs | ⟨hs, rfl⟩
      all_goals
        go_enter Tryz.func18, Tryz.ntmps18
        go_wp2_with fail
        generalize hW0 : ((w.alloc (.cells #[.int .i64 0, .slice none 0 0, .slice none 0 0, .slice none 0 0, .slice none 0 0] 27)).alloc (.cells #[.int .i64 t, .slice none 0 0, .slice none 0 0, .slice none 0 0, .slice none 0 0] 27)) = W0
        obtain ⟨k1, k2, k3⟩ := HW.out W0 hW0
        clear hW0
        refine k3.mono ?_
        rintro e w2 ⟨rfl, hd2, hb2, hkw2⟩
        have hR := hkw2 w.heap.size _ (by omega) k2
        obtain ⟨r0, r1, r2, r3, r4⟩ := cells5 hR
        obtain ⟨f0, f1, f2, f3, f4⟩ := frozen5 hR
        have hB2 := k1.trans hb2
        have HKR := Lib.hid hR
        clear hR k2 hkw2
        simp only at hd2
        by_cases he0 : (er != 0) = true
        · have H0 := Lib.hid (show parseD t l o = (Dat.none, er) by rw [HPD2.out, if_neg (by simpa using he0)])
          clear hd2 HPD2
          obtain ⟨q0, q1, q2, q3, q4⟩ := cells5 (set5_block HKR.out (.int .i64 0) (.slice none 0 0) (.slice none 0 0) (.slice none 0 0) (.slice none 0 0))
          unfold set5 at q0 q1 q2 q3 q4
          go_wp2_with fail
          exact bodyPost_ret (v := .tuple #[.agg #[.int .i64 0, .slice none 0 0, .slice none 0 0, .slice none 0 0, .slice none 0 0], .int .i64 er]) (by simp [results, Tryz.results18, go_sem, q0, q1, q2, q3, q4]) rfl (parseR_fin Dat.none er H0.out rfl (row_none _ _) (set5_below hB2 _ _ _ _ _))
        · have he1 : er = 0 := by simpa using he0
          subst he1
          have H0 := Lib.hid (show parseD t l o = (d', 0) by rw [HPD2.out, if_pos rfl])
          obtain ⟨vn, vu, vt, vr, hbx, hrow⟩ := hd2 rfl
          obtain ⟨vs, hvs, hvl, hve⟩ := hrow.1
          obtain ⟨a1, c1, rfl⟩ := hvs.shape
          obtain ⟨a2, c2, rfl⟩ := hrow.2.1.shape
          obtain ⟨a3, c3, rfl⟩ := hrow.2.2.1.shape
          obtain ⟨a4, c4, rfl⟩ := hrow.2.2.2.shape
          clear hvs hve
          generalize vs.length = m1 at *
          generalize d'.nums.length = m2 at *
          generalize hm3 : d'.texts.length = m3 at *
          generalize d'.raw.length = m4 at *
          obtain ⟨b0, b1, b2, b3, b4⟩ := cells5 hbx
          obtain ⟨q0, q1, q2, q3, q4⟩ := cells5 (set5_block HKR.out (.int .i64 d'.ty) (.slice a1 m1 c1) (.slice a2 m2 c2) (.slice a3 m3 c3) (.slice a4 m4 c4))
          unfold set5 at q0 q1 q2 q3 q4
          have HROW := Lib.hid hrow
          clear hd2 he0 hbx hrow HPD2 hvl hm3
          go_wp2_with fail
          exact bodyPost_ret (v := .tuple #[.agg #[.int .i64 d'.ty, .slice a1 m1 c1, .slice a2 m2 c2, .slice a3 m3 c3, .slice a4 m4 c4], .int .i64 0]) (by simp [results, Tryz.results18, go_sem, q0, q1, q2, q3, q4]) rfl (parseR_fin d' 0 H0.out rfl (set5_row HKR.out _ _ _ _ _ HROW.out) (set5_below hB2 _ _ _ _ _))
end Go.Proofs.YtkjmghnbcnbdbaaGreatDoor
