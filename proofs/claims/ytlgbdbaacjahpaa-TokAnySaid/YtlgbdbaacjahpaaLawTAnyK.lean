/-
  TokAny: any text as entries, word by word.
-/
import Derived.Test.YtlgbdbaacjahpaaTokKn
import Derived.Test.YtlgbdbaacjahpaaTokLX
import Derived.BigQuiet
import Derived.Deep.QuietTactic
import Derived.IntWalk
namespace Go.Proofs.Ytlgbdbaacjahpaa
open Go.RowKit Go.Shelf
set_option maxRecDepth 20000
set_option linter.unusedVariables false
set_option linter.unusedSimpArgs false

theorem REs.at {W : World} {base : Nat} {v : Value} {l : List Ent} (h : REs W base v l) : EntsAt W v l := by
  obtain ⟨ds, h1, h2, h3⟩ := h
  obtain ⟨a, c, rfl⟩ := h1.shape
  refine ⟨a, c, by rw [h2], ?_⟩
  by_cases hl : l = []
  · exact .inl hl
  have hd : ds ≠ [] := by rintro rfl; exact hl (List.eq_nil_of_length_eq_zero h2.symm)
  obtain ⟨g, rfl, hb, hg, hc⟩ := OwnK.cellsK h1 (fun _ => rfl) hd
  refine .inr ⟨g, rfl, hg, fun i hi => ?_⟩
  have hi' : i < ds.length := by omega
  obtain ⟨k1, k2, k3⟩ := h3 i hi' hi
  have e0 := hc i hi' 0 (.int .i64 (ds[i].1 : Int)) rfl
  have e1 := hc i hi' 1 (.bool ds[i].2.1) rfl
  have e2 := hc i hi' 2 (slE ds[i].2.2) rfl
  rw [k1] at e0
  rw [k2] at e1
  obtain ⟨aw, cw, ew⟩ := OwnK.shape k3
  rw [ew] at e2 k3
  refine ⟨aw, cw, e0, e1, e2, ?_⟩
  by_cases hw : l[i].words = []
  · exact .inl hw
  obtain ⟨gw, rfl, hbw, hgw, hcw⟩ := OwnK.cellsK k3 (fun _ => rfl) hw
  exact .inr ⟨gw, rfl, hgw, fun j hj => ⟨hcw j hj 0 _ rfl, hcw j hj 1 _ rfl⟩⟩
theorem OwnK.len_le {α : Type} {k : Nat} {T : TypeId} {enc : α → List Value} {W : World} {base : Nat} {v : Value} {xs : List α} (h : OwnK k T enc W base v xs) : xs.length ≤ maxLen := by
  rcases h.2 with ⟨_, h0⟩ | ⟨g, cap, cur, _, _, _, hc, hm, _⟩
  · omega
  · omega
theorem REs.len {W : World} {base : Nat} {v : Value} {l : List Ent} (h : REs W base v l) : l.length ≤ maxLen ∧ ∀ i (hi : i < l.length), l[i].words.length ≤ maxLen := by
  obtain ⟨ds, h1, h2, h3⟩ := h
  have := h1.len_le
  refine ⟨by omega, fun i hi => ?_⟩
  obtain ⟨_, _, k3⟩ := h3 i (by omega) hi
  exact OwnK.len_le k3
def LensOK (l : List Ent) : Prop := l.length ≤ maxLen ∧ ∀ i (hi : i < l.length), l[i].words.length ≤ maxLen
def REntsPost (r : List Ent × Nat × Int) (w : World) (e : Ending) (w' : World) : Prop := ∃ a c, e = .returned (.tuple #[.slice a r.1.length c, .int .i64 (r.2.1 : Int), .int .i64 r.2.2]) ∧ EntsAt w' (.slice a r.1.length c) r.1 ∧ Below w.heap.size w w' ∧ Hid (LensOK r.1)
theorem kn_REntries (s : ByteArray) (l : List UInt8) (r : List Ent × Nat × Int) (hl : s.data.toList = l) (hr : entK l = r) (w : World) (hs : s.size ≤ 100000) :
    Calls Try.prog 9 #[.string s] w (REntsPost r w) := by
  refine (ref_Entries s l hl w hs).mono ?_
  rintro e w' ⟨v, rfl, h, hb⟩
  rw [← ent_same, hr] at h ⊢
  have h' := h.at
  have h2 := h.len
  obtain ⟨a, c, rfl, _⟩ := id h'
  exact ⟨a, c, rfl, h', hb, Lib.hid (show LensOK _ from h2)⟩
/-- Entry i of a row, its cells. -/
theorem EntsAt.cells {W : World} {a : Option Addr} {n c : Nat} {es : List Ent} (h : EntsAt W (.slice a n c) es) {i : Nat} (hi : i < es.length) : ∃ g aw cw, a = some ⟨g, 0, none⟩ ∧ g < W.heap.size ∧ W.cell? ⟨g, i * 3, none⟩ = some (.int .i64 (es[i].line : Int)) ∧ W.cell? ⟨g, i * 3 + 1, none⟩ = some (.bool es[i].blank) ∧ W.cell? ⟨g, i * 3 + 2, none⟩ = some (.slice aw es[i].words.length cw) ∧ WordsAt W aw es[i].words := by
  obtain ⟨a', c', e, h⟩ := h
  cases e
  rcases h with rfl | ⟨g, rfl, hg, hc⟩
  · simp at hi
  · obtain ⟨aw, cw, h1, h2, h3, h4⟩ := hc i hi
    exact ⟨g, aw, cw, rfl, hg, h1, h2, h3, h4⟩
set_option maxRecDepth 100000 in
set_option maxHeartbeats 8000000 in
theorem law7_Any (s : ByteArray) (w : World) (hs : s.size ≤ maxLen) : Calls Try.prog 3 #[.string s] w fun e w' => e = .returned (.bool true) ∧ Below w.heap.size w w' := by
  unfold maxLen at hs
  by_cases hlen : 600 < (s.size : Int)
  · go_enter Try.func3, Try.ntmps3
    go_wp2_with (go_at_call 7; refine (law7_known _).mono ?_; rintro e w1 ⟨rfl, hb1⟩)
    go_ret
    exact ⟨rfl, hb1⟩
  have hlen' : (s.size : Int) ≤ 600 := by omega
  have hz : s.size ≤ 600 := by omega
  clear hlen hs
  obtain ⟨⟨es, ln, er⟩, hr⟩ : ∃ r, entK s.data.toList = r := ⟨_, rfl⟩
  have hP := fun W => kn_Entries s s.data.toList _ rfl hr W (by omega)
  have hQ := fun W => kn_REntries s s.data.toList _ rfl hr W (by omega)
  obtain ⟨n, hn⟩ : ∃ n, es.length = n := ⟨_, rfl⟩
  unfold EntsPost at hP
  unfold REntsPost at hQ
  simp only [hn] at hP hQ
  have HN := Lib.hid hn
  clear hr hn
  go_enter Try.func3, Try.ntmps3
  go_wp2_with (go_at_call 7; refine (law7_known _).mono ?_; rintro e w1 ⟨rfl, hb1⟩)
  refine (hP _).mono ?_
  rintro e w2 ⟨a, c, rfl, E1, hb2⟩
  clear hP
  go_wp2_with fail
  refine (hQ _).mono ?_
  rintro e w3 ⟨a', c', rfl, E2, hb3, HLEN⟩
  clear hQ
  have hnm : n ≤ 9223372036854775807 := by have h := HLEN.out.1; rw [HN.out] at h; unfold maxLen at h; omega
  have HE1 := Lib.hid (E1.below hb3); have HE2 := Lib.hid E2
  have HB := Lib.hid ((hb1.trans (hb2.mono hb1.size)).trans (hb3.mono (hb1.trans (hb2.mono hb1.size)).size))
  clear E1 E2 hb1 hb2 hb3
  go_wp2_with fail
  go_loopw [9] (fun i wr => ∃ i' : Nat, i = .int .i64 i' ∧ i' ≤ n ∧ Below w.heap.size w wr ∧ Below w3.heap.size w3 wr) (fun i _ => n - (intOf i).toNat)
  case atStart => exact ⟨0, rfl, Nat.zero_le _, HB.out, Below.refl _ _⟩
  case round =>
    obtain ⟨i, rfl, hi, hbr, hbr3⟩ := hrel
    by_cases hin : i < n
    · have hie : i < es.length := by rw [HN.out]; exact hin
      obtain ⟨g, aw, cw, rfl, hg, p0, p1, p2, hw⟩ := HE1.out.cells hie
      obtain ⟨g', aw', cw', rfl, hg', q0, q1, q2, hw'⟩ := HE2.out.cells hie
      have HW := Lib.hid hw; have HW' := Lib.hid hw'
      replace p0 := (hbr3.cell (p := ⟨g, i * 3, none⟩) hg).trans p0
      replace p1 := (hbr3.cell (p := ⟨g, i * 3 + 1, none⟩) hg).trans p1
      have P2 := Lib.hid p2; have Q2 := Lib.hid q2
      replace p2 := (hbr3.cell (p := ⟨g, i * 3 + 2, none⟩) hg).trans p2
      replace q0 := (hbr3.cell (p := ⟨g', i * 3, none⟩) hg').trans q0
      replace q1 := (hbr3.cell (p := ⟨g', i * 3 + 1, none⟩) hg').trans q1
      replace q2 := (hbr3.cell (p := ⟨g', i * 3 + 2, none⟩) hg').trans q2
      obtain ⟨ws, hws⟩ : ∃ ws, es[i].words = ws := ⟨_, rfl⟩
      obtain ⟨L, hL⟩ : ∃ L, ws.length = L := ⟨_, rfl⟩
      rw [hws] at HW HW' P2 Q2 p2 q2
      rw [hL] at P2 Q2 p2 q2
      have HL := Lib.hid hL
      have hLm : L ≤ 9223372036854775807 := by have h := HLEN.out.2 i hie; rw [hws, hL] at h; unfold maxLen at h; omega
      generalize es[i].line = el at p0 q0
      generalize es[i].blank = eb at p1 q1
      have HBR := Lib.hid hbr; have HBR3 := Lib.hid hbr3
      have HG := Lib.hid hg; have HG' := Lib.hid hg'
      have hini : (i : Int) < (n : Int) := by omega
      have hi0 : (0 : Int) ≤ (i : Int) := by omega
      clear hw hw' hws hL hbr hbr3 hg hg' hie
      go_wp2_with fail
      go_quiet (fail)
      clear p0 p1 p2 q0 q1 q2
      go_wp2_with fail
      go_loopw [10] (fun j wr2 => ∃ j' : Nat, j = .int .i64 j' ∧ j' ≤ L ∧ Below w.heap.size w wr2 ∧ Below w3.heap.size w3 wr2) (fun j _ => L - (intOf j).toNat)
      case atStart => exact ⟨0, rfl, Nat.zero_le _, HBR.out.trans ⟨rfl, rfl, rfl, Nat.le_refl _, fun _ _ => rfl⟩, HBR3.out.trans ⟨rfl, rfl, rfl, Nat.le_refl _, fun _ _ => rfl⟩⟩
      case round =>
        clear HBR HBR3
        obtain ⟨j, rfl, hj, hbr, hbr3⟩ := hrel
        have p2 := (hbr3.cell (p := ⟨g, i * 3 + 2, none⟩) HG.out).trans P2.out
        have q2 := (hbr3.cell (p := ⟨g', i * 3 + 2, none⟩) HG'.out).trans Q2.out
        have HBR := Lib.hid hbr; have HBR3 := Lib.hid hbr3
        clear hbr
        by_cases hjL : j < L
        · have hjw : j < ws.length := by rw [HL.out]; exact hjL
          obtain ⟨gw, rfl, hgw, hcw⟩ : ∃ gw, aw = some ⟨gw, 0, none⟩ ∧ gw < w3.heap.size ∧ ∀ j (hj : j < ws.length), w3.cell? ⟨gw, j * 2, none⟩ = some (strV ws[j].1) ∧ w3.cell? ⟨gw, j * 2 + 1, none⟩ = some (.bool ws[j].2) := by
            rcases HW.out with h | h
            · rw [h] at hjw; simp at hjw
            · exact h
          obtain ⟨gv, rfl, hgv, hcv⟩ : ∃ gw, aw' = some ⟨gw, 0, none⟩ ∧ gw < w3.heap.size ∧ ∀ j (hj : j < ws.length), w3.cell? ⟨gw, j * 2, none⟩ = some (strV ws[j].1) ∧ w3.cell? ⟨gw, j * 2 + 1, none⟩ = some (.bool ws[j].2) := by
            rcases HW'.out with h | h
            · rw [h] at hjw; simp at hjw
            · exact h
          obtain ⟨r0, r1⟩ := hcw j hjw
          obtain ⟨t0, t1⟩ := hcv j hjw
          replace r0 := (hbr3.cell (p := ⟨gw, j * 2, none⟩) hgw).trans r0
          replace r1 := (hbr3.cell (p := ⟨gw, j * 2 + 1, none⟩) hgw).trans r1
          replace t0 := (hbr3.cell (p := ⟨gv, j * 2, none⟩) hgv).trans t0
          replace t1 := (hbr3.cell (p := ⟨gv, j * 2 + 1, none⟩) hgv).trans t1
          unfold strV at r0 t0
          generalize (⟨ws[j].1.toArray⟩ : ByteArray) = sk at r0 t0
          generalize ws[j].2 = bq at r1 t1
          have hjLi : (j : Int) < (L : Int) := by omega
          have hj0 : (0 : Int) ≤ (j : Int) := by omega
          clear hcw hcv hbr3 hgw hgv hjw
          go_wp2_with fail
          go_quiet (fail)
          go_wp2_with fail
          go_roundw
          case rel => exact ⟨j + 1, by go_num, by omega, HBR.out.trans ⟨rfl, rfl, rfl, Nat.le_refl _, fun _ _ => rfl⟩, HBR3.out.trans ⟨rfl, rfl, rfl, Nat.le_refl _, fun _ _ => rfl⟩⟩
          case measure => simp [intOf]; omega
        · obtain rfl : j = L := by omega
          clear hbr3
          go_wp2_with fail
          go_roundw
          case rel => exact ⟨i + 1, by go_num, by omega, HBR.out, HBR3.out⟩
          case measure => simp [intOf]; omega
    · obtain rfl : i = n := by omega
      go_wp2_with fail
      go_ret
      exact ⟨rfl, hbr⟩
end Go.Proofs.Ytlgbdbaacjahpaa
