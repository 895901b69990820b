/-
  Entries as a law reads them; law7.known.
-/
import Derived.Test.YtlgbdbaacjahpaaTokE
import Derived.Test.YtlgbdbaacjahpaaTokK
namespace Go.Proofs.Ytlgbdbaacjahpaa
open Go.RowKit Go.Shelf
set_option maxRecDepth 20000

theorem OwnK.cellsK {α : Type} {k : Nat} {T : TypeId} {enc : α → List Value} {W : World} {base : Nat} {a : Option Addr} {n c : Nat} {xs : List α} (h : OwnK k T enc W base (.slice a n c) xs) (henc : ∀ x, (enc x).length = k) (hne : xs ≠ []) :
    ∃ g, a = some ⟨g, 0, none⟩ ∧ base ≤ g ∧ g < W.heap.size ∧ ∀ j (hj : j < xs.length) i (v : Value), (enc xs[j])[i]? = some v → W.cell? ⟨g, j * k + i, none⟩ = some v := by
  obtain ⟨_, h2⟩ := h
  rcases h2 with ⟨e, h0⟩ | ⟨g, cap, cur, e, hb, hg, hc, hm, hsz, htk⟩
  · exact absurd (List.eq_nil_of_length_eq_zero h0) hne
  · cases e
    refine ⟨g, rfl, hb, (Array.getElem?_eq_some_iff.1 hg).1, fun j hj i v hv => ?_⟩
    have hi : i < k := by
      have := (List.getElem?_eq_some_iff.1 hv).1
      rw [henc] at this; exact this
    have key : ∀ (l : List α) (j : Nat) (hj : j < l.length), (enc l[j])[i]? = some v → (l.flatMap enc)[j * k + i]? = some v := by
      intro l
      induction l with
      | nil => intro j hj; exact absurd hj (Nat.not_lt_zero j)
      | cons x l ih =>
        intro j hj hv
        rw [List.flatMap_cons]
        cases j with
        | zero => rw [Nat.zero_mul, Nat.zero_add, List.getElem?_append_left (by rw [henc]; exact hi)]; exact hv
        | succ j =>
          rw [List.getElem?_append_right (by rw [henc, Nat.succ_mul]; omega), henc, Nat.succ_mul]
          rw [show j * k + k + i - k = j * k + i by omega]
          exact ih j (by simpa using hj) hv
    have h3 : cur.toList[j * k + i]? = some v := by
      have h4 := key xs j hj hv
      rw [← htk, List.getElem?_take] at h4
      by_cases hlt : j * k + i < xs.length * k
      · rw [if_pos hlt] at h4; exact h4
      · rw [if_neg hlt] at h4; cases h4
    simp only [World.cell?, hg]
    simpa using h3

def WordsAt (W : World) (a : Option Addr) (ws : List TW) : Prop := ws = [] ∨ ∃ g, a = some ⟨g, 0, none⟩ ∧ g < W.heap.size ∧ ∀ j (hj : j < ws.length), W.cell? ⟨g, j * 2, none⟩ = some (strV ws[j].1) ∧ W.cell? ⟨g, j * 2 + 1, none⟩ = some (.bool ws[j].2)
def EntAt (W : World) (g i : Nat) (e : Ent) : Prop := ∃ aw cw, W.cell? ⟨g, i * 3, none⟩ = some (.int .i64 (e.line : Int)) ∧ W.cell? ⟨g, i * 3 + 1, none⟩ = some (.bool e.blank) ∧ W.cell? ⟨g, i * 3 + 2, none⟩ = some (.slice aw e.words.length cw) ∧ WordsAt W aw e.words
def EntsAt (W : World) (v : Value) (es : List Ent) : Prop := ∃ a c, v = .slice a es.length c ∧ (es = [] ∨ ∃ g, a = some ⟨g, 0, none⟩ ∧ g < W.heap.size ∧ ∀ i (hi : i < es.length), EntAt W g i es[i])
theorem WordsAt.below {W W' : World} {a : Option Addr} {ws : List TW} (h : WordsAt W a ws) (hb : Below W.heap.size W W') : WordsAt W' a ws := by
  rcases h with h | ⟨g, e, hg, hc⟩
  · exact .inl h
  · exact .inr ⟨g, e, Nat.lt_of_lt_of_le hg hb.size, fun j hj => ⟨(hb.cell (p := ⟨g, _, none⟩) hg).trans (hc j hj).1, (hb.cell (p := ⟨g, _, none⟩) hg).trans (hc j hj).2⟩⟩
theorem EntAt.below {W W' : World} {g i : Nat} {e : Ent} (h : EntAt W g i e) (hg : g < W.heap.size) (hb : Below W.heap.size W W') : EntAt W' g i e := by
  obtain ⟨aw, cw, h1, h2, h3, h4⟩ := h
  exact ⟨aw, cw, (hb.cell (p := ⟨g, _, none⟩) hg).trans h1, (hb.cell (p := ⟨g, _, none⟩) hg).trans h2, (hb.cell (p := ⟨g, _, none⟩) hg).trans h3, h4.below hb⟩
theorem EntsAt.below {W W' : World} {v : Value} {es : List Ent} (h : EntsAt W v es) (hb : Below W.heap.size W W') : EntsAt W' v es := by
  obtain ⟨a, c, e, h⟩ := h
  refine ⟨a, c, e, ?_⟩
  rcases h with h | ⟨g, e, hg, hc⟩
  · exact .inl h
  · exact .inr ⟨g, e, Nat.lt_of_lt_of_le hg hb.size, fun i hi => (hc i hi).below hg hb⟩
theorem OwnEs.at {W : World} {base : Nat} {v ve : Value} {l : List Ent} (h : OwnEs W base v ve l) : EntsAt W v l := by
  obtain ⟨ds, h1, h2, h3⟩ := h
  obtain ⟨a, c, rfl⟩ := h1.shape
  refine ⟨a, c, by rw [h2], ?_⟩
  by_cases hl : l = []
  · exact .inl hl
  have hd : ds ≠ [] := by rintro rfl; exact hl (List.eq_nil_of_length_eq_zero h2.symm)
  obtain ⟨g, rfl, hb, hg, hc⟩ := OwnK.cellsK h1 (fun _ => rfl) hd
  refine .inr ⟨g, rfl, hg, fun i hi => ?_⟩
  have hi' : i < ds.length := by omega
  obtain ⟨k1, k2, k3, _⟩ := h3 i hi' hi
  have e0 := hc i hi' 0 (.int .i64 (ds[i].1 : Int)) rfl
  have e1 := hc i hi' 1 (.bool ds[i].2.1) rfl
  have e2 := hc i hi' 2 (slE ds[i].2.2) rfl
  rw [k1] at e0
  rw [k2] at e1
  obtain ⟨aw, cw, ew⟩ := OwnK.shape k3
  rw [ew] at e2 k3
  refine ⟨aw, cw, e0, e1, e2, ?_⟩
  by_cases hw : l[i].words = []
  · exact .inl hw
  obtain ⟨gw, rfl, hbw, hgw, hcw⟩ := OwnK.cellsK k3 (fun _ => rfl) hw
  exact .inr ⟨gw, rfl, hgw, fun j hj => ⟨hcw j hj 0 _ rfl, hcw j hj 1 _ rfl⟩⟩
/-- tok.Entries as a law calls it. -/
def EntsPost (r : List Ent × Nat × Int) (w : World) (e : Ending) (w' : World) : Prop := ∃ a c, e = .returned (.tuple #[.slice a r.1.length c, .int .i64 (r.2.1 : Int), .int .i64 r.2.2]) ∧ EntsAt w' (.slice a r.1.length c) r.1 ∧ Below w.heap.size w w'
theorem kn_Entries (s : ByteArray) (l : List UInt8) (r : List Ent × Nat × Int) (hl : s.data.toList = l) (hr : entK l = r) (w : World) (hs : s.size ≤ 100000) :
    Calls Try.prog 8 #[.string s] w (EntsPost r w) := by
  subst hl hr
  refine (tok_Entries s w hs).mono ?_
  rintro e w' ⟨v, rfl, ⟨ve, h⟩, hb⟩
  have h' := h.at
  obtain ⟨a, c, rfl, _⟩ := id h'
  exact ⟨a, c, rfl, h', hb⟩
set_option maxRecDepth 100000 in
set_option maxHeartbeats 8000000 in
theorem law7_known (w : World) : Calls Try.prog 7 #[] w fun e w' => e = .returned (.bool true) ∧ Below w.heap.size w w' := by
  go_enter Try.func7, Try.ntmps7
  go_wp2_with fail
  refine (kn_Entries _ kn7a _ rfl kn7a_is _ (by decide)).mono ?_
  rintro e w1 ⟨a1, c1, rfl, E1, hb1⟩
  go_wp2_with fail
  refine (kn_Entries _ kn7b _ rfl kn7b_is _ (by decide)).mono ?_
  rintro e w2 ⟨a2, c2, rfl, _, hb2⟩
  go_wp2_with fail
  refine (kn_Entries _ kn7c _ rfl kn7c_is _ (by decide)).mono ?_
  rintro e w3 ⟨a3, c3, rfl, _, hb3⟩
  have E3 := (E1.below hb2).below hb3
  have HB := Lib.hid ((hb1.trans (hb2.mono hb1.size)).trans (hb3.mono (hb1.trans (hb2.mono hb1.size)).size))
  clear E1 hb1 hb2 hb3
  obtain ⟨a, c, e, h⟩ := E3
  cases e
  rcases h with h | ⟨g, rfl, hg, hc⟩
  · cases h
  obtain ⟨aw, cw, p0, p1, p2, hw⟩ := hc 0 (by decide)
  obtain ⟨av, cv, q0, q1, q2, hv⟩ := hc 1 (by decide)
  rcases hw with h | ⟨gw, rfl, hgw, hcw⟩
  · cases h
  rcases hv with h | ⟨gv, rfl, hgv, hcv⟩
  · cases h
  have r1 : w3.cell? ⟨gw, 2, none⟩ = some (.string ⟨#[98, 59, 99]⟩) := (hcw 1 (by decide)).1
  have r2 : w3.cell? ⟨gw, 3, none⟩ = some (.bool true) := (hcw 1 (by decide)).2
  have r3 : w3.cell? ⟨gw, 4, none⟩ = some (.string ⟨#[100]⟩) := (hcw 2 (by decide)).1
  have r4 : w3.cell? ⟨gv, 0, none⟩ = some (.string ⟨#[102, 92, 59, 103]⟩) := (hcv 0 (by decide)).1
  have p0' : w3.cell? ⟨g, 0, none⟩ = some (.int .i64 2) := p0
  have p1' : w3.cell? ⟨g, 1, none⟩ = some (.bool true) := p1
  have p2' : w3.cell? ⟨g, 2, none⟩ = some (.slice (some ⟨gw, 0, none⟩) 4 cw) := p2
  have q0' : w3.cell? ⟨g, 3, none⟩ = some (.int .i64 4) := q0
  have q1' : w3.cell? ⟨g, 4, none⟩ = some (.bool false) := q1
  have q2' : w3.cell? ⟨g, 5, none⟩ = some (.slice (some ⟨gv, 0, none⟩) 1 cv) := q2
  clear p0 p1 p2 q0 q1 q2 hcw hcv hc
  go_wp2_with fail
  go_ret
  exact ⟨rfl, HB.out⟩
end Go.Proofs.Ytlgbdbaacjahpaa
