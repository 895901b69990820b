/-
  law13.known holds. (Written by wip/tools/gen13k.py.)
-/
import Derived.Test.YtckammgnmgkieaaMQ19
import Derived.Test.YtckammgnmgkieaaMQ08
namespace Go.Proofs.Ytckammgnmgkieaa
open Go.RowKit Go.Shelf
set_option maxRecDepth 20000
set_option linter.unusedVariables false
set_option linter.unusedSimpArgs false
def kcO : Nm := [[111]]
def kcN : Nm := [[97], [111]]
def kcR1 : Rc := ⟨[[97], [111]], 0, ⟨5, [[[120]]], [], [], []⟩⟩
def kcR2 : Rc := ⟨[[97], [111]], 0, ⟨1, [], [], [], [1, 2, 3, 4]⟩⟩
def kcL : List Rc := [kcR1, kcR2]
def kcF : List Fl := [⟨1, [[111]], 6⟩, ⟨3, [[111]], 2⟩, ⟨5, [[97], [111]], 5⟩]
theorem kc_canon : canonM kcL = [kcR2, kcR1] := by rfl
theorem kc_can2 : canonM [kcR2, kcR1] = [kcR2, kcR1] := by rfl
theorem kc_all : allF kcO [kcR2, kcR1] = kcF := by rfl
theorem kc_rise : kcF.Pairwise fun a b => compareF a b < 0 := by
  unfold kcF
  simp only [List.pairwise_cons, List.mem_cons, List.not_mem_nil, or_false, forall_eq_or_imp, forall_eq, false_implies, implies_true, List.Pairwise.nil, and_true]
  refine ⟨⟨by decide, by decide⟩, by decide⟩
theorem kc_ok : ∀ r ∈ kcL, RcOK r := by
  intro r hr
  simp only [kcL, List.mem_cons, List.not_mem_nil, or_false] at hr
  rcases hr with rfl | rfl
  · exact ⟨⟨by decide, by decide⟩, by decide, ⟨by decide, by decide⟩, by decide, (fun n h => by simp only [kcR1, List.mem_singleton] at h; subst h; exact ⟨by decide, by decide⟩), by decide, (fun n h => by cases h), ⟨by decide, (fun n h => by cases h)⟩, by decide⟩
  · exact ⟨⟨by decide, by decide⟩, by decide, ⟨by decide, by decide⟩, by decide, (fun n h => by cases h), by decide, (fun n h => by cases h), ⟨by decide, (fun n h => by cases h)⟩, by decide⟩
/-- What is in order and has the same flaws is the same row. -/
theorem perm_sorted : ∀ (m l : List Fl), l.Perm m → (l.Pairwise fun a b => compareF a b ≤ 0) → (m.Pairwise fun a b => compareF a b < 0) → l = m
  | [], l, h, _, _ => List.Perm.eq_nil h
  | y :: m, [], h, _, _ => by have := h.length_eq; simp at this
  | y :: m, x :: l, h, hl, hm => by
    have hx : x ∈ y :: m := h.subset (by simp)
    have hy : y ∈ x :: l := h.symm.subset (by simp)
    have hl2 := List.pairwise_cons.1 hl
    have hm2 := List.pairwise_cons.1 hm
    have e : x = y := by
      rcases List.mem_cons.1 hx with e | hx
      · exact e
      · rcases List.mem_cons.1 hy with e | hy
        · exact e.symm
        · have h1 := hm2.1 x hx
          have h2 := hl2.1 y hy
          have h3 := cord_compareF.anti x y
          omega
    subst e
    rw [perm_sorted m l (List.Perm.cons_inv h) hl2.2 hm2.2]
/-- A row of flaws, as an index reads it. -/
theorem fls_elem {W : World} {a : Option Addr} {n c : Nat} {css : List (List Value)} {fs : List Fl} (h : SlK W (.slice a n c) css) (hf : Fls' W css fs) (h0 : 0 < fs.length) : ∃ b off, a = some ⟨b, off, none⟩ ∧ b < W.heap.size ∧ n = fs.length ∧
    ∀ k (hk : k < fs.length), ∃ x : Option Addr × Nat × Nat, NmAt W (slV x) fs[k].owner ∧ ∀ W', Below W.heap.size W W' → W'.cell? ⟨b, off + k * 3, none⟩ = some (.int .i64 fs[k].kind) ∧ W'.cell? ⟨b, off + k * 3 + 1, none⟩ = some (slV x) ∧ W'.cell? ⟨b, off + k * 3 + 2, none⟩ = some (.int .i64 fs[k].ty) := by
  have h3 : ∀ cs ∈ css, cs.length = 3 := fun cs hc => by
    obtain ⟨i, hi, rfl⟩ := List.mem_iff_getElem.1 hc
    exact (hf.2 i hi (by have := hf.1; omega)).len
  obtain ⟨a', c', e, h1, h2, hh⟩ := h
  injection e with e1 e2 e3
  subst e1
  rcases hh with hh | ⟨b, off, ea, hb, hc⟩
  · rw [hh] at hf; have := hf.1; simp at this; omega
  · refine ⟨b, off, ea, hb, by rw [e2]; exact hf.1, fun k hk => ?_⟩
    have hk1 : k < css.length := by have := hf.1; omega
    obtain ⟨vo, ev, hn⟩ := hf.2 k hk1 hk
    obtain ⟨ax, cx, ex, -⟩ := nmAt_sl.1 hn
    have hcell : ∀ (t : Nat) (u : Value), t < 3 → css[k][t]? = some u → ∀ W', Below W.heap.size W W' → W'.cell? ⟨b, off + k * 3 + t, none⟩ = some u := fun t u ht hu W' hB => by
      have hz : (css.take k).flatten.length = k * 3 := by
        rw [flat_len _ (fun cs hcs => h3 cs (List.mem_of_mem_take hcs)), List.length_take]; congr 1; omega
      have hsplit : css.flatten = (css.take k).flatten ++ (css[k] ++ (css.drop (k + 1)).flatten) := by
        rw [← List.flatten_cons, ← List.drop_eq_getElem_cons hk1, ← List.flatten_append, List.take_append_drop]
      have hj : css.flatten[k * 3 + t]? = some u := by
        rw [hsplit, List.getElem?_append_right (by omega), hz, Nat.add_sub_cancel_left, List.getElem?_append_left (by rw [h3 _ (List.getElem_mem hk1)]; exact ht)]
        exact hu
      have h5 := hc (k * 3 + t) u hj
      rw [← Nat.add_assoc] at h5
      exact (hB.cell (p := ⟨b, off + k * 3 + t, none⟩) hb).trans h5
    refine ⟨(ax, (fs[k].owner.map strV).length, cx), by rw [show slV (ax, (fs[k].owner.map strV).length, cx) = vo from ex.symm]; exact hn, fun W' hB => ⟨?_, ?_, ?_⟩⟩
    · exact hcell 0 _ (by omega) (by rw [ev]; rfl) W' hB
    · exact hcell 1 _ (by omega) (by rw [ev, ex]; rfl) W' hB
    · exact hcell 2 _ (by omega) (by rw [ev]; rfl) W' hB
set_option maxRecDepth 100000 in
set_option maxHeartbeats 16000000 in
theorem law13_known (w : World) :
    Calls Try.prog 5 #[] w fun e w' => e = .returned (.bool true) ∧ Below w.heap.size w w' := by
  go_enter Try.func5, Try.ntmps5
  go_wp2_with fail
  obtain ⟨n, hn⟩ : ∃ n, w.heap.size = n := ⟨_, rfl⟩
  obtain ⟨W, hW⟩ : ∃ W, allocs w [(.cells #[.string ⟨#[111]⟩] 9), (.cells #[.string ⟨#[97]⟩, .string ⟨#[111]⟩] 9), (.cells #[.string ⟨#[120]⟩] 9), (.cells #[.slice (some ⟨n + 1 + 1, 0, none⟩) 1 1] 23), (.cells #[.int .u8 1, .int .u8 2, .int .u8 3, .int .u8 4] 5), (.cells #[.slice (some ⟨n + 1, 0, none⟩) 2 2, .int .u32 0, .int .i64 5, .slice (some ⟨n + 1 + 1 + 1, 0, none⟩) 1 1, .slice none 0 0, .slice none 0 0, .slice none 0 0, .slice (some ⟨n + 1, 0, none⟩) 2 2, .int .u32 0, .int .i64 1, .slice none 0 0, .slice none 0 0, .slice none 0 0, .slice (some ⟨n + 1 + 1 + 1 + 1, 0, none⟩) 4 4] 33)] = W := ⟨_, rfl⟩
  have hB := allocs_below [(.cells #[.string ⟨#[111]⟩] 9), (.cells #[.string ⟨#[97]⟩, .string ⟨#[111]⟩] 9), (.cells #[.string ⟨#[120]⟩] 9), (.cells #[.slice (some ⟨n + 1 + 1, 0, none⟩) 1 1] 23), (.cells #[.int .u8 1, .int .u8 2, .int .u8 3, .int .u8 4] 5), (.cells #[.slice (some ⟨n + 1, 0, none⟩) 2 2, .int .u32 0, .int .i64 5, .slice (some ⟨n + 1 + 1 + 1, 0, none⟩) 1 1, .slice none 0 0, .slice none 0 0, .slice none 0 0, .slice (some ⟨n + 1, 0, none⟩) 2 2, .int .u32 0, .int .i64 1, .slice none 0 0, .slice none 0 0, .slice none 0 0, .slice (some ⟨n + 1 + 1 + 1 + 1, 0, none⟩) 4 4] 33)] w
  have k0 : W.heap[n]? = some (.cells #[.string ⟨#[111]⟩] 9) := by
    have h := allocs_at [(.cells #[.string ⟨#[111]⟩] 9), (.cells #[.string ⟨#[97]⟩, .string ⟨#[111]⟩] 9), (.cells #[.string ⟨#[120]⟩] 9), (.cells #[.slice (some ⟨n + 1 + 1, 0, none⟩) 1 1] 23), (.cells #[.int .u8 1, .int .u8 2, .int .u8 3, .int .u8 4] 5), (.cells #[.slice (some ⟨n + 1, 0, none⟩) 2 2, .int .u32 0, .int .i64 5, .slice (some ⟨n + 1 + 1 + 1, 0, none⟩) 1 1, .slice none 0 0, .slice none 0 0, .slice none 0 0, .slice (some ⟨n + 1, 0, none⟩) 2 2, .int .u32 0, .int .i64 1, .slice none 0 0, .slice none 0 0, .slice none 0 0, .slice (some ⟨n + 1 + 1 + 1 + 1, 0, none⟩) 4 4] 33)] w 0 (by simp)
    rw [hW, hn] at h; exact h
  have k1 : W.heap[n + 1]? = some (.cells #[.string ⟨#[97]⟩, .string ⟨#[111]⟩] 9) := by
    have h := allocs_at [(.cells #[.string ⟨#[111]⟩] 9), (.cells #[.string ⟨#[97]⟩, .string ⟨#[111]⟩] 9), (.cells #[.string ⟨#[120]⟩] 9), (.cells #[.slice (some ⟨n + 1 + 1, 0, none⟩) 1 1] 23), (.cells #[.int .u8 1, .int .u8 2, .int .u8 3, .int .u8 4] 5), (.cells #[.slice (some ⟨n + 1, 0, none⟩) 2 2, .int .u32 0, .int .i64 5, .slice (some ⟨n + 1 + 1 + 1, 0, none⟩) 1 1, .slice none 0 0, .slice none 0 0, .slice none 0 0, .slice (some ⟨n + 1, 0, none⟩) 2 2, .int .u32 0, .int .i64 1, .slice none 0 0, .slice none 0 0, .slice none 0 0, .slice (some ⟨n + 1 + 1 + 1 + 1, 0, none⟩) 4 4] 33)] w 1 (by simp)
    rw [hW, hn] at h; exact h
  have k2 : W.heap[n + 1 + 1]? = some (.cells #[.string ⟨#[120]⟩] 9) := by
    have h := allocs_at [(.cells #[.string ⟨#[111]⟩] 9), (.cells #[.string ⟨#[97]⟩, .string ⟨#[111]⟩] 9), (.cells #[.string ⟨#[120]⟩] 9), (.cells #[.slice (some ⟨n + 1 + 1, 0, none⟩) 1 1] 23), (.cells #[.int .u8 1, .int .u8 2, .int .u8 3, .int .u8 4] 5), (.cells #[.slice (some ⟨n + 1, 0, none⟩) 2 2, .int .u32 0, .int .i64 5, .slice (some ⟨n + 1 + 1 + 1, 0, none⟩) 1 1, .slice none 0 0, .slice none 0 0, .slice none 0 0, .slice (some ⟨n + 1, 0, none⟩) 2 2, .int .u32 0, .int .i64 1, .slice none 0 0, .slice none 0 0, .slice none 0 0, .slice (some ⟨n + 1 + 1 + 1 + 1, 0, none⟩) 4 4] 33)] w 2 (by simp)
    rw [hW, hn] at h; exact h
  have k3 : W.heap[n + 1 + 1 + 1]? = some (.cells #[.slice (some ⟨n + 1 + 1, 0, none⟩) 1 1] 23) := by
    have h := allocs_at [(.cells #[.string ⟨#[111]⟩] 9), (.cells #[.string ⟨#[97]⟩, .string ⟨#[111]⟩] 9), (.cells #[.string ⟨#[120]⟩] 9), (.cells #[.slice (some ⟨n + 1 + 1, 0, none⟩) 1 1] 23), (.cells #[.int .u8 1, .int .u8 2, .int .u8 3, .int .u8 4] 5), (.cells #[.slice (some ⟨n + 1, 0, none⟩) 2 2, .int .u32 0, .int .i64 5, .slice (some ⟨n + 1 + 1 + 1, 0, none⟩) 1 1, .slice none 0 0, .slice none 0 0, .slice none 0 0, .slice (some ⟨n + 1, 0, none⟩) 2 2, .int .u32 0, .int .i64 1, .slice none 0 0, .slice none 0 0, .slice none 0 0, .slice (some ⟨n + 1 + 1 + 1 + 1, 0, none⟩) 4 4] 33)] w 3 (by simp)
    rw [hW, hn] at h; exact h
  have k4 : W.heap[n + 1 + 1 + 1 + 1]? = some (.cells #[.int .u8 1, .int .u8 2, .int .u8 3, .int .u8 4] 5) := by
    have h := allocs_at [(.cells #[.string ⟨#[111]⟩] 9), (.cells #[.string ⟨#[97]⟩, .string ⟨#[111]⟩] 9), (.cells #[.string ⟨#[120]⟩] 9), (.cells #[.slice (some ⟨n + 1 + 1, 0, none⟩) 1 1] 23), (.cells #[.int .u8 1, .int .u8 2, .int .u8 3, .int .u8 4] 5), (.cells #[.slice (some ⟨n + 1, 0, none⟩) 2 2, .int .u32 0, .int .i64 5, .slice (some ⟨n + 1 + 1 + 1, 0, none⟩) 1 1, .slice none 0 0, .slice none 0 0, .slice none 0 0, .slice (some ⟨n + 1, 0, none⟩) 2 2, .int .u32 0, .int .i64 1, .slice none 0 0, .slice none 0 0, .slice none 0 0, .slice (some ⟨n + 1 + 1 + 1 + 1, 0, none⟩) 4 4] 33)] w 4 (by simp)
    rw [hW, hn] at h; exact h
  have k5 : W.heap[n + 1 + 1 + 1 + 1 + 1]? = some (.cells #[.slice (some ⟨n + 1, 0, none⟩) 2 2, .int .u32 0, .int .i64 5, .slice (some ⟨n + 1 + 1 + 1, 0, none⟩) 1 1, .slice none 0 0, .slice none 0 0, .slice none 0 0, .slice (some ⟨n + 1, 0, none⟩) 2 2, .int .u32 0, .int .i64 1, .slice none 0 0, .slice none 0 0, .slice none 0 0, .slice (some ⟨n + 1 + 1 + 1 + 1, 0, none⟩) 4 4] 33) := by
    have h := allocs_at [(.cells #[.string ⟨#[111]⟩] 9), (.cells #[.string ⟨#[97]⟩, .string ⟨#[111]⟩] 9), (.cells #[.string ⟨#[120]⟩] 9), (.cells #[.slice (some ⟨n + 1 + 1, 0, none⟩) 1 1] 23), (.cells #[.int .u8 1, .int .u8 2, .int .u8 3, .int .u8 4] 5), (.cells #[.slice (some ⟨n + 1, 0, none⟩) 2 2, .int .u32 0, .int .i64 5, .slice (some ⟨n + 1 + 1 + 1, 0, none⟩) 1 1, .slice none 0 0, .slice none 0 0, .slice none 0 0, .slice (some ⟨n + 1, 0, none⟩) 2 2, .int .u32 0, .int .i64 1, .slice none 0 0, .slice none 0 0, .slice none 0 0, .slice (some ⟨n + 1 + 1 + 1 + 1, 0, none⟩) 4 4] 33)] w 5 (by simp)
    rw [hW, hn] at h; exact h
  rw [hW] at hB
  simp only [allocs, List.foldl_cons, List.foldl_nil] at hW
  have hN0 : NmAt W (.slice (some ⟨n, 0, none⟩) 1 1) [[111]] := nm_lit' (l := [.string ⟨#[111]⟩]) k0 rfl
  have hN1 : NmAt W (.slice (some ⟨n + 1, 0, none⟩) 2 2) [[97], [111]] := nm_lit' (l := [.string ⟨#[97]⟩, .string ⟨#[111]⟩]) k1 rfl
  have hN2 : NmAt W (.slice (some ⟨n + 1 + 1, 0, none⟩) 1 1) [[120]] := nm_lit' (l := [.string ⟨#[120]⟩]) k2 rfl
  have hD4 : SlAt W (.slice (some ⟨n + 1 + 1 + 1 + 1, 0, none⟩) 4 4) ([1, 2, 3, 4].map bv) := slAt_blk (l := [.int .u8 1, .int .u8 2, .int .u8 3, .int .u8 4]) k4
  have hD2 : SlAt W (.slice (some ⟨n + 1 + 1 + 1, 0, none⟩) 1 1) [.slice (some ⟨n + 1 + 1, 0, none⟩) 1 1] := slAt_blk (l := [.slice (some ⟨n + 1 + 1, 0, none⟩) 1 1]) k3
  have q1 : RcAt W [.slice (some ⟨n + 1, 0, none⟩) 2 2, .int .u32 ((0 : Nat) : Int), .int .i64 5, .slice (some ⟨n + 1 + 1 + 1, 0, none⟩) 1 1, .slice none 0 0, .slice none 0 0, .slice none 0 0] kcR1 := ⟨_, _, _, _, _, rfl, hN1, _, _, _, _, rfl, ⟨_, hD2, rfl, fun i h1 => by
      match i, h1 with
      | 0, _ => exact hN2⟩, SlAt.nil _, nm_nil _, SlAt.nil _⟩
  have q2 : RcAt W [.slice (some ⟨n + 1, 0, none⟩) 2 2, .int .u32 ((0 : Nat) : Int), .int .i64 1, .slice none 0 0, .slice none 0 0, .slice none 0 0, .slice (some ⟨n + 1 + 1 + 1 + 1, 0, none⟩) 4 4] kcR2 := ⟨_, _, _, _, _, rfl, hN1, _, _, _, _, rfl, NmsAt.nil _, SlAt.nil _, nm_nil _, hD4⟩
  have hRC : RowC W (.slice (some ⟨n + 1 + 1 + 1 + 1 + 1, 0, none⟩) 2 2) kcL := ⟨_, slK_blk (css := [[.slice (some ⟨n + 1, 0, none⟩) 2 2, .int .u32 0, .int .i64 5, .slice (some ⟨n + 1 + 1 + 1, 0, none⟩) 1 1, .slice none 0 0, .slice none 0 0, .slice none 0 0], [.slice (some ⟨n + 1, 0, none⟩) 2 2, .int .u32 0, .int .i64 1, .slice none 0 0, .slice none 0 0, .slice none 0 0, .slice (some ⟨n + 1 + 1 + 1 + 1, 0, none⟩) 4 4]]) k5, rfl, fun i h1 h2 => by
    match i, h1 with
    | 0, _ => exact q1
    | 1, _ => exact q2⟩
  have hc := zone_New (.slice (some ⟨n, 0, none⟩) 1 1) (.slice (some ⟨n + 1 + 1 + 1 + 1 + 1, 0, none⟩) 2 2) kcO kcL hN0 ⟨by decide, by decide⟩ hRC kc_ok (by decide)
  rw [kc_canon] at hc
  rw [hn, hW]
  have HB := Lib.hid hB; have HN := Lib.hid hN1
  clear hB hN0 hN1 hN2 hD4 hD2 q1 q2 hRC k0 k1 k2 k3 k4 k5 hW
  refine hc.mono ?_
  rintro e w2 ⟨za, zn, zc, v1, m, c, rfl, hZ, hb2⟩
  have hA2 := (Below.refl w2.heap.size w2).alloc (Nat.le_refl _) (.cells #[.slice za zn zc, .slice v1 m c] 39)
  have hc3 := check_Zone (hZ.below hA2) kc_can2
  rw [kc_all] at hc3
  have HB2 := Lib.hid (HB.out.trans ((hb2.trans (hA2.mono hb2.size)).mono HB.out.size))
  have HN2 := Lib.hid ((HN.out.below hb2).below hA2)
  clear hc hZ hb2 hA2 HB HN
  go_wp2_with fail
  refine hc3.mono ?_
  rintro e w3 ⟨v, css, fs, rfl, hs3, hf3, hp3, ho3, hb3⟩
  obtain rfl := perm_sorted _ _ hp3 ho3 kc_rise
  obtain ⟨a3, c3, rfl⟩ : ∃ a c, v = .slice a 3 c := by
    obtain ⟨a, c, e, _⟩ := id hs3
    exact ⟨a, c, by rw [e, hf3.1]; rfl⟩
  obtain ⟨b, off, rfl, hbl, -, hel⟩ := fls_elem hs3 hf3 (by decide)
  obtain ⟨x0, hn0, hc0⟩ := hel 0 (by decide)
  obtain ⟨x1, hn1, hc1⟩ := hel 1 (by decide)
  obtain ⟨x2, hn2, hc2⟩ := hel 2 (by decide)
  have HB3 := Lib.hid (HB2.out.trans (hb3.mono HB2.out.size))
  have hC := fun p : WIn (fun W => Below w3.heap.size w3 W) => hc0 p.w p.ok
  have hC1 := fun p : WIn (fun W => Below w3.heap.size w3 W) => hc1 p.w p.ok
  have hC2 := fun p : WIn (fun W => Below w3.heap.size w3 W) => hc2 p.w p.ok
  obtain ⟨z0, z0', z0''⟩ := x0; obtain ⟨z2, z2', z2''⟩ := x2
  have g0 := fun p => (hC p).1; have g1 := fun p => (hC p).2.1; have g2 := fun p => (hC p).2.2
  have j0 := fun p => (hC1 p).1; have j2 := fun p => (hC1 p).2.2
  have i0 := fun p => (hC2 p).1; have i1 := fun p => (hC2 p).2.1; have i2 := fun p => (hC2 p).2.2
  simp only [slV, kcF, List.getElem_cons_zero, List.getElem_cons_succ, Nat.zero_mul, Nat.add_zero, Nat.one_mul] at g0 g1 g2 j0 j2 i0 i1 i2
  have hq1 : ∀ p : WIn (fun W => Below w3.heap.size w3 W), Calls Try.prog 12 #[.slice z2 z2' z2'', .slice (some ⟨n + 1, 0, none⟩) 2 2] p.w fun e w' => e = .returned (.bool true) ∧ ∃ q : WIn (fun W => Below w3.heap.size w3 W), w' = q.w := fun p =>
    Calls.cls (C := fun W => Below w3.heap.size w3 W) ((kn_NSame (.slice z2 z2' z2'') (.slice (some ⟨n + 1, 0, none⟩) 2 2) kcN kcN true (by decide) p.w (hn2.below p.ok) (HN2.out.below (hb3.trans (p.ok.mono hb3.size))) ⟨by decide, by decide⟩ ⟨by decide, by decide⟩).mono fun _ _ ⟨hq, hb⟩ => ⟨hq, p.ok.trans (hb.mono p.ok.size)⟩)
  have hq2 : ∀ p : WIn (fun W => Below w3.heap.size w3 W), Calls Try.prog 11 #[.int .i64 3] p.w fun e w' => e = .returned (.string ⟨#[110, 111, 110, 115]⟩) ∧ ∃ q : WIn (fun W => Below w3.heap.size w3 W), w' = q.w := fun p =>
    Calls.cls (C := fun W => Below w3.heap.size w3 W) ((check_Word 3 p.w).mono fun _ _ ⟨hq, hb⟩ => ⟨hq.trans (by rfl), hb ▸ p.ok⟩)
  have hq3 : ∀ p : WIn (fun W => Below w3.heap.size w3 W), Calls Try.prog 11 #[.int .i64 0] p.w fun e w' => e = .returned (.string ⟨#[]⟩) ∧ ∃ q : WIn (fun W => Below w3.heap.size w3 W), w' = q.w := fun p =>
    Calls.cls (C := fun W => Below w3.heap.size w3 W) ((check_Word 0 p.w).mono fun _ _ ⟨hq, hb⟩ => ⟨hq.trans (by rfl), hb ▸ p.ok⟩)
  have hq4 : ∀ p : WIn (fun W => Below w3.heap.size w3 W), Calls Try.prog 10 #[.agg #[.int .i64 1, .slice z0 z0' z0'', .int .i64 6], .agg #[.int .i64 5, .slice z2 z2' z2'', .int .i64 5]] p.w fun e w' => e = .returned (.int .i64 (-1)) ∧ ∃ q : WIn (fun W => Below w3.heap.size w3 W), w' = q.w := fun p =>
    Calls.cls (C := fun W => Below w3.heap.size w3 W) ((check_Compare [.int .i64 1, .slice z0 z0' z0'', .int .i64 6] [.int .i64 5, .slice z2 z2' z2'', .int .i64 5] ⟨1, kcO, 6⟩ ⟨5, kcN, 5⟩ p.w ⟨_, rfl, hn0.below p.ok⟩ ⟨_, rfl, hn2.below p.ok⟩ ⟨by decide, by decide⟩ ⟨by decide, by decide⟩).mono fun _ _ ⟨hq, hb⟩ => ⟨hq.trans (congrArg (fun z => Ending.returned (.int .i64 z)) (by decide : compareF ⟨1, kcO, 6⟩ ⟨5, kcN, 5⟩ = -1)), p.ok.trans (hb.mono p.ok.size)⟩)
  have hne : Nonempty (WIn (fun W => Below w3.heap.size w3 W)) := ⟨⟨w3, Below.refl _ _⟩⟩
  have hcl : Below w3.heap.size w3 w3.drew := ⟨rfl, rfl, rfl, Nat.le_refl _, fun _ _ => rfl⟩
  clear hC hC1 hC2 hel hs3 hf3 hp3 ho3 hb3 hc0 hc1 hc2 hn0 hn1 hn2 hc3 HB2 HN2
  go_wp2_with fail
  refine wp_region_cls (fun W => Below w3.heap.size w3 W) follows_mixed (by kernel_rfl) hcl ?_
  repeat (go_big_quiet_step (first | with_reducible exact hq1 _ | with_reducible exact hq2 _ | with_reducible exact hq3 _ | with_reducible exact hq4 _))
  refine wpQuiet_nil ?_
  rintro W9 ⟨p9, hp9⟩
  have hok := p9.ok
  rw [← hp9] at hok
  have HF := Lib.hid (HB3.out.trans (hok.mono HB3.out.size))
  clear hp9 p9 hok g0 g1 g2 j0 j2 i0 i1 i2 hq1 hq2 hq3 hq4 hne hcl
  go_wp2
  go_ret
  exact ⟨rfl, HF.out⟩
end Go.Proofs.Ytckammgnmgkieaa
