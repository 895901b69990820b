/-
  What a put into a tree of int leaves alone: cells that hold slices or strings.
-/
import Derived.Test.YtnpnfajgphpabaaTreC
namespace Go.Proofs.Ytnpnfajgphpabaa
open Go.RowKit Go.Shelf Go.Maps Go.WideMaps
set_option maxRecDepth 20000
set_option linter.unusedVariables false
set_option linter.unusedSimpArgs false
def SV (v : Value) : Prop := (∃ a n c, v = .slice a n c) ∨ ∃ s, v = .string s
def KeepC (W W' : World) : Prop := W.heap.size ≤ W'.heap.size ∧ ∀ (b o : Nat) (v : Value), W.cell? ⟨b, o, none⟩ = some v → SV v → W'.cell? ⟨b, o, none⟩ = some v
theorem NmAt.keepC {W W' : World} {v : Value} {n : Nm} (h : NmAt W v n) (hk : KeepC W W') : NmAt W' v n := by
  obtain ⟨⟨a, c, e, hx⟩, h2⟩ := h
  refine ⟨⟨a, c, e, ?_⟩, h2⟩
  rcases hx with hx | ⟨b, off, e2, hb, hc⟩
  · exact .inl hx
  · exact .inr ⟨b, off, e2, Nat.lt_of_lt_of_le hb hk.1, fun j hj => hk.2 _ _ _ (hc j hj) (.inr ⟨_, rfl⟩)⟩
theorem NmsAt.keepC {W W' : World} {v : Value} {ys : List Nm} (h : NmsAt W v ys) (hk : KeepC W W') : NmsAt W' v ys := by
  obtain ⟨vs, ⟨a, c, e, h1, h2, hx⟩, hl, hn⟩ := h
  refine ⟨vs, ⟨a, c, e, h1, h2, ?_⟩, hl, fun j hj => (hn j hj).keepC hk⟩
  rcases hx with hx | ⟨b, off, e2, hb, hc⟩
  · exact .inl hx
  · refine .inr ⟨b, off, e2, Nat.lt_of_lt_of_le hb hk.1, fun j hj => hk.2 _ _ _ (hc j hj) ?_⟩
    obtain ⟨⟨a', c', e', _⟩, _⟩ := hn j hj
    exact .inl ⟨_, _, _, e'⟩
theorem TrM.slot {TT NT : TypeId} {W : World} {s : TreS} {more : Nat} (h : TrM TT NT (.int .i64 0) W s more) (hv : ∀ q v, s.vl q = some v → ∃ i, v = .int .i64 i) {b o : Nat} {v : Value} (hc : W.cell? ⟨b, o, none⟩ = some v) (hs : SV v) : ¬ foot s b := by
  have hbad : ∀ p j, (cellsT (.int .i64 0) s more p)[j]? = some v → False := fun p j hj => by
    have hg : ∃ i, (s.vl p).getD (.int .i64 0) = .int .i64 i := by
      cases hq : s.vl p with
      | none => exact ⟨0, rfl⟩
      | some u => obtain ⟨i, hi⟩ := hv p u hq; exact ⟨i, by rw [hi]; rfl⟩
    obtain ⟨i, hi⟩ := hg
    unfold cellsT at hj
    rw [hi] at hj
    have key : v = .map (s.mb p) ∨ v = .int .i64 i ∨ v = .bool (s.vl p).isSome ∨ v = .int .i64 (more : Int) := by
      split at hj
      · have := Array.mem_of_getElem? hj
        simp only [List.mem_toArray, List.mem_cons, List.not_mem_nil, or_false] at this
        exact this
      · have := Array.mem_of_getElem? hj
        simp only [List.mem_toArray, List.mem_cons, List.not_mem_nil, or_false] at this
        rcases this with e | e | e
        · exact .inl e
        · exact .inr (.inl e)
        · exact .inr (.inr (.inl e))
    rcases hs with ⟨_, _, _, rfl⟩ | ⟨_, rfl⟩ <;> rcases key with e | e | e | e <;> cases e
  rintro ⟨p, hp, e | e⟩
  · have hn := h.node p hp
    rw [e] at hn
    unfold World.cell? at hc
    simp only [hn] at hc
    first
      | exact hbad p _ hc
      | exact hbad p o (by simpa using hc)
  · obtain ⟨D, ⟨es, c, hb, r⟩, hD⟩ := h.kidsS p hp _ e
    unfold World.cell? at hc
    simp [hb] at hc
set_option maxHeartbeats 1000000 in
theorem tl_PutC_i {w W : World} {B : Nat} {ks : List Nm} {f : Nm → Option Value} (h : TLp 56 54 (.int .i64 0) w B ks f W) (hf : ∀ q v, f q = some v → ∃ i, v = .int .i64 i) (vn v : Value) (n : Nm) (hA : NmAt W vn n) (hk : NmOK n) (hv : ∃ i, v = .int .i64 i) (hsz : ks.length ≤ 549755813888) :
    Calls Try.prog 10 #[.pointer (some ⟨B, 0, none⟩), vn, v] W (fun e w' => (∃ x, e = .returned x) ∧ TLp 56 54 (.int .i64 0) w B (addK ks (wayN n)) (updT f (wayN n) v) w' ∧ KeepC W w') := by
  obtain ⟨s, h1, rfl, rfl, rfl, h5, h6⟩ := h
  refine (tree_Put_i s vn v n _ rfl W h1 hA hk hv hsz).mono ?_
  rintro e w' ⟨hx, s', g1, g2, g3, g4, g5, g6⟩
  refine ⟨hx, ⟨s', g1, g2, funext g3, g4, fun k hk => (g5 k hk).elim (h5 k) (fun g => Nat.le_trans h6.size g), h6.trans (g6.below h6.size h5)⟩, g6.size, fun b o u hu hs => ?_⟩
  have hb := World.block_lt_of_cell? W _ hu
  have e := g6.block b hb (h1.slot hf hu hs)
  rw [← hu]
  unfold World.cell?
  simp only [e]
theorem SV.slice (a : Option Addr) (n c : Nat) : SV (.slice a n c) := .inl ⟨a, n, c, rfl⟩
end Go.Proofs.Ytnpnfajgphpabaa
