/-
  TreePlays: the contracts as its walk takes them.
-/
import Derived.Test.YtnpnfajgphpabaaTreC2
import Derived.Test.YtnpnfajgphpabaaMQ14
namespace Go.Proofs.Ytnpnfajgphpabaa
open Go.RowKit Go.Shelf Go.Maps Go.WideMaps
set_option maxRecDepth 20000
set_option linter.unusedVariables false
set_option linter.unusedSimpArgs false
theorem NmsAt.at {W : World} {a0 : Option Addr} {m c0 : Nat} {ns : List Nm} (h : NmsAt W (.slice a0 m c0) ns) {j : Nat} (hj : j < ns.length) : ∃ g off : Nat, a0 = some ⟨g, off, none⟩ ∧ ∃ (a : Option Addr) (n c' : Nat), W.cell? ⟨g, off + j, none⟩ = some (.slice a n c') ∧ NmAt W (.slice a n c') ns[j] ∧ n = (ns[j]).length := by
  obtain ⟨vs, ⟨a, c, e, h1, h2, hx⟩, hl, hn⟩ := h
  injection e with e1 e2 e3
  subst e1
  rcases hx with hx | ⟨b, off, rfl, hb, hc⟩
  · subst hx; simp at hl; omega
  · have hjv : j < vs.length := by omega
    have hnj := hn j hjv
    obtain ⟨⟨a', c', e', _⟩, _⟩ := id hnj
    refine ⟨b, off, rfl, a', _, c', by rw [hc j hjv, e'], ?_, rfl⟩
    rw [← e']; exact hnj
theorem NmsAt.len {W : World} {a0 : Option Addr} {m c0 : Nat} {ns : List Nm} (h : NmsAt W (.slice a0 m c0) ns) : m = ns.length := by
  obtain ⟨vs, ⟨a, c, e, _⟩, hl, _⟩ := h
  injection e with e1 e2 e3
  omega
theorem NmsAt.shape {W : World} {v : Value} {ns : List Nm} (h : NmsAt W v ns) : ∃ a m c, v = .slice a m c := by
  obtain ⟨vs, ⟨a, c, e, _⟩, hl, _⟩ := h
  exact ⟨a, _, c, e⟩
theorem nms_root (W : World) (T : TypeId) : NmsAt (W.alloc (.cells #[.slice none 0 0] T)) (.slice (some ⟨W.heap.size, 0, none⟩) 1 1) [[]] := by
  refine ⟨[.slice none 0 0], ⟨_, 1, rfl, Nat.le_refl _, (fun e => by cases e), .inr ⟨W.heap.size, 0, rfl, by simp, fun j hj => ?_⟩⟩, rfl, fun j hj => ?_⟩
  · obtain rfl : j = 0 := by simpa using hj
    exact kcell (knew W _) 0 _ rfl
  · obtain rfl : j = 0 := by simpa using hj
    exact nm_nil _
theorem tl_Names_i {w W : World} {B : Nat} {ks ys : List Nm} {f : Nm → Option Value} (h : TLp 56 54 (.int .i64 0) w B ks f W) (ha : AllOK ks ys) (hsz : ks.length ≤ 1048576) :
    Calls Try.prog 12 #[.pointer (some ⟨B, 0, none⟩)] W (fun e w' => ∃ v, e = .returned v ∧ NmsAt w' v ys ∧ Below W.heap.size W w') := by
  obtain ⟨s, h1, rfl, rfl, rfl, h5, h6⟩ := h
  have hok := h1.ok
  refine (tree_Names_i s _ W h1 hsz (fun p hp => ?_)).mono ?_
  · have hf := fold_of_rev hok hp
    have := (ha.2.1 _ ((ha.2.2 _ hf).2 (by rw [List.reverse_reverse]; exact hp))).2
    exact ⟨by have := this.1; rwa [List.length_reverse] at this, fun l hl => this.2 l (by simpa using hl)⟩
  · rintro e w' ⟨v, xs, rfl, hx, ho, hn, hb⟩
    refine ⟨v, rfl, ?_, hb⟩
    have hy : ys = xs.map (fun x => x.2.reverse) := by
      have h1 := ha.srt hok
      rw [← hx] at h1
      have h2 := congrArg (List.map List.reverse) h1
      rw [List.map_map, List.map_map] at h2
      rw [show (List.reverse ∘ List.reverse : Nm → Nm) = id from by funext x; simp, List.map_id] at h2
      exact h2
    refine ⟨xs.map elH, SlAt.of_own ho, by rw [hy, List.length_map, List.length_map], fun j hj => ?_⟩
    rw [List.length_map] at hj
    simp only [hy, List.getElem_map]
    exact (hn _ (List.getElem_mem hj)).nm
theorem kidsPost_is {ks : List Nm} {p : Nm} {K : List (List UInt8)} {W w' : World} {e : Ending} (hk : TreeOK ks) (h : KidsPost ks p W e w') (hK : KidsOf ks p K) : ∃ v, e = .returned v ∧ SlAt w' v (K.map strV) ∧ Below W.heap.size W w' := by
  rcases h with ⟨_, v, ss, rfl, hs, _, ho, hb⟩ | ⟨hn, rfl, hb⟩
  · obtain rfl := kidsOf_uniq hs hK
    exact ⟨v, rfl, SlAt.of_own ho, hb⟩
  · have : K = [] := by
      cases K with
      | nil => rfl
      | cons l r => exact absurd (hk.pre [l] p ((hK.mem l).1 (by simp))) hn
    subst this
    exact ⟨_, rfl, SlAt.nil _, hb⟩
theorem same_in {ks ys : List Nm} {q : Nm} (ha : AllOK ks ys) : (∃ y ∈ ys, sameN y q = true) ↔ wayN q ∈ ks := by
  constructor
  · rintro ⟨y, hy, hs⟩
    have hf := (ha.2.1 y hy).1
    rw [← wayN_eq.2 hs]
    have := (ha.2.2 y hf).1 hy
    unfold wayN; rw [hf]; exact this
  · intro h
    refine ⟨foldN q, (ha.2.2 _ (foldN_idem q)).2 h, ?_⟩
    rw [sameN_iff, foldN_idem]
/-- What q's value is to be. -/
def WantI (l : List Nm) (q : Nm) (i : Nat) (r : Int) (f : Nm → Option Value) : Prop := (r = -1 ∧ f (wayN q) = none) ∨ ∃ j : Nat, r = (j : Int) ∧ j < i ∧ f (wayN q) = some (.int .i64 (j : Int))
theorem KidsI.small {ks ys : List Nm} {q : Nm} {K : List (List UInt8)} (ha : AllOK ks ys) (h : KidsI q ys K) : ∀ x ∈ K, x.length ≤ 1048576 := by
  intro x hx
  rw [h, List.mem_filterMap] at hx
  obtain ⟨y, hy, he⟩ := hx
  split at he
  · exact (ha.2.1 y hy).2.2 x (List.mem_of_mem_head? he)
  · cases he
def OnI (b : Bool) (q : Nm) (l : List Nm) : Prop := b = true ↔ ∃ z ∈ l, sameN z q = true
theorem OnI.start (q : Nm) : OnI false q [] := by simp [OnI]
theorem OnI.more {l : List Nm} {y q : Nm} {b : Bool} (h : OnI b q l) : OnI (b || sameN y q) q (l ++ [y]) := by
  unfold OnI at *
  rw [Bool.or_eq_true, h]
  constructor
  · rintro (⟨z, h1, h2⟩ | h1)
    · exact ⟨z, by simp [h1], h2⟩
    · exact ⟨y, by simp, h1⟩
  · rintro ⟨z, h1, h2⟩
    rcases List.mem_append.1 h1 with h1 | h1
    · exact .inl ⟨z, h1, h2⟩
    · rw [List.mem_singleton.1 h1] at h2; exact .inr h2
theorem OnI.done {ks ys : List Nm} {q : Nm} {b : Bool} (ha : AllOK ks ys) (h : OnI b q ys) : decide (wayN q ∈ ks) = b := by
  unfold OnI at h
  rw [same_in ha] at h
  cases b with
  | true => exact decide_eq_true (h.1 rfl)
  | false => exact decide_eq_false (fun hh => by have := h.2 hh; cases this)
theorem DeepW.okN {ks ys : List Nm} {q d : Nm} (ha : AllOK ks ys) (h : DeepW q ys d) : NmOK d := by
  rcases h.1 with e | e
  · rw [e]; simp [NmOK]
  · exact (ha.2.1 d e).2
theorem slAt_cellN {W W' : World} {a : Option Addr} {n c : Nat} {xs : List Value} (h : SlAt W (.slice a n c) xs) (hb : Below W.heap.size W W') (j : Nat) (hj : j < xs.length) : ∃ b off : Nat, a = some ⟨b, off, none⟩ ∧ b < W.heap.size ∧ W'.cell? ⟨b, off + j, none⟩ = some xs[j] := by
  obtain ⟨a', c', e, h1, h2, h⟩ := h
  injection e with e1 e2 e3
  subst e1
  rcases h with h | ⟨b, off, rfl, hlt, hc⟩
  · subst h; simp at hj
  · exact ⟨b, off, rfl, hlt, (hb.cell (p := ⟨b, off + j, none⟩) hlt).trans (hc j hj)⟩
theorem slAt_len {W : World} {a : Option Addr} {n c : Nat} {xs : List Value} (h : SlAt W (.slice a n c) xs) : n = xs.length := by
  obtain ⟨a', c', e, _⟩ := h
  injection e
theorem slAt_shape {W : World} {v : Value} {xs : List Value} (h : SlAt W v xs) : ∃ a n c, v = .slice a n c := by
  obtain ⟨a', c', e, _⟩ := h
  exact ⟨_, _, _, e⟩
theorem oneV_map (K : List (List UInt8)) (x : List UInt8) : oneV ((K ++ [x]).map strV) = oneV (K.map strV) ++ oneV [strV x] := by unfold oneV; simp
theorem oneV_str (K : List (List UInt8)) : ∀ cs ∈ oneV (K.map strV), ∀ u ∈ cs, u.oneCell' = true := oneV_cell (fun x hx => by
  obtain ⟨y, _, rfl⟩ := List.mem_map.1 hx; rfl)
theorem nm_head {W : World} {a : Option Addr} {n c : Nat} {x : List UInt8} {y : Nm} (h : NmAt W (.slice a n c) (x :: y)) : ∃ g off : Nat, a = some ⟨g, off, none⟩ ∧ W.cell? ⟨g, off, none⟩ = some (strV x) := by
  obtain ⟨⟨a', c', e, hx⟩, _⟩ := h
  injection e with e1 e2 e3
  subst e1
  rcases hx with hx | ⟨b, off, rfl, hb, hc⟩
  · cases hx
  · exact ⟨b, off, rfl, hc 0 (by simp)⟩
theorem elem_str1 : ElemK 1 9 23 16 := ⟨Try.underlying23, _, _, rfl, rfl, rfl, rfl, rfl⟩
end Go.Proofs.Ytnpnfajgphpabaa
