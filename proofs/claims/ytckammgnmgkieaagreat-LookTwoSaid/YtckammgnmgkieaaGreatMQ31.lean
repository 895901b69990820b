/-
  The zone's answers (look), plainly: the case of letters does not matter.
-/
import Derived.Test.YtckammgnmgkieaaGreatMQ21
import Derived.Test.YtckammgnmgkieaaGreatMQ42
import Derived.Test.YtckammgnmgkieaaGreatMQ04
namespace Go.Proofs.YtckammgnmgkieaaGreat
set_option maxRecDepth 20000
open Go.RowKit
set_option linter.unusedVariables false
set_option linter.unusedSimpArgs false
theorem checkN_lens {a b : Nm} (h : a.map List.length = b.map List.length) : checkN a = checkN b := by
  have hc : ∀ (a b : Nm), a.map List.length = b.map List.length → checkL a = checkL b := by
    intro a
    induction a with
    | nil => intro b h; cases b with
      | nil => rfl
      | cons y t => simp at h
    | cons x r ih => intro b h; cases b with
      | nil => simp at h
      | cons y t =>
        simp only [List.map_cons, List.cons.injEq] at h
        have hx : checkLabelM x = checkLabelM y := by
          unfold checkLabelM
          have : (x = []) ↔ (y = []) := by rw [← List.length_eq_zero_iff, ← List.length_eq_zero_iff, h.1]
          simp only [this, h.1]
        unfold checkL
        rw [hx, ih t h.2]
  have hl : lenN a = lenN b := by
    unfold lenN
    have : a.map (fun x => 1 + x.length) = b.map (fun x => 1 + x.length) := by
      have e : ∀ l : Nm, l.map (fun x => 1 + x.length) = (l.map List.length).map (fun k => 1 + k) := fun l => by rw [List.map_map]; rfl
      rw [e, e, h]
    rw [this]
  unfold checkN
  rw [hc a b h, hl]
theorem anc_same {a b : Nm} (h : sameN a b = true) (s : Nat) : sameN (ancN a s) (ancN b s) = true := by
  rw [sameN_iff] at h ⊢
  have hl : a.length = b.length := by have := congrArg List.length h; rwa [foldN_len, foldN_len] at this
  unfold ancN
  unfold foldN at h ⊢
  rw [List.map_drop, List.map_drop, h, hl]
theorem deepF_same {a b : Nm} (h : sameN a b = true) (w : Nm) : ∀ (k f : Nat), deepF k a w f = deepF k b w f
  | 0, f => rfl
  | k + 1, f => by
    unfold deepF
    rw [under_sameN (anc_same h (f + 1)) , deepF_same h w k (f + 1)]
theorem same_length {a b : Nm} (h : sameN a b = true) : a.length = b.length := by
  have h := (sameN_iff _ _).1 h
  have := congrArg List.length h; rwa [foldN_len, foldN_len] at this
theorem depth_same {a b : Nm} (h : sameN a b = true) (o : Nm) (rs : List Rc) : depthM o rs a = depthM o rs b := by
  unfold depthM
  congr 1
  funext f r
  unfold deepM
  rw [same_length h, deepF_same h]
theorem exists_same {a b : Nm} (h : sameN a b = true) (o : Nm) (rs : List Rc) : existsM o rs a = existsM o rs b := by
  unfold existsM
  rw [sameN_under h, depth_same h, same_length h]
theorem enc_same {a b : Nm} (h : sameN a b = true) (o : Nm) (rs : List Rc) : sameN (encM o rs a) (encM o rs b) = true := by
  unfold encM
  rw [sameN_under h, depth_same h]
  split
  · exact anc_same h _
  · exact sameN_refl _
theorem star_same {a b : Nm} (h : sameN a b = true) (o : Nm) (rs : List Rc) : sameN (starM o rs a) (starM o rs b) = true := by
  have := (sameN_iff _ _).1 (enc_same h o rs)
  rw [sameN_iff]
  unfold starM
  unfold foldN at this ⊢
  rw [List.map_cons, List.map_cons, this]
theorem source_same {a b : Nm} (h : sameN a b = true) (o : Nm) (rs : List Rc) : sourceM o rs a = sourceM o rs b := by
  unfold sourceM
  congr 1
  funext r
  have := (sameN_iff _ _).1 (star_same h o rs)
  unfold sameN; rw [this]
theorem at_same {a b : Nm} (h : sameN a b = true) (l : List Rc) (t : Int) : atM l a t = atM l b t := by
  unfold atM
  rw [ofM_same h, ofM_same h]
theorem on_same {a b : Nm} (h : sameN a b = true) (rs : List Rc) : onM rs a = onM rs b := by
  unfold onM
  congr 1
  funext r
  exact sameN_under h _
theorem refer_same {a b : Nm} (h : sameN a b = true) (rs : List Rc) (ns : St) : sameLk (referM rs a ns) (referM rs b ns) = true := by
  simp [referM, sameLk, h, sameDsM_self, sameG_refl]
theorem rename_same {a b : Nm} (h : sameN a b = true) {s : Nat} (hs : s ≤ a.length) (d : St) : sameLk (renameM a (ancN a s) d) (renameM b (ancN b s) d) = true := by
  have hl := same_length h
  have hf := (sameN_iff _ _).1 h
  have e1 : underN a (ancN a s) = true := under_anc _ _
  have e2 : underN b (ancN b s) = true := under_anc _ _
  have l1 : (ancN a s).length = s := ancN_len hs
  have l2 : (ancN b s).length = s := ancN_len (by omega)
  have hft : foldN (a.take (a.length - s) ++ firstN d) = foldN (b.take (b.length - s) ++ firstN d) := by
    rw [foldN_append, foldN_append]
    congr 1
    unfold foldN at hf ⊢
    rw [List.map_take, List.map_take, hf, hl]
  have hck := checkN_lens (foldN_lens hft)
  unfold renameM swapN
  rw [if_pos e1, if_pos e2, l1, l2, hck]
  by_cases hz : checkN (b.take (b.length - s) ++ firstN d) = 0
  · simp only [hz, if_true, sameLk, sameDsM_self, Bool.and_true, decide_true, Bool.true_and, sameG]
    exact (sameN_iff _ _).2 hft
  · simp [hz, sameLk, sameDsM_self, sameN_refl, sameG]
theorem findSome_rel {α β : Type} {f g : α → Option β} {P : β → β → Prop} : ∀ (l : List α), (∀ x ∈ l, (f x = none ∧ g x = none) ∨ ∃ a b, f x = some a ∧ g x = some b ∧ P a b) → (l.findSome? f = none ∧ l.findSome? g = none) ∨ ∃ a b, l.findSome? f = some a ∧ l.findSome? g = some b ∧ P a b
  | [], _ => .inl ⟨rfl, rfl⟩
  | x :: r, h => by
    rw [List.findSome?_cons, List.findSome?_cons]
    rcases h x (by simp) with ⟨h1, h2⟩ | ⟨a, b, h1, h2, h3⟩
    · rw [h1, h2]; exact findSome_rel r (fun y hy => h y (by simp [hy]))
    · rw [h1, h2]; exact .inr ⟨a, b, rfl, rfl, h3⟩
theorem look_same {a b : Nm} (h : sameN a b = true) (o : Nm) (rs : List Rc) (t : Int) : sameLk (lookM o rs a t) (lookM o rs b t) = true := by
  have hl := same_length h
  unfold lookM
  rw [sameN_under h]
  split
  · exact sameLk_refl _
  · rw [find_step, find_step, ← hl]
    rcases findSome_rel (f := stepM o rs rs a) (g := stepM o rs rs b) (P := fun x y => sameLk x y = true) (List.range' o.length (a.length + 1 - o.length)) (fun s hs => by
      rw [List.mem_range'_1] at hs
      unfold stepM
      rw [ofM_same (anc_same h s), ofM_same (anc_same h s) (t := 39), ← hl]
      split
      · exact .inr ⟨_, _, rfl, rfl, refer_same (anc_same h s) _ _⟩
      · split
        · split
          · exact .inr ⟨_, _, rfl, rfl, rename_same h (by omega) _⟩
          · exact .inl ⟨rfl, rfl⟩
        · exact .inl ⟨rfl, rfl⟩) with ⟨e1, e2⟩ | ⟨x, y, e1, e2, e3⟩
    · rw [e1, e2, exists_same h, source_same h, on_same h, at_same h, at_same (star_same h o rs)]
      exact sameLk_refl _
    · rw [e1, e2]; exact e3
theorem look_folds (o : Nm) (rs : List Rc) (q : Nm) (t : Int) : sameLk (lookM o rs q t) (lookM o rs (foldN q) t) = true := look_same (sameN_fold q) o rs t
end Go.Proofs.YtckammgnmgkieaaGreat

/-
  rset.Sets once more: all that it makes lies behind what was there. (Written by wip/tools/gensetef.py.)
-/
namespace Go.Proofs.YtckammgnmgkieaaGreat
set_option maxRecDepth 20000
open Go.RowKit Go.Shelf
set_option maxRecDepth 20000
set_option linter.unusedVariables false
set_option linter.unusedSimpArgs false
def FarKeep (n : Nat) (W W' : World) : Prop := ∀ g, n ≤ g → g < W.heap.size → W'.heap[g]? = W.heap[g]?
theorem FarKeep.mono {n m : Nat} {W W' : World} (h : FarKeep n W W') (hm : n ≤ m) : FarKeep m W W' := fun g h1 h2 => h g (by omega) h2
theorem own_move {W W' : World} {base : Nat} {T : TypeId} {k n : Nat} {v : Value} {cells : List Value} (h : W.ownsRow base T k v n cells) (hf : FarKeep base W W') : W'.ownsRow base T k v n cells := by
  refine ⟨h.1, ?_⟩
  rcases h.2 with h | ⟨g, cap, cur, e, hb, hg, h2⟩
  · exact .inl h
  · exact .inr ⟨g, cap, cur, e, hb, (hf g hb (kblock_lt hg)).trans hg, h2⟩
theorem OwnK.move {α : Type} {k : Nat} {T : TypeId} {enc : α → List Value} {W W' : World} {base : Nat} {v : Value} {xs : List α} (h : OwnK k T enc W base v xs) (hf : FarKeep base W W') : OwnK k T enc W' base v xs := own_move h hf
theorem OwnG.move {α : Type} {T : TypeId} {enc : α → Value} {W W' : World} {base : Nat} {v : Value} {xs : List α} (h : OwnG T enc W base v xs) (hf : FarKeep base W W') : OwnG T enc W' base v xs := own_move h hf
theorem FrAt.move {W W' : World} {base : Nat} {cs : List Value} {r : Rc} (h : FrAt W base cs r) (hf : FarKeep base W W') : FrAt W' base cs r := by
  obtain ⟨vo, vn, vu, vt, vr, e, h1, ⟨⟨vs, k1, k2, k3⟩, i1, i2, i3⟩⟩ := h
  exact ⟨vo, vn, vu, vt, vr, e, h1.move hf, ⟨⟨vs, k1.move hf, k2, fun i a b => (k3 i a b).move hf⟩, i1.move hf, i2.move hf, i3.move hf⟩⟩
section
attribute [local go_sem] Oper.semAt_some
end
end Go.Proofs.YtckammgnmgkieaaGreat

/-
  Plain facts for law6.SetsAll.
-/
namespace Go.Proofs.YtckammgnmgkieaaGreat
set_option maxRecDepth 20000
open Go.RowKit Go.Shelf
set_option maxRecDepth 20000
set_option linter.unusedVariables false
theorem sets_ok {l : List Rc} {s : St} (hl : ∀ r ∈ l, RcOK r) (h : s ∈ setsM (canonM l)) : NmOK s.owner ∧ ∀ d ∈ s.data, DatOK d := by
  obtain ⟨y, r, e1, e2, e3⟩ := sets_filter _ _ (Nat.le_refl _) (canonM_can l).up s h
  have hc := canonM_ok' l hl
  have hyr : ∀ z ∈ y :: r, RcOK z := fun z hz => hc z (by
    have : z ∈ (canonM l).filter (belM s.owner s.ty) := by rw [e3]; exact hz
    exact (List.mem_filter.1 this).1)
  rw [e1]
  refine ⟨(hyr y (by simp)).1, fun d hd => ?_⟩
  simp only [stR, List.mem_cons, List.mem_map] at hd
  rcases hd with rfl | ⟨z, hz, rfl⟩
  · exact (hyr y (by simp)).2.2
  · exact (hyr z (by simp [hz])).2.2
end Go.Proofs.YtckammgnmgkieaaGreat

