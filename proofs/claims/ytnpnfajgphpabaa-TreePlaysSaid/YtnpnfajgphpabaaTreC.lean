/-
  TreePlays' plain half: the document's row of names and the tree's ways; what a put leaves alone.
-/
import Derived.Test.YtnpnfajgphpabaaTreAd
namespace Go.Proofs.Ytnpnfajgphpabaa
open Go.RowKit Go.Shelf Go.Maps Go.WideMaps
set_option maxRecDepth 20000
set_option linter.unusedVariables false
set_option linter.unusedSimpArgs false
def AllOK (ks ys : List Nm) : Prop := SortedN ys ∧ (∀ y ∈ ys, foldN y = y ∧ NmOK y) ∧ ∀ x, foldN x = x → (x ∈ ys ↔ x.reverse ∈ ks)
theorem AllOK.start : AllOK [[]] [[]] := ⟨by simp [SortedN], by intro y hy; rw [List.mem_singleton.1 hy]; exact ⟨rfl, by simp [NmOK]⟩, fun x _ => by simp⟩
theorem fold_of_rev {ks : List Nm} (h : TreeOK ks) {p : Nm} (hp : p ∈ ks) : foldN p.reverse = p.reverse := by rw [foldN_rev, h.fold p hp]
theorem AllOK.step {ks ys ys' : List Nm} {n f : Nm} (hf : foldN n = f) (hk : TreeOK ks) (h : AllOK ks ys) (ha : AddI ys f (f.length + 1) ys') : AllOK (addK ks (wayN n)) ys' := by
  obtain ⟨a1, a2, a3, a4⟩ := ha
  refine ⟨a1, a2, fun x hx => ?_⟩
  rw [a3, mem_addK hk.root, h.2.2 x hx]
  have hw : wayN n = f.reverse := by unfold wayN; rw [hf]
  rw [hw, List.reverse_prefix]
  refine or_congr Iff.rfl ⟨?_, fun hs => ?_⟩
  · rintro ⟨j, _, rfl⟩; exact List.drop_suffix j f
  · exact ⟨f.length - x.length, by omega, (List.suffix_iff_eq_drop).1 hs⟩
theorem AllOK.closed {ks ys : List Nm} (hk : TreeOK ks) (h : AllOK ks ys) : ∀ x ∈ ys, ∀ j, x.drop j ∈ ys := by
  intro x hx j
  have hf := (h.2.1 x hx).1
  have hin := (h.2.2 x hf).1 hx
  refine (h.2.2 _ (by rw [foldN_drop, hf])).2 ?_
  rw [List.reverse_drop]
  exact hk.take hin _
theorem AllOK.srt {ks ys : List Nm} (hk : TreeOK ks) (h : AllOK ks ys) : ys.map List.reverse = srtT ks := by
  refine srt_is hk (List.pairwise_map.2 h.1) fun x => ?_
  rw [List.mem_map]
  constructor
  · rintro ⟨y, hy, rfl⟩; exact (h.2.2 y (h.2.1 y hy).1).1 hy
  · intro hx
    exact ⟨x.reverse, (h.2.2 _ (fold_of_rev hk hx)).2 (by rw [List.reverse_reverse]; exact hx), List.reverse_reverse _⟩
theorem AllOK.len {ks ys : List Nm} (hk : TreeOK ks) (h : AllOK ks ys) : ys.length = ks.length := by
  have := congrArg List.length (h.srt hk)
  rw [List.length_map, srtT_len] at this; exact this
/-- The deepest name that q is at or below, among the first ones. -/
def DeepW (q : Nm) (l : List Nm) (d : Nm) : Prop := (d = [] ∨ d ∈ l) ∧ underN q d = true ∧ ∀ y ∈ l, underN q y = true → y.length ≤ d.length
theorem under_nil (q : Nm) : underN q [] = true := by rw [underN_iff]; exact ⟨foldN q, by simp [foldN]⟩
theorem DeepW.start (q : Nm) : DeepW q [] [] := ⟨.inl rfl, under_nil q, by simp⟩
theorem DeepW.take {q : Nm} {l : List Nm} {d y : Nm} (h : DeepW q l d) (hy : underN q y = true) (hl : d.length ≤ y.length) : DeepW q (l ++ [y]) y :=
  ⟨.inr (by simp), hy, fun z hz hu => by
    rcases List.mem_append.1 hz with hz | hz
    · exact Nat.le_trans (h.2.2 z hz hu) hl
    · rw [List.mem_singleton.1 hz]; exact Nat.le_refl _⟩
theorem DeepW.leave {q : Nm} {l : List Nm} {d y : Nm} (h : DeepW q l d) (hy : underN q y = true → y.length ≤ d.length) : DeepW q (l ++ [y]) d :=
  ⟨h.1.imp id (fun h => by simp [h]), h.2.1, fun z hz hu => by
    rcases List.mem_append.1 hz with hz | hz
    · exact h.2.2 z hz hu
    · rw [List.mem_singleton.1 hz] at hu ⊢; exact hy hu⟩
theorem under_drop {q d : Nm} (h : underN q d = true) (hd : foldN d = d) : d = foldN (q.drop (q.length - d.length)) ∧ d.length ≤ q.length := by
  obtain ⟨p, hp⟩ := (underN_iff _ _).1 h
  have hl := congrArg List.length hp
  rw [List.length_append, foldN_len, foldN_len] at hl
  refine ⟨?_, by omega⟩
  rw [foldN_drop, hp, hd, List.drop_append_of_le_length (by omega), show q.length - d.length = p.length by omega, List.drop_length, List.nil_append]
theorem DeepW.done {ks ys : List Nm} {q d : Nm} {k : Nat} (hk : TreeOK ks) (ha : AllOK ks ys) (h : DeepW q ys d) (hd : DeepAt ks (wayN q) k) : sameN (foldN (q.drop (q.length - k))) d = true := by
  have hfd : foldN d = d := by
    rcases h.1 with e | e
    · rw [e]; rfl
    · exact (ha.2.1 d e).1
  obtain ⟨e1, e2⟩ := under_drop h.2.1 hfd
  have hkq : k ≤ q.length := by have := hd.1; rw [wayN_len] at this; exact this
  have hw : wayN d = (wayN q).take d.length := by
    have := wayN_deep q d.length e2
    rwa [← e1] at this
  have hdin : (wayN q).take d.length ∈ ks := by
    rw [← hw]
    rcases h.1 with e | e
    · rw [e]; exact hk.root
    · have := (ha.2.2 d hfd).1 e
      unfold wayN; rw [hfd]; exact this
  have h1 := hd.2.2 d.length (by rw [wayN_len]; exact e2) hdin
  have hin : foldN (q.drop (q.length - k)) ∈ ys := by
    refine (ha.2.2 _ (foldN_idem _)).2 ?_
    rw [← foldN_idem]
    show wayN _ ∈ ks
    rw [wayN_deep q k hkq]; exact hd.2.1
  have h2 := h.2.2 _ hin (under_deep q k)
  rw [foldN_len, List.length_drop] at h2
  have hkd : k = d.length := by omega
  subst hkd
  rw [sameN_iff, ← e1]
/-- The labels right below q, among the first names. -/
def KidsI (q : Nm) (l : List Nm) (K : List (List UInt8)) : Prop := K = l.filterMap fun y => if y.length = q.length + 1 ∧ underN y q = true then y.head? else none
theorem KidsI.start (q : Nm) : KidsI q [] [] := rfl
theorem KidsI.take {q : Nm} {l : List Nm} {K : List (List UInt8)} {x : List UInt8} {y : Nm} (h : KidsI q l K) (h1 : (x :: y).length = q.length + 1) (h2 : underN (x :: y) q = true) : KidsI q (l ++ [x :: y]) (K ++ [x]) := by
  unfold KidsI at *
  rw [List.filterMap_append, ← h]
  simp only [List.filterMap_cons, List.filterMap_nil]
  rw [if_pos ⟨h1, h2⟩]; rfl
theorem KidsI.leave {q : Nm} {l : List Nm} {K : List (List UInt8)} {y : Nm} (h : KidsI q l K) (hn : ¬ (y.length = q.length + 1 ∧ underN y q = true)) : KidsI q (l ++ [y]) K := by
  unfold KidsI at *
  rw [List.filterMap_append, ← h]
  simp only [List.filterMap_cons, List.filterMap_nil]
  rw [if_neg hn]; simp
theorem kid_name {q y : Nm} (h1 : y.length = q.length + 1) (h2 : underN y q = true) (hf : foldN y = y) : ∃ x, y = x :: foldN q := by
  obtain ⟨p, hp⟩ := (underN_iff _ _).1 h2
  rw [hf] at hp
  have hl := congrArg List.length hp
  rw [List.length_append, foldN_len] at hl
  obtain ⟨x, rfl⟩ := List.length_eq_one_iff.1 (show p.length = 1 by omega)
  exact ⟨x, hp⟩
theorem KidsI.len {q : Nm} {l : List Nm} {K : List (List UInt8)} (h : KidsI q l K) : K.length ≤ l.length := by
  rw [h]; exact List.length_filterMap_le _ _
theorem KidsI.done {ks ys : List Nm} {q : Nm} {K : List (List UInt8)} (hk : TreeOK ks) (ha : AllOK ks ys) (h : KidsI q ys K) : KidsOf ks (wayN q) K := by
  have mem : ∀ x, x ∈ K ↔ x :: foldN q ∈ ys := fun x => by
    rw [h, List.mem_filterMap]
    constructor
    · rintro ⟨y, hy, he⟩
      split at he
      · rename_i hc
        obtain ⟨z, e⟩ := kid_name hc.1 hc.2 (ha.2.1 y hy).1
        rw [e, List.head?_cons] at he
        injection he with he
        rw [← he, ← e]; exact hy
      · cases he
    · intro hy
      refine ⟨_, hy, ?_⟩
      rw [if_pos ⟨by simp [foldN], by rw [underN_iff]; exact ⟨[foldL x], by
        show foldL x :: foldN (foldN q) = _
        rw [foldN_idem]; rfl⟩⟩]; rfl
  refine ⟨fun x => ?_, ?_⟩
  · rw [mem]
    have hw : (x :: foldN q).reverse = wayN q ++ [x] := by unfold wayN; rw [List.reverse_cons]
    constructor
    · intro hy
      rw [← hw]; exact (ha.2.2 _ (ha.2.1 _ hy).1).1 hy
    · intro hin
      have hf := fold_of_rev hk hin
      rw [← hw, List.reverse_reverse] at hf
      exact (ha.2.2 _ hf).2 (by rw [hw]; exact hin)
  · have hs := ha.1
    rw [h]
    refine List.pairwise_filterMap.2 (hs.imp_of_mem ?_)
    intro a b ha' hb' hab x hx y hy
    split at hx
    · rename_i c1
      split at hy
      · rename_i c2
        obtain ⟨z1, e1⟩ := kid_name c1.1 c1.2 (ha.2.1 a ha').1
        obtain ⟨z2, e2⟩ := kid_name c2.1 c2.2 (ha.2.1 b hb').1
        rw [e1, List.head?_cons] at hx
        rw [e2, List.head?_cons] at hy
        injection hx with hx
        injection hy with hy
        subst hx; subst hy
        rw [e1, e2] at hab
        unfold compareN at hab
        rw [List.reverse_cons, List.reverse_cons] at hab
        by_cases hz : compareM z1 z2 = 0
        · exfalso
          have : cmpR ((foldN q).reverse ++ [z1]) ((foldN q).reverse ++ [z2]) = 0 := by
            have hf1 := (ha.2.1 a ha').1
            have hf2 := (ha.2.1 b hb').1
            rw [e1] at hf1; rw [e2] at hf2
            have q1 : foldL z1 = z1 := by injection hf1
            have q2 : foldL z2 = z2 := by injection hf2
            have := (compareM_zero _ _).1 hz
            rw [q1, q2] at this
            subst this
            exact (cmpR_zero _ _).2 rfl
          omega
        · rw [cmpR_fork _ _ _ _ _ hz] at hab; exact hab
      · cases hy
    · cases hx
end Go.Proofs.Ytnpnfajgphpabaa
