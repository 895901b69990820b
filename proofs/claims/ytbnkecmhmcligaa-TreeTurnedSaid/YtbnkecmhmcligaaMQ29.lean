/-
  Trees of bool for the laws: what is kept from call to call, a contract for each.
-/
import Derived.Test.YtbnkecmhmcligaaMQ32
import Derived.Test.YtbnkecmhmcligaaMQ15
import Derived.Test.YtbnkecmhmcligaaMQ16
import Derived.Test.YtbnkecmhmcligaaMQ19
import Derived.Test.YtbnkecmhmcligaaMQ39
namespace Go.Proofs.Ytbnkecmhmcligaa
set_option linter.unusedVariables false
set_option linter.unusedSimpArgs false
set_option maxRecDepth 20000
open Go.RowKit Go.Shelf Go.Maps Go.WideMaps
set_option maxRecDepth 20000
theorem tl_New_b (w W : World) (hb : Below w.heap.size w W) : Calls Try.prog 5 #[] W (fun e w' => ∃ B, e = .returned (.pointer (some ⟨B, 0, none⟩)) ∧ TLp 45 43 (.bool false) w B [[]] (fun _ => none) w' ∧ Below W.heap.size W w') := by
  refine (tree_New_b W).mono ?_
  rintro e w' ⟨s, rfl, h1, h2, h3, h4, h5⟩
  exact ⟨_, rfl, ⟨s, h1, h2, funext h3, rfl, fun k hk => Nat.le_trans hb.size (h4 k hk), hb.trans (h5.mono hb.size)⟩, h5⟩
theorem tl_Put_b {w W : World} {B : Nat} {ks : List Nm} {f : Nm → Option Value} (h : TLp 45 43 (.bool false) w B ks f W) (vn v : Value) (n : Nm) (hA : NmAt W vn n) (hk : NmOK n) (hv : ∃ x, v = .bool x) (hsz : ks.length ≤ 549755813888) :
    Calls Try.prog 7 #[.pointer (some ⟨B, 0, none⟩), vn, v] W (fun e w' => (∃ x, e = .returned x) ∧ TLp 45 43 (.bool false) w B (addK ks (wayN n)) (updT f (wayN n) v) w' ∧ KeepTr 45 43 W w') := by
  obtain ⟨s, h1, rfl, rfl, rfl, h5, h6⟩ := h
  refine (tree_Put_b s vn v n _ rfl W h1 hA hk hv hsz).mono ?_
  rintro e w' ⟨hx, s', g1, g2, g3, g4, g5, g6⟩
  exact ⟨hx, ⟨s', g1, g2, funext g3, g4, fun k hk => (g5 k hk).elim (h5 k) (fun g => Nat.le_trans h6.size g), h6.trans (g6.below h6.size h5)⟩, g6.size, fun k o ho hn => g6.keep h1 ho hn⟩
theorem tl_Len_b {w W : World} {B : Nat} {ks : List Nm} {f : Nm → Option Value} (h : TLp 45 43 (.bool false) w B ks f W) (hsz : ks.length ≤ 549755813888) :
    Calls Try.prog 9 #[.pointer (some ⟨B, 0, none⟩)] W (fun e w' => e = .returned (.int .i64 (ks.length : Int)) ∧ w' = W) := by
  obtain ⟨s, h1, rfl, rfl, rfl, h5, h6⟩ := h
  exact tree_Len_b s W h1 hsz
theorem tl_Kids_b {w W : World} {B : Nat} {ks : List Nm} {f : Nm → Option Value} (h : TLp 45 43 (.bool false) w B ks f W) (vn : Value) (n : Nm) (hA : NmAt W vn n) (hk : NmOK n) (hsz : ks.length ≤ 549755813888) :
    Calls Try.prog 11 #[.pointer (some ⟨B, 0, none⟩), vn] W (KidsPost ks (wayN n) W) := by
  obtain ⟨s, h1, rfl, rfl, rfl, h5, h6⟩ := h
  exact tree_Kids_b s _ vn n W h1 hA hk hsz
end Go.Proofs.Ytbnkecmhmcligaa

/-
  The laws of trees: the ways put by a list of names; names of an argument as a loop has them.
-/
namespace Go.Proofs.Ytbnkecmhmcligaa
set_option linter.unusedVariables false
set_option linter.unusedSimpArgs false
set_option maxRecDepth 20000
open Go.RowKit Go.Shelf Go.Maps Go.WideMaps
set_option maxRecDepth 20000
theorem snoc_ind {α : Type} {P : List α → Prop} (h0 : P []) (h1 : ∀ l a, P l → P (l ++ [a])) (l : List α) : P l := by
  rw [← List.reverse_reverse l]
  induction l.reverse with
  | nil => exact h0
  | cons a t ih => rw [List.reverse_cons]; exact h1 _ _ ih
/-- The ways of a new tree behind these names put in turn. -/
def ksOf (l : List Nm) : List Nm := l.foldl (fun ks n => addK ks (wayN n)) [[]]
theorem ksOf_nil : ksOf [] = [[]] := rfl
theorem ksOf_snoc (l : List Nm) (n : Nm) : ksOf (l ++ [n]) = addK (ksOf l) (wayN n) := by unfold ksOf; rw [List.foldl_append]; rfl
theorem ksOf_succ {l : List Nm} {k : Nat} (h : k < l.length) : ksOf (l.take (k + 1)) = addK (ksOf (l.take k)) (wayN l[k]) := by rw [List.take_succ_eq_append_getElem h, ksOf_snoc]
theorem ksOf_len : ∀ (l : List Nm), (∀ n ∈ l, n.length ≤ 20) → (ksOf l).length ≤ 1 + 20 * l.length := by
  refine snoc_ind ?_ ?_
  · intro _; simp [ksOf]
  · intro l n ih h
    rw [ksOf_snoc]
    have h1 := ih (fun x hx => h x (by simp [hx]))
    have h2 := h n (by simp)
    have h3 := addK_len (ksOf l) (wayN n)
    rw [wayN_len] at h3
    rw [List.length_append, List.length_singleton]
    omega
theorem fewN_len20 {n : Nm} (h : fewN n = true) : n.length ≤ 140 := by
  unfold fewN at h; have := of_decide_eq_true h; exact this.1
theorem NmOK.drop {n : Nm} (h : NmOK n) (k : Nat) : NmOK (n.drop k) := ⟨by rw [List.length_drop]; have := h.1; omega, fun x hx => h.2 x (List.mem_of_mem_drop hx)⟩
theorem NmOK.fold {n : Nm} (h : NmOK n) : NmOK (foldN n) := ⟨by rw [foldN_len]; exact h.1, fun x hx => by
  obtain ⟨y, hy, rfl⟩ := List.mem_map.1 hx
  rw [foldL_len]; exact h.2 y hy⟩
/-- The j-th name of an argument, as a loop's region loads it. -/
theorem NmsArg.at {W : World} {a0 : Option Addr} {m c0 : Nat} {ns : List Nm} (h : NmsArg W (.slice a0 m c0) ns) {j : Nat} (hj : j < ns.length) : ∃ g off : Nat, a0 = some ⟨g, off, none⟩ ∧ m = ns.length ∧ g < W.heap.size ∧ ∃ (a : Option Addr) (n c' : Nat), W.cell? ⟨g, off + j, none⟩ = some (.slice a n c') ∧ NmArg W (.slice a n c') ns[j] ∧ n = (ns[j]).length := by
  obtain ⟨g, off, c, a, n, c', e, hg, hc, hn⟩ := h.get hj
  injection e with e1 e2 e3
  exact ⟨g, off, e1, e2, hg, a, n, c', hc, hn, nmc_len hn.1⟩
theorem NmsArg.len' {W : World} {a0 : Option Addr} {m c0 : Nat} {ns : List Nm} (h : NmsArg W (.slice a0 m c0) ns) : m = ns.length := by
  obtain ⟨a, c, e⟩ := h.len
  injection e
theorem NmsArg.max {W : World} {v : Value} {ns : List Nm} (h : NmsArg W v ns) : True := trivial
theorem addK_root {ks : List Nm} (p : Nm) (h : [] ∈ ks) : [] ∈ addK ks p := (mem_addK h).2 (.inl h)
theorem ksOf_root (l : List Nm) : [] ∈ ksOf l := by
  refine snoc_ind (P := fun l => [] ∈ ksOf l) ?_ ?_ l
  · simp [ksOf]
  · intro l n ih; rw [ksOf_snoc]; exact addK_root _ ih
theorem mem_ksOf {l : List Nm} {q : Nm} : q ∈ ksOf l ↔ q = [] ∨ ∃ n ∈ l, q <+: wayN n := by
  refine snoc_ind (P := fun l => q ∈ ksOf l ↔ q = [] ∨ ∃ n ∈ l, q <+: wayN n) ?_ ?_ l
  · simp [ksOf]
  · intro l n ih
    rw [ksOf_snoc, mem_addK (ksOf_root l), ih]
    constructor
    · rintro ((h | ⟨m, h1, h2⟩) | h)
      · exact .inl h
      · exact .inr ⟨m, by simp [h1], h2⟩
      · exact .inr ⟨n, by simp, h⟩
    · rintro (h | ⟨m, h1, h2⟩)
      · exact .inl (.inl h)
      · rcases List.mem_append.1 h1 with h1 | h1
        · exact .inl (.inr ⟨m, h1, h2⟩)
        · rw [List.mem_singleton.1 h1] at h2; exact .inr h2
/-- What the deepest name that a tree has is. -/
theorem wayN_deep (q : Nm) (d : Nat) (hd : d ≤ q.length) : wayN (foldN (q.drop (q.length - d))) = (wayN q).take d := by
  rw [← wayN_take q d hd]
  unfold wayN
  rw [foldN_rev, List.reverse_reverse, foldN_take, foldN_rev, foldN_idem]
theorem wayN_drop (q : Nm) (d : Nat) (hd : d ≤ q.length) : wayN (q.drop (q.length - d)) = (wayN q).take d := by
  rw [← wayN_deep q d hd]; unfold wayN; rw [foldN_idem]
theorem under_deep (q : Nm) (d : Nat) : underN q (foldN (q.drop (q.length - d))) = true := by
  rw [underN_iff]
  refine ⟨(foldN q).take (q.length - d), ?_⟩
  rw [foldN_idem, foldN_drop, List.take_append_drop]
end Go.Proofs.Ytbnkecmhmcligaa

