/-
  Words of a zone's text: plain facts for TokBrackets.
-/
import Derived.Test.YtlgbdbaacjahpaaTokB
namespace Go.Proofs.Ytlgbdbaacjahpaa
set_option maxRecDepth 20000
set_option linter.unusedVariables false

def sepB (b : Bool) : List UInt8 := if b then [32, 59, 32, 121, 10] else [32]
def tB : List (List UInt8 × Bool) → List UInt8
  | [] => []
  | p :: r => p.1 ++ (sepB p.2 ++ tB r)
theorem tB_snoc (p : List UInt8 × Bool) : ∀ l : List (List UInt8 × Bool), tB (l ++ [p]) = tB l ++ (p.1 ++ sepB p.2) := by
  intro l
  induction l with
  | nil => simp [tB]
  | cons q l ih => rw [List.cons_append, tB, tB, ih]; simp
def stF (f : Bool) (cur : List TW) : KS := ⟨[], 1, false, cur, true, [1], f, false, false, [], false, false, false⟩
theorem take_stF {n : Nat} {c : UInt8} (f : Bool) (cur : List TW) (hc : PlainC c) (hcur : cur ≠ []) : kTake n c (stF f cur) = (mdP [] 1 cur [1] [c], 0) := by
  have hb : decide (c = 32 ∨ c = 9) = false := by simpa using hc.2.1
  unfold kTake kFresh
  rw [take_plainC hc (by cases f <;> rfl) (by cases f <;> rfl) (by cases f <;> rfl)]
  cases f
  · simp only [stF, Bool.false_eq_true, if_false]
    unfold kAdd kBegin
    rw [if_neg (by simp), if_neg (by simpa using hcur)]
    rfl
  · simp only [stF, if_true, hb]
    unfold kAdd kBegin
    rw [if_neg (by simp), if_neg (by simpa using hcur)]
    rfl
theorem wF_run (n : Nat) (r : List (Nat × UInt8)) (f : Bool) (cur : List TW) (hcur : cur ≠ []) (w : List UInt8) (h : ∀ c ∈ w, PlainC c) (hw : w ≠ []) : kTxt (mapL n w ++ r) (stF f cur) = kTxt r (mdP [] 1 cur [1] w) := by
  match w, hw with
  | c :: w, _ =>
    show kTxt ((n, c) :: (mapL n w ++ r)) _ = _
    rw [txt_cons_ok _ (take_stF f cur (h c (by simp)) hcur), md_run n r [] 1 cur [1] w [c] (fun d hd => h d (by simp [hd]))]; rfl
/-- A remark and the line's end, within brackets. -/
theorem br_line (n : Nat) (cur : List TW) (r : List UInt8) (p : Bool) : kTxt (octE n p (59 :: 32 :: 121 :: 10 :: r)) (stP [] 1 cur [1]) = kTxt (octE (n + 1) false r) (stF true cur) := by
  have e : octE n p (59 :: 32 :: 121 :: 10 :: r) = (n, 59) :: (n, 32) :: (n, 121) :: (n, 10) :: octE (n + 1) false r := by
    rw [octE, if_neg (by rintro ⟨h, _⟩; exact absurd h (by decide)), if_neg (by decide), octE, if_neg (by rintro ⟨h, _⟩; exact absurd h (by decide)), if_neg (by decide), octE, if_neg (by rintro ⟨h, _⟩; exact absurd h (by decide)), if_neg (by decide), octE, if_neg (by rintro ⟨h, _⟩; exact absurd h (by decide)), if_pos rfl]
    rfl
  have t1 : kTake n 59 (stP [] 1 cur [1]) = ({ stP [] 1 cur [1] with remark := true }, 0) := by
    rw [take_not_fresh n 59 rfl]; rfl
  have t2 : kTake n 32 { stP [] 1 cur [1] with remark := true } = ({ stP [] 1 cur [1] with remark := true }, 0) := by
    rw [take_not_fresh n 32 rfl]; rfl
  have t3 : kTake n 121 { stP [] 1 cur [1] with remark := true } = ({ stP [] 1 cur [1] with remark := true }, 0) := by
    rw [take_not_fresh n 121 rfl]; rfl
  have t4 : kTake n 10 { stP [] 1 cur [1] with remark := true } = (stF true cur, 0) := by
    rw [take_not_fresh n 10 rfl]; rfl
  rw [e, txt_cons_ok _ t1, txt_cons_ok _ t2, txt_cons_ok _ t3, txt_cons_ok _ t4]
theorem br_end (n : Nat) (f : Bool) (cur : List TW) (hcur : cur ≠ []) (p : Bool) : kTxt (octE n p [41, 10, 122, 10]) (stF f cur) = (st0 [⟨1, false, cur⟩, ⟨n + 1, false, [([122], false)]⟩], 0, 0) := by
  have e : octE n p [41, 10, 122, 10] = [(n, 41), (n, 10), (n + 1, 122), (n + 1, 10)] := by
    rw [octE, if_neg (by rintro ⟨h, _⟩; exact absurd h (by decide)), if_neg (by decide), octE, if_neg (by rintro ⟨h, _⟩; exact absurd h (by decide)), if_pos rfl, octE, if_neg (by rintro ⟨h, _⟩; exact absurd h (by decide)), if_neg (by decide), octE, if_neg (by rintro ⟨h, _⟩; exact absurd h (by decide)), if_pos rfl]
    rfl
  have t1 : kTake n 41 (stF f cur) = (stP [] 1 cur [], 0) := by cases f <;> rfl
  have t3 : kTake (n + 1) 122 (st0 [⟨1, false, cur⟩]) = (mdP [⟨1, false, cur⟩] (n + 1) [] [] [122], 0) := take_st0 _ ⟨by decide, by decide, by decide, by decide, by decide, by decide, by decide, by decide⟩
  rw [e, txt_cons_ok _ t1, txt_cons_ok _ (st_end n [] 1 cur hcur), List.nil_append, txt_cons_ok _ t3, txt_cons_ok _ (md_end _ _ _ _ _)]
  rfl
theorem br_run : ∀ (r : List (List UInt8 × Bool)) (n : Nat) (f p : Bool) (cur : List TW), cur ≠ [] → (∀ q ∈ r, PlainW q.1) →
    ∃ m, kTxt (octE n p (tB r ++ [41, 10, 122, 10])) (stF f cur) = (st0 [⟨1, false, cur ++ r.map (fun q => (q.1, false))⟩, ⟨m, false, [([122], false)]⟩], 0, 0) := by
  intro r
  induction r with
  | nil =>
    intro n f p cur hcur _
    refine ⟨n + 1, ?_⟩
    rw [tB, List.nil_append, br_end n f cur hcur p, List.map_nil, List.append_nil]
  | cons q r ih =>
    intro n f p cur hcur h
    obtain ⟨hw0, hw1⟩ := h q (by simp)
    have hr : ∀ x ∈ r, PlainW x.1 := fun x hx => h x (by simp [hx])
    have hne : cur ++ [(q.1, false)] ≠ [] := by simp
    rw [tB, List.map_cons]
    have e0 : ∀ X : List UInt8, octE n p (q.1 ++ 32 :: X) = mapL n q.1 ++ (n, 32) :: octE n true X := by
      intro X
      rw [octE_word n 32 (by decide) X q.1 p hw1]
      have : mapL n (q.1 ++ [32]) = mapL n q.1 ++ [(n, 32)] := by unfold mapL; rw [List.map_append]; rfl
      rw [this, List.append_assoc]
      rfl
    cases hb : q.2
    · obtain ⟨m, hm⟩ := ih n false true (cur ++ [(q.1, false)]) hne hr
      refine ⟨m, ?_⟩
      have e1 : q.1 ++ (sepB false ++ tB r) ++ [41, 10, 122, 10] = q.1 ++ 32 :: (tB r ++ [41, 10, 122, 10]) := by simp [sepB]
      rw [e1, e0, wF_run n _ f cur hcur q.1 hw1 hw0, txt_cons_ok _ (md_blank _ _ _ _ _ _)]
      rw [List.append_assoc] at hm
      exact hm
    · obtain ⟨m, hm⟩ := ih (n + 1) true false (cur ++ [(q.1, false)]) hne hr
      refine ⟨m, ?_⟩
      have e1 : q.1 ++ (sepB true ++ tB r) ++ [41, 10, 122, 10] = q.1 ++ 32 :: (59 :: 32 :: 121 :: 10 :: (tB r ++ [41, 10, 122, 10])) := by simp [sepB]
      rw [e1, e0, wF_run n _ f cur hcur q.1 hw1 hw0, txt_cons_ok _ (md_blank _ _ _ _ _ _), br_line]
      rw [List.append_assoc] at hm
      exact hm
theorem br_ent (l : List (List UInt8 × Bool)) (h : ∀ q ∈ l, PlainW q.1) : ∃ m, entK (120 :: 32 :: 40 :: (tB l ++ [41, 10, 122, 10])) = ([⟨1, false, ([120], false) :: l.map (fun q => (q.1, false))⟩, ⟨m, false, [([122], false)]⟩], 0, 0) := by
  obtain ⟨m, hm⟩ := br_run l 1 false true [([120], false)] (by simp) h
  refine ⟨m, ?_⟩
  have e : octE 1 false (120 :: 32 :: 40 :: (tB l ++ [41, 10, 122, 10])) = (1, 120) :: (1, 32) :: (1, 40) :: octE 1 true (tB l ++ [41, 10, 122, 10]) := by
    rw [octE, if_neg (by rintro ⟨h, _⟩; exact absurd h (by decide)), if_neg (by decide), octE, if_neg (by rintro ⟨h, _⟩; exact absurd h (by decide)), if_neg (by decide), octE, if_neg (by rintro ⟨h, _⟩; exact absurd h (by decide)), if_neg (by decide)]
    rfl
  have t1 : kTake 1 120 ks0 = (mdP [] 1 [] [] [120], 0) := take_st0 [] ⟨by decide, by decide, by decide, by decide, by decide, by decide, by decide, by decide⟩
  have t3 : kTake 1 40 (stP [] 1 [([120], false)] []) = (stF false [([120], false)], 0) := by rw [take_not_fresh 1 40 rfl]; rfl
  have hk : kTxt (octE 1 false (120 :: 32 :: 40 :: (tB l ++ [41, 10, 122, 10]))) ks0 = (st0 [⟨1, false, ([120], false) :: l.map (fun q => (q.1, false))⟩, ⟨m, false, [([122], false)]⟩], 0, 0) := by
    rw [e, txt_cons_ok _ t1, txt_cons_ok _ (md_blank _ _ _ _ _ _), List.nil_append, txt_cons_ok _ t3]
    exact hm
  unfold entK
  rw [hk]
  rfl
end Go.Proofs.Ytlgbdbaacjahpaa
