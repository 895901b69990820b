/-
  Words of a zone's text: plain facts for TokPlain and TokBrackets, octet by octet.
-/
import Derived.Test.YtlgbdbaacjahpaaTokQ2
namespace Go.Proofs.Ytlgbdbaacjahpaa
set_option maxRecDepth 20000
set_option linter.unusedVariables false

def mapL (n : Nat) (l : List UInt8) : List (Nat × UInt8) := l.map (fun c => (n, c))
theorem txt_cons_ok {n : Nat} {c : UInt8} {x y : KS} (r : List (Nat × UInt8)) (h : kTake n c x = (y, 0)) : kTxt ((n, c) :: r) x = kTxt r y := by
  rw [kTxt]
  simp only [h, if_pos]
/-- A line's state between words, and within one. -/
def stP (ds : List Ent) (n : Nat) (cur : List TW) (ol : List Nat) : KS := ⟨ds, n, false, cur, true, ol, false, false, false, [], false, false, false⟩
def st0 (ds : List Ent) : KS := ⟨ds, 0, false, [], false, [], true, false, false, [], false, false, false⟩
def mdP (ds : List Ent) (n : Nat) (cur : List TW) (ol : List Nat) (w : List UInt8) : KS := ⟨ds, n, false, cur, true, ol, false, false, false, w, true, false, false⟩
theorem take_plainC {n : Nat} {c : UInt8} {x : KS} (hc : PlainC c) (hr : x.remark = false) (ht : x.taken = false) (hq : x.quoted = false) : kTake0 n c x = (kAdd n c x, 0) := by
  obtain ⟨h1, h2, h3, h4, h5, h6, h7, _⟩ := hc
  unfold kTake0
  rw [if_neg h7, if_neg (by rw [hr]; simp), if_neg (by rw [ht]; simp), if_neg h6, if_neg (by rw [hq]; simp)]
  unfold kPlain
  rw [if_neg h2, if_neg h1, if_neg h3, if_neg h4, if_neg h5]
theorem take_st0 {n : Nat} {c : UInt8} (ds : List Ent) (hc : PlainC c) : kTake n c (st0 ds) = (mdP ds n [] [] [c], 0) := by
  have hb : decide (c = 32 ∨ c = 9) = false := by simpa using hc.2.1
  unfold kTake kFresh
  rw [if_pos (by rfl), hb, take_plainC hc rfl rfl rfl]
  rfl
theorem take_stP {n : Nat} {c : UInt8} (ds : List Ent) (m : Nat) (cur : List TW) (ol : List Nat) (hc : PlainC c) (hcur : cur ≠ []) : kTake n c (stP ds m cur ol) = (mdP ds m cur ol [c], 0) := by
  rw [take_not_fresh n c rfl, take_plainC hc rfl rfl rfl]
  unfold kAdd kBegin
  rw [if_neg (by simp [stP]), if_neg (by simpa [stP] using hcur)]
  rfl
theorem take_mdP {n : Nat} {c : UInt8} (ds : List Ent) (m : Nat) (cur : List TW) (ol : List Nat) (w : List UInt8) (hc : PlainC c) : kTake n c (mdP ds m cur ol w) = (mdP ds m cur ol (w ++ [c]), 0) := by
  rw [take_not_fresh n c rfl, take_plainC hc rfl rfl rfl]
  rfl
theorem md_run (n : Nat) (r : List (Nat × UInt8)) (ds : List Ent) (m : Nat) (cur : List TW) (ol : List Nat) : ∀ (w v : List UInt8), (∀ c ∈ w, PlainC c) → kTxt (mapL n w ++ r) (mdP ds m cur ol v) = kTxt r (mdP ds m cur ol (v ++ w)) := by
  intro w
  induction w with
  | nil => intro v _; rw [List.append_nil]; rfl
  | cons c w ih =>
    intro v h
    show kTxt ((n, c) :: (mapL n w ++ r)) _ = _
    rw [txt_cons_ok _ (take_mdP ds m cur ol v (h c (by simp))), ih _ (fun d hd => h d (by simp [hd])), List.append_assoc]; rfl
theorem w0_run (n : Nat) (r : List (Nat × UInt8)) (ds : List Ent) (w : List UInt8) (h : ∀ c ∈ w, PlainC c) (hw : w ≠ []) : kTxt (mapL n w ++ r) (st0 ds) = kTxt r (mdP ds n [] [] w) := by
  match w, hw with
  | c :: w, _ =>
    show kTxt ((n, c) :: (mapL n w ++ r)) _ = _
    rw [txt_cons_ok _ (take_st0 ds (h c (by simp))), md_run n r ds n [] [] w [c] (fun d hd => h d (by simp [hd]))]; rfl
theorem wP_run (n : Nat) (r : List (Nat × UInt8)) (ds : List Ent) (m : Nat) (cur : List TW) (ol : List Nat) (hcur : cur ≠ []) (w : List UInt8) (h : ∀ c ∈ w, PlainC c) (hw : w ≠ []) : kTxt (mapL n w ++ r) (stP ds m cur ol) = kTxt r (mdP ds m cur ol w) := by
  match w, hw with
  | c :: w, _ =>
    show kTxt ((n, c) :: (mapL n w ++ r)) _ = _
    rw [txt_cons_ok _ (take_stP ds m cur ol (h c (by simp)) hcur), md_run n r ds m cur ol w [c] (fun d hd => h d (by simp [hd]))]; rfl
theorem md_blank (n : Nat) (ds : List Ent) (m : Nat) (cur : List TW) (ol : List Nat) (w : List UInt8) : kTake n 32 (mdP ds m cur ol w) = (stP ds m (cur ++ [(w, false)]) ol, 0) := by
  rw [take_not_fresh n 32 rfl]; rfl
theorem md_end (n : Nat) (ds : List Ent) (m : Nat) (cur : List TW) (w : List UInt8) : kTake n 10 (mdP ds m cur [] w) = (st0 (ds ++ [⟨m, false, cur ++ [(w, false)]⟩]), 0) := by
  rw [take_not_fresh n 10 rfl]
  unfold kTake0 kEnd kRest kEndWord mdP
  simp
  rfl
theorem st_end (n : Nat) (ds : List Ent) (m : Nat) (cur : List TW) (hcur : cur ≠ []) : kTake n 10 (stP ds m cur []) = (st0 (ds ++ [⟨m, false, cur⟩]), 0) := by
  rw [take_not_fresh n 10 rfl]
  unfold kTake0 kEnd kRest kEndWord stP
  simp [hcur]
  rfl
theorem octE_word (n : Nat) (s : UInt8) (hs : s ≠ 13) (r : List UInt8) : ∀ (w : List UInt8) (p : Bool), (∀ c ∈ w, PlainC c) → octE n p (w ++ s :: r) = mapL n (w ++ [s]) ++ octE (if s = 10 then n + 1 else n) (decide (s ≠ 10)) r := by
  intro w
  induction w with
  | nil => intro p _; rw [List.nil_append, octE, if_neg (by rintro ⟨h, _⟩; exact hs h)]; rfl
  | cons c w ih =>
    intro p h
    obtain ⟨_, _, _, _, _, _, h10, h13⟩ := h c (by simp)
    rw [List.cons_append, octE, if_neg (by rintro ⟨h, _⟩; exact h13 h), if_neg h10, ih _ (fun d hd => h d (by simp [hd]))]
    rfl
def PlainW (w : List UInt8) : Prop := w ≠ [] ∧ ∀ c ∈ w, PlainC c

/-! ### TokPlain's text -/
def sepP (k i : Nat) : UInt8 := if i % k = k - 1 then 10 else 32
def tP (k : Nat) : Nat → List (List UInt8) → List UInt8
  | _, [] => []
  | i, w :: r => w ++ sepP k i :: tP k (i + 1) r
theorem tP_snoc (k : Nat) (w : List UInt8) : ∀ (l : List (List UInt8)) (i : Nat), tP k i (l ++ [w]) = tP k i l ++ (w ++ [sepP k (i + l.length)]) := by
  intro l
  induction l with
  | nil => intro i; simp [tP]
  | cons v l ih =>
    intro i
    rw [List.cons_append, tP, tP, ih, List.append_assoc, List.cons_append, List.length_cons]
    rw [show i + 1 + l.length = i + (l.length + 1) by omega]
def entOf (k : Nat) (ws : List (List UInt8)) (j : Nat) : Ent := ⟨j + 1, false, ((ws.drop (j * k)).take k).map (fun w => (w, false))⟩
def dsP (k : Nat) (ws : List (List UInt8)) (j : Nat) : List Ent := (List.range j).map (entOf k ws)
def curP (k : Nat) (ws : List (List UInt8)) (i : Nat) : List TW := ((ws.take i).drop (i / k * k)).map (fun w => (w, false))
def stAt (k : Nat) (ws : List (List UInt8)) (i : Nat) : KS := if i % k = 0 then st0 (dsP k ws (i / k)) else stP (dsP k ws (i / k)) (i / k + 1) (curP k ws i) []
theorem curP_ne {k i : Nat} {ws : List (List UInt8)} (hk : 0 < k) (hi : i ≤ ws.length) (h : i % k ≠ 0) : curP k ws i ≠ [] := by
  intro e
  have := congrArg List.length e
  have h1 := Nat.div_add_mod i k
  have h2 : k * (i / k) = i / k * k := Nat.mul_comm _ _
  simp only [curP, List.length_map, List.length_drop, List.length_take, List.length_nil] at this
  omega
theorem curP_zero {k i : Nat} {ws : List (List UInt8)} (hi : i ≤ ws.length) (h : i % k = 0) : curP k ws i = [] := by
  have h1 := Nat.div_add_mod i k
  have h2 : k * (i / k) = i / k * k := Nat.mul_comm _ _
  unfold curP
  rw [List.drop_of_length_le (by rw [List.length_take]; omega)]
  rfl
theorem curP_succ {k i : Nat} {ws : List (List UInt8)} (hi : i < ws.length) : ((ws.take (i + 1)).drop (i / k * k)).map (fun w => (w, false)) = curP k ws i ++ [(ws[i], false)] := by
  have h1 := Nat.div_mul_le_self i k
  rw [List.take_succ_eq_append_getElem hi, List.drop_append_of_le_length (by rw [List.length_take]; omega), List.map_append]
  rfl
theorem dsP_succ (k : Nat) (ws : List (List UInt8)) (j : Nat) : dsP k ws (j + 1) = dsP k ws j ++ [entOf k ws j] := by
  unfold dsP
  rw [List.range_succ, List.map_append]; rfl
theorem plain_run (k : Nat) (hk : 0 < k) (ws : List (List UInt8)) (hws : ∀ w ∈ ws, PlainW w) : ∀ (r : List (List UInt8)) (i : Nat), ws.drop i = r → i + r.length = ws.length →
    kTxt (octE (i / k + 1) (decide (i % k ≠ 0)) (tP k i r)) (stAt k ws i) = (st0 (dsP k ws ((ws.length + k - 1) / k)), 0, 0) := by
  intro r
  induction r with
  | nil =>
    intro i _ hl
    simp only [List.length_nil, Nat.add_zero] at hl
    subst hl
    rw [tP, octE]
    unfold stAt
    have h1 := Nat.div_add_mod ws.length k
    have hlt := Nat.mod_lt ws.length hk
    by_cases h0 : ws.length % k = 0
    · rw [if_pos h0, if_neg (by simpa using h0), kTxt]
      have e : (ws.length + k - 1) / k = ws.length / k := by
        rw [← h1, h0]
        rw [show k * (ws.length / k) + 0 + k - 1 = (k - 1) + k * (ws.length / k) by omega, Nat.add_mul_div_left _ _ hk, Nat.div_eq_of_lt (by omega), show k * (ws.length / k) + 0 = k * (ws.length / k) by omega, Nat.mul_div_cancel_left _ hk]
        omega
      rw [e]
    · rw [if_neg h0, if_pos (by simpa using h0)]
      rw [txt_cons_ok [] (st_end _ _ _ _ (curP_ne hk (Nat.le_refl _) h0)), kTxt]
      have e : (ws.length + k - 1) / k = ws.length / k + 1 := by
        rw [show ws.length + k - 1 = (ws.length % k - 1) + k * (ws.length / k + 1) by rw [Nat.mul_add]; omega, Nat.add_mul_div_left _ _ hk, Nat.div_eq_of_lt (by omega)]
        omega
      rw [e, dsP_succ]
      have e2 : entOf k ws (ws.length / k) = ⟨ws.length / k + 1, false, curP k ws ws.length⟩ := by
        unfold entOf curP
        have h2 : k * (ws.length / k) = ws.length / k * k := Nat.mul_comm _ _
        rw [List.take_of_length_le (l := ws) (Nat.le_refl _), List.take_of_length_le (by rw [List.length_drop]; omega)]
      rw [e2]
  | cons w r ih =>
    intro i hd hl
    simp only [List.length_cons] at hl
    have hi : i < ws.length := by omega
    have hwi : ws[i] = w ∧ ws.drop (i + 1) = r := by
      rw [List.drop_eq_getElem_cons hi] at hd
      injection hd with a b
      exact ⟨a, b⟩
    obtain ⟨hw0, hw1⟩ : PlainW w := by rw [← hwi.1]; exact hws _ (List.getElem_mem hi)
    have hi1 := ih (i + 1) hwi.2 (by omega)
    have h1 := Nat.div_add_mod i k
    have hlt := Nat.mod_lt i hk
    have hcs := curP_succ (k := k) hi
    rw [hwi.1] at hcs
    rw [tP]
    -- the state behind the word
    have key : ∀ R, kTxt (mapL (i / k + 1) w ++ R) (stAt k ws i) = kTxt R (mdP (dsP k ws (i / k)) (i / k + 1) (curP k ws i) [] w) := by
      intro R
      unfold stAt
      by_cases h0 : i % k = 0
      · rw [if_pos h0, w0_run _ _ _ _ hw1 hw0, curP_zero (by omega) h0]
      · rw [if_neg h0, wP_run _ _ _ _ _ _ (curP_ne hk (by omega) h0) _ hw1 hw0]
    by_cases hend : i % k = k - 1
    · have hs : sepP k i = 10 := by unfold sepP; rw [if_pos hend]
      have hq : (i + 1) / k = i / k + 1 := by
        rw [show i + 1 = 0 + k * (i / k + 1) by rw [Nat.mul_add]; omega, Nat.add_mul_div_left _ _ hk, Nat.zero_div]; omega
      have hm : (i + 1) % k = 0 := by
        rw [show i + 1 = k * (i / k + 1) by rw [Nat.mul_add]; omega, Nat.mul_mod_right]
      rw [hs, octE_word _ 10 (by decide) _ _ _ hw1]
      have e : mapL (i / k + 1) (w ++ [10]) = mapL (i / k + 1) w ++ [(i / k + 1, 10)] := by unfold mapL; rw [List.map_append]; rfl
      rw [e, List.append_assoc, key, List.singleton_append, txt_cons_ok _ (md_end _ _ _ _ _)]
      unfold stAt at hi1
      rw [if_pos hm, hq, hm, dsP_succ] at hi1
      have e2 : entOf k ws (i / k) = ⟨i / k + 1, false, curP k ws i ++ [(w, false)]⟩ := by
        unfold entOf
        rw [← hcs, List.drop_take]
        have h2 : k * (i / k) = i / k * k := Nat.mul_comm _ _
        rw [show i + 1 - i / k * k = k by omega]
      rw [e2] at hi1
      exact hi1
    · have hs : sepP k i = 32 := by unfold sepP; rw [if_neg hend]
      have hq : (i + 1) / k = i / k := by
        have : (i % k + 1) + k * (i / k) = i + 1 := by omega
        rw [← this, Nat.add_mul_div_left _ _ hk, Nat.div_eq_of_lt (by omega)]; omega
      have hm : (i + 1) % k = i % k + 1 := by
        have : (i % k + 1) + k * (i / k) = i + 1 := by omega
        rw [← this, Nat.add_mul_mod_self_left, Nat.mod_eq_of_lt (by omega)]
      rw [hs, octE_word _ 32 (by decide) _ _ _ hw1]
      have e : mapL (i / k + 1) (w ++ [32]) = mapL (i / k + 1) w ++ [(i / k + 1, 32)] := by unfold mapL; rw [List.map_append]; rfl
      rw [e, List.append_assoc, key, List.singleton_append, txt_cons_ok _ (md_blank _ _ _ _ _ _)]
      unfold stAt at hi1
      rw [if_neg (by omega), hq, hm] at hi1
      have e2 : curP k ws (i + 1) = curP k ws i ++ [(w, false)] := by
        rw [← hcs]; unfold curP; rw [hq]
      rw [e2] at hi1
      have hb : decide (i % k + 1 ≠ 0) = true := by simp
      rw [hb] at hi1
      exact hi1
theorem plain_ent (k : Nat) (hk : 0 < k) (ws : List (List UInt8)) (hws : ∀ w ∈ ws, PlainW w) : entK (tP k 0 ws) = (dsP k ws ((ws.length + k - 1) / k), 0, 0) := by
  have h := plain_run k hk ws hws ws 0 rfl (by simp)
  have e : stAt k ws 0 = ks0 := by unfold stAt; rw [if_pos (Nat.zero_mod k), Nat.zero_div]; rfl
  rw [e, Nat.zero_div, Nat.zero_mod] at h
  have h' : kTxt (octE 1 false (tP k 0 ws)) ks0 = (st0 (dsP k ws ((ws.length + k - 1) / k)), 0, 0) := h
  unfold entK
  rw [h']
  rfl
end Go.Proofs.Ytlgbdbaacjahpaa
