/-
  Sets of a row in its own order: what SetsAll asks of them.
-/
import Derived.Test.YtfcdajldpnomfaaMQ34
import Derived.Test.YtfcdajldpnomfaaMQ13
import Derived.RangeFuncNested
import Derived.Deep.RegionLaw
import Derived.Test.YtfcdajldpnomfaaMQ09
import Derived.Sort.QuietTacIn
import Derived.Sort.BigQuietIn
import Derived.RangeFuncKeeps
import Derived.Test.YtfcdajldpnomfaaMQ05
import Derived.Deep.RegionHeld3
import Derived.RangeFuncWrites
namespace Go.Proofs.Ytfcdajldpnomfaa
set_option maxRecDepth 20000
open Go.RowKit Go.Shelf
open Stb (COrd)
set_option linter.unusedVariables false

/-- How two records stand by their owners and types alone. -/
def keyR (a b : Rc) : Int := orI (compareN a.owner b.owner) (cmpI a.data.ty b.data.ty)
theorem cord_keyR : COrd keyR := cord_orI (cord_on cord_compareN Rc.owner) (cord_on (cord_on cord_cmpI Dat.ty) Rc.data)
theorem cmpI_zero {a b : Int} : cmpI a b = 0 ↔ a = b := by
  unfold cmpI
  constructor
  · intro h
    by_cases h1 : a < b
    · rw [if_pos h1] at h; cases h
    · rw [if_neg h1] at h
      by_cases h2 : b < a
      · simp [h2] at h
      · omega
  · rintro rfl; simp
theorem keyR_zero (a b : Rc) : keyR a b = 0 ↔ belR b a = true := by
  unfold keyR belR belM orI
  rw [Bool.and_eq_true, decide_eq_true_eq]
  by_cases h : compareN a.owner b.owner = 0
  · rw [if_pos h]
    exact ⟨fun h2 => ⟨cmpI_zero.1 h2, (compareN_zero _ _).1 h⟩, fun h2 => cmpI_zero.2 h2.1⟩
  · rw [if_neg h]
    exact ⟨fun h2 => absurd h2 h, fun h2 => absurd ((compareN_zero _ _).2 h2.2) h⟩
theorem keyR_of {a b : Rc} (h : compareR a b ≤ 0) : keyR a b ≤ 0 := by
  unfold compareR compareD orI at h
  unfold keyR orI
  by_cases h1 : compareN a.owner b.owner = 0
  · rw [if_pos h1] at h ⊢
    by_cases h2 : cmpI a.data.ty b.data.ty = 0
    · omega
    · rw [if_neg h2] at h; exact h
  · rw [if_neg h1] at h ⊢; exact h
theorem keyR_eq {a b : Rc} (h : compareR a b = 0) : keyR a b = 0 := by
  have h1 := keyR_of (a := a) (b := b) (by omega)
  have h2 := keyR_of (a := b) (b := a) (by have := cR_anti a b; omega)
  have h3 := cord_keyR.anti a b
  omega
theorem keyR_sym {a b : Rc} (h : keyR a b = 0) : keyR b a = 0 := by have := cord_keyR.anti a b; omega
theorem belM_eq {o : Nm} {t : Int} {a b : Rc} (h : keyR a b = 0) : belM o t a = belM o t b := by
  have h1 := (keyR_zero a b).1 h
  unfold belR belM at h1
  rw [Bool.and_eq_true, decide_eq_true_eq] at h1
  unfold belM
  rw [h1.1]
  congr 1
  have e := h1.2
  cases h2 : sameN b.owner o with
  | true => exact sameN_trans e h2
  | false =>
    cases h3 : sameN a.owner o with
    | false => rfl
    | true => rw [sameN_symm] at e; rw [sameN_trans e h3] at h2; cases h2
theorem filter_gt {p : Rc → Bool} {x : Rc} : ∀ (c : List Rc), (∀ y ∈ c, 0 < compareR y x) → insR (c.filter p) x = x :: c.filter p := fun c h => by
  cases e : c.filter p with
  | nil => rfl
  | cons z r =>
    have hz : z ∈ c := (List.mem_filter.1 (show z ∈ c.filter p by rw [e]; simp)).1
    have := h z hz
    rw [insR, if_neg (by omega), if_neg (by omega)]
theorem insR_filter {p : Rc → Bool} (hp : ∀ a b, compareR a b = 0 → p a = p b) (x : Rc) : ∀ (c : List Rc), StrictR c → (∀ y ∈ c, p ⟨y.owner, minT y.ttl x.ttl, y.data⟩ = p y) → (insR c x).filter p = if p x = true then insR (c.filter p) x else c.filter p
  | [], _, _ => by
    by_cases hx : p x = true
    · simp [insR, hx]
    · simp [insR, hx]
  | y :: r, hs, hm => by
    have hs2 : StrictR r := (List.pairwise_cons.1 hs).2
    have hy := (List.pairwise_cons.1 hs).1
    have ih := insR_filter hp x r hs2 (fun z hz => hm z (by simp [hz]))
    by_cases h1 : compareR y x < 0
    · rw [insR, if_pos h1, List.filter_cons, ih, List.filter_cons]
      by_cases hpy : p y = true
      · rw [if_pos hpy, if_pos hpy]
        by_cases hx : p x = true
        · rw [if_pos hx, if_pos hx, insR, if_pos h1]
        · rw [if_neg hx, if_neg hx]
      · rw [if_neg hpy, if_neg hpy]
    · by_cases h2 : compareR y x = 0
      · have e := hp y x h2
        have em := hm y (by simp)
        rw [insR, if_neg h1, if_pos h2, List.filter_cons, em, List.filter_cons]
        by_cases hpy : p y = true
        · rw [if_pos hpy, if_pos hpy, if_pos (by rw [← e]; exact hpy), insR, if_neg h1, if_pos h2]
        · rw [if_neg hpy, if_neg hpy, if_neg (by rw [← e]; exact hpy)]
      · rw [insR, if_neg h1, if_neg h2, List.filter_cons]
        by_cases hx : p x = true
        · rw [if_pos hx, if_pos hx]
          refine (filter_gt (y :: r) fun z hz => ?_).symm
          rcases List.mem_cons.1 hz with rfl | hz
          · have := compareR_range z x; omega
          · have h3 := hy z hz
            have h4 : compareR x y ≤ 0 := by have := cR_anti y x; omega
            have h5 := cR_le_lt h4 h3
            have := cR_anti x z
            omega
        · rw [if_neg hx, if_neg hx]
theorem canonM_filter (o : Nm) (t : Int) (l : List Rc) : canonM (l.filter (belM o t)) = (canonM l).filter (belM o t) :=
  list_snoc_ind (P := fun l => canonM (l.filter (belM o t)) = (canonM l).filter (belM o t)) rfl (fun l x ih => by
    rw [canonM_snoc, insR_filter (fun a b h => belM_eq (keyR_eq h)) x _ (canonM_can l).up (fun y _ => rfl), List.filter_append]
    by_cases hx : belM o t x = true
    · rw [if_pos hx, List.filter_cons, if_pos hx, List.filter_nil, canonM_snoc, ih]
    · rw [if_neg hx, List.filter_cons, if_neg hx, List.filter_nil, List.append_nil, ih]) l
theorem all_takeWhile {p : Rc → Bool} : ∀ (l : List Rc), (∀ z ∈ l, p z = true) → l.takeWhile p = l ∧ l.dropWhile p = [] := fun l h => by
  have := takeWhile_app (p := p) l [] h (fun z hz => by cases hz)
  simpa using this
theorem takeWhile_all {p : Rc → Bool} : ∀ (l : List Rc), ∀ z ∈ l.takeWhile p, p z = true
  | [], z, h => by cases h
  | x :: r, z, h => by
    by_cases hx : p x = true
    · rw [List.takeWhile_cons, if_pos hx] at h
      rcases List.mem_cons.1 h with rfl | h
      · exact hx
      · exact takeWhile_all r z h
    · rw [List.takeWhile_cons, if_neg hx] at h; cases h
/-- What is behind a run is of another set. -/
theorem drop_other {y : Rc} {r : List Rc} (hs : StrictR (y :: r)) : ∀ z ∈ r.dropWhile (belR y), belR y z = false := by
  have hd := dropWhile_head (belR y) r
  have hsub : ∀ z ∈ r.dropWhile (belR y), z ∈ r := fun z hz => (List.dropWhile_sublist _).subset hz
  have hst : StrictR (r.dropWhile (belR y)) := List.Pairwise.sublist (List.dropWhile_sublist _) (List.pairwise_cons.1 hs).2
  cases e : r.dropWhile (belR y) with
  | nil => intro z hz; cases hz
  | cons d D =>
    rw [e] at hd hsub hst
    have h1 : belR y d = false := hd d (by simp)
    have h2 : compareR y d < 0 := (List.pairwise_cons.1 hs).1 d (hsub d (by simp))
    have k1 : keyR d y ≠ 0 := fun h => by rw [(keyR_zero d y).1 h] at h1; cases h1
    have k2 : keyR y d ≤ 0 := keyR_of (by omega)
    have k3 : keyR y d < 0 := by have := cord_keyR.anti y d; omega
    intro z hz
    rcases List.mem_cons.1 hz with rfl | hz
    · exact h1
    · have h3 : compareR d z < 0 := (List.pairwise_cons.1 hst).1 z hz
      have k4 : keyR d z ≤ 0 := keyR_of (by omega)
      cases hb : belR y z with
      | false => rfl
      | true =>
        have k5 : keyR z y = 0 := (keyR_zero z y).2 hb
        have k6 := cord_keyR.trans d z y k4 (by omega)
        have := cord_keyR.anti d y
        omega
theorem belR_trans {a b c : Rc} (h1 : belR a b = true) (h2 : belR a c = true) : belR b c = true := by
  have k1 := (keyR_zero b a).2 h1
  have k2 := (keyR_zero c a).2 h2
  have k3 := keyR_sym k1
  refine (keyR_zero c b).1 ?_
  have t1 := cord_keyR.trans c a b (by omega) (by omega)
  have t2 := cord_keyR.trans b a c (by omega) (by have := keyR_sym k2; omega)
  have := cord_keyR.anti c b
  omega
/-- Each set is all that its owner and type have. -/
theorem sets_filter : ∀ (n : Nat) (c : List Rc), c.length ≤ n → StrictR c → ∀ s ∈ setsM c, ∃ y r, s = stR y r ∧ y ∈ c ∧ c.filter (belM s.owner s.ty) = y :: r
  | 0, c, hn, _, s, h => by
    obtain rfl : c = [] := List.eq_nil_of_length_eq_zero (by omega)
    cases h
  | n + 1, [], _, _, s, h => by cases h
  | n + 1, y :: r, hn, hs, s, h => by
    have hl : (r.dropWhile (belR y)).length ≤ r.length := (List.dropWhile_sublist _).length_le
    have hst : StrictR (r.dropWhile (belR y)) := List.Pairwise.sublist (List.dropWhile_sublist _) (List.pairwise_cons.1 hs).2
    have hr : r = r.takeWhile (belR y) ++ r.dropWhile (belR y) := (List.takeWhile_append_dropWhile).symm
    have hno := drop_other hs
    have hall := takeWhile_all (p := belR y) r
    rw [setsM_cons] at h
    rcases List.mem_cons.1 h with rfl | h
    · refine ⟨y, r.takeWhile (belR y), rfl, by simp, ?_⟩
      have e : (fun z => belM (stR y (r.takeWhile (belR y))).owner (stR y (r.takeWhile (belR y))).ty z) = belR y := rfl
      show (y :: r).filter (belR y) = _
      rw [List.filter_cons, if_pos (belR_refl y)]
      congr 1
      rw (occs := .pos [1]) [hr]
      rw [List.filter_append, List.filter_eq_self.2 hall, List.filter_eq_nil_iff.2 (fun z hz => by rw [hno z hz]; simp), List.append_nil]
    · simp only [List.length_cons] at hn
      obtain ⟨y', r', e1, e2, e3⟩ := sets_filter n _ (by omega) hst s h
      refine ⟨y', r', e1, List.mem_cons_of_mem _ ((List.dropWhile_sublist _).subset e2), ?_⟩
      have hb : ∀ z, belR y z = true → belM s.owner s.ty z = false := fun z hz => by
        cases hh : belM s.owner s.ty z with
        | false => rfl
        | true =>
          exfalso
          have h5 : belR y' z = true := by rw [e1] at hh; exact hh
          have h6 := hno y' e2
          have k1 := (keyR_zero z y').2 h5
          have k2 := (keyR_zero z y).2 hz
          have : belR z y' = true := (keyR_zero y' z).1 (keyR_sym k1)
          have h7 : belR z y = true := (keyR_zero y z).1 (keyR_sym k2)
          rw [belR_trans h7 this] at h6; cases h6
      rw [List.filter_cons, if_neg (by rw [hb y (belR_refl y)]; simp)]
      rw (occs := .pos [1]) [hr]
      rw [List.filter_append, List.filter_eq_nil_iff.2 (fun z hz => by rw [hb z (hall z hz)]; simp), List.nil_append, e3]
theorem setsM_all {y : Rc} {r : List Rc} (h : ∀ z ∈ r, belR y z = true) : setsM (y :: r) = [stR y r] := by
  rw [setsM_cons, (all_takeWhile r h).1, (all_takeWhile r h).2]; rfl
/-- One set of a row: the first of those that are of the owner and the type. -/
def ofM (l : List Rc) (o : Nm) (t : Int) : Option St := (setsM (canonM (l.filter (belM o t)))).head?
theorem ofM_sets {l : List Rc} {s : St} (h : s ∈ setsM (canonM l)) : ofM l s.owner s.ty = some s := by
  obtain ⟨y, r, e1, _, e3⟩ := sets_filter _ _ (Nat.le_refl _) (canonM_can l).up s h
  unfold ofM
  rw [canonM_filter, e3, setsM_all (fun z hz => ?_), ← e1]; rfl
  have hz2 : z ∈ (canonM l).filter (belM s.owner s.ty) := by rw [e3]; simp [hz]
  have := (List.mem_filter.1 hz2).2
  rw [e1] at this; exact this
theorem sets_count : ∀ (n : Nat) (c : List Rc), c.length ≤ n → ((setsM c).map fun s => s.data.length).sum = c.length
  | 0, c, hn => by
    obtain rfl : c = [] := List.eq_nil_of_length_eq_zero (by omega)
    rfl
  | n + 1, [], _ => rfl
  | n + 1, y :: r, hn => by
    have hl : (r.dropWhile (belR y)).length ≤ r.length := (List.dropWhile_sublist _).length_le
    simp only [List.length_cons] at hn
    have hr : (r.takeWhile (belR y)).length + (r.dropWhile (belR y)).length = r.length := by
      rw [← List.length_append, List.takeWhile_append_dropWhile]
    rw [setsM_cons, List.map_cons, List.sum_cons, sets_count n _ (by omega)]
    simp only [stR, List.length_cons, List.length_map]
    omega
/-- An owner's types: the row has it. -/
theorem sets_type {l : List Rc} {s : St} (h : s ∈ setsM (canonM l)) : ∃ a ∈ l, sameN a.owner s.owner = true ∧ a.data.ty = s.ty := by
  obtain ⟨y, r, e1, e2, _⟩ := sets_filter _ _ (Nat.le_refl _) (canonM_can l).up s h
  obtain ⟨a, ha, h1, _⟩ := (canonM_can l).of y e2
  have h2 := (keyR_zero a y).1 (keyR_eq h1)
  unfold belR belM at h2
  rw [Bool.and_eq_true, decide_eq_true_eq] at h2
  exact ⟨a, ha, by rw [e1]; exact h2.2, by rw [e1]; exact h2.1⟩
end Go.Proofs.Ytfcdajldpnomfaa

/-
  rset.belongs.
-/
namespace Go.Proofs.Ytfcdajldpnomfaa
open Go.RowKit Go.Shelf
set_option maxRecDepth 20000
set_option linter.unusedVariables false
set_option linter.unusedSimpArgs false

set_option maxRecDepth 100000 in
set_option maxHeartbeats 4000000 in
theorem rset_belongs (a0 : Option Addr) (n0 c0 : Nat) (a1 : Option Addr) (n1 c1 : Nat) (tt : Int) (o : Nm) (t : Int) (cs : List Value) (r : Rc) (w : World) (hO : NmAt w (.slice a0 n0 c0) o) (hko : NmOK o) (hA : RcAt w cs r) (hk : RcOK r) :
    Calls Try.prog 37 #[.agg #[.slice a0 n0 c0, .int .i64 t, .int .u32 tt, .slice a1 n1 c1], .agg cs.toArray] w fun e w' => e = .returned (.bool (belM o t r)) ∧ Below w.heap.size w w' := by
  have hsh := hA.shape
  obtain ⟨⟨p0, q0, k0⟩, ⟨p3, q3, k3⟩, ⟨p4, q4, k4⟩, ⟨p5, q5, k5⟩, ⟨p6, q6, k6⟩, e0⟩ := hsh
  simp only at e0
  subst e0
  have hA1 : NmAt w (.slice p0 q0 k0) r.owner := by
    obtain ⟨_, _, _, _, _, e5, g1, _⟩ := hA
    simp only [List.cons.injEq, and_true] at e5
    rw [e5.1]; exact g1
  have HN := Lib.hid (fun W (hb : Below w.heap.size w W) => kn_NSame (.slice p0 q0 k0) (.slice a0 n0 c0) r.owner o _ rfl W (hA1.below hb) (hO.below hb) hk.1 hko)
  have hR := Lib.hid (show belM o t r = (decide (r.data.ty = t) && sameN r.owner o) from rfl)
  generalize belM o t r = res at *
  generalize sameN r.owner o = q at *
  generalize r.data.ty = x at *
  generalize (r.ttl : Int) = tr at *
  have hb0 := fun o o' => ((Below.refl w.heap.size w).alloc (Nat.le_refl _) o).alloc (o := o') (by simp)
  have hbb := hb0 (Obj.cells #[.slice a0 n0 c0, .int .i64 t, .int .u32 tt, .slice a1 n1 c1] 40) (Obj.cells #[.slice p0 q0 k0, .int .u32 tr, .int .i64 x, .slice p3 q3 k3, .slice p4 q4 k4, .slice p5 q5 k5, .slice p6 q6 k6] 53)
  have hn := HN.out _ hbb
  have HBB := Lib.hid hbb
  clear hbb hb0 HN hA hA1 hO hko hk
  by_cases hx : x = t
  · subst hx
    have HR : Hid (res = q) := Lib.hid (by rw [hR.out]; simp)
    clear hR
    go_enter Try.func37, Try.ntmps37
    go_wp2_with fail
    refine hn.mono ?_
    rintro e w1 ⟨rfl, hb1⟩
    have HB1 := Lib.hid (HBB.out.trans (hb1.mono HBB.out.size))
    clear hb1 hn
    go_wp2
    go_ret
    exact ⟨by rw [HR.out]; rfl, HB1.out⟩
  · have HR : Hid (res = false) := Lib.hid (by rw [hR.out]; simp [hx])
    have hxb : (x == t) = false := by simpa using hx
    clear hR hn
    go_enter Try.func37, Try.ntmps37
    go_wp2
    go_ret
    exact ⟨by rw [HR.out]; rfl, HBB.out⟩
end Go.Proofs.Ytfcdajldpnomfaa

/-
  A range over a function whose iterator hands out values that lead into memory of its own making: the round's body is told a fact D of what was yielded, at the yield's world.
-/
namespace Go.Proofs.Ytfcdajldpnomfaa
open Go Go.RowKit Go.Shelf
set_option linter.unusedVariables false

def SeqStopsD {α : Type} (F : Fence) (n : Nat) (P : Program) (g : Nat) (lb : Array Value) (encs : α → Array Value) (D : α → World → Prop) (Kp : World → World → Prop) (S Sp : List α → Prop) (N : Nat) (w : World) : Prop :=
  ∀ (l : Nat) (J Jx : List α → World → Prop) (W : World), Below w.heap.size w W → AbidesFrom W.heap.size J → AbidesFrom W.heap.size Jx →
    (∀ pre x W1, J pre W1 → D x W1 → pre.length < N → YieldAt F (n - 1) P l (encs x) W1 fun e W' =>
      (e = .returned (.bool true) ∧ J (pre ++ [x]) W' ∧ Kp W1 W') ∨ (e = .returned (.bool false) ∧ Jx (pre ++ [x]) W')) →
    J [] W →
    CallsIn F n P g (#[.func (.yield l) #[] #[]] ++ lb) W fun e W' => (∃ v, e = .returned v) ∧ ((∃ xs, S xs ∧ J xs W') ∨ (∃ pre, Sp pre ∧ Jx pre W'))

/-- The loop's two blocks of its own. -/
structure TwoBk (m : Nat) (r : Loop) (W : World) : Prop where
  lp : W.heap[m + 1]? = some (.loop r)
  dfr : W.heap[m]? = some (.deferred (some []))
theorem TwoBk.lt {m : Nat} {r : Loop} {W : World} (h : TwoBk m r W) : m + 1 < W.heap.size := (Array.getElem?_eq_some_iff.1 h.lp).1
theorem TwoBk.grown {m : Nat} {r : Loop} {W W' : World} {row : Option Nat} (h : TwoBk m r W) (hg : W.grownBy W' row) (hr : ∀ k, row = some k → k ≠ m ∧ k ≠ m + 1) : TwoBk m r W' :=
  ⟨(hg.block _ h.lt (fun e => (hr _ e.symm).2 rfl)).trans h.lp, (hg.block _ (by have := h.lt; omega) (fun e => (hr _ e.symm).1 rfl)).trans h.dfr⟩
theorem TwoBk.walks {m B : Nat} {r : Loop} {W W' : World} {row : Option Nat} (h : TwoBk m r W) (hg : W.grownBy W' row) (hr : ∀ k, row = some k → B ≤ k ∧ ∃ o : Obj, W.heap[k]? = some o ∧ o.isWalk = true) : TwoBk m r W' :=
  h.grown hg fun k e => by
    obtain ⟨_, o, ho, hw⟩ := hr k e
    refine ⟨fun e2 => ?_, fun e2 => ?_⟩
    · subst e2; rw [h.dfr] at ho; cases ho; cases hw
    · subst e2; rw [h.lp] at ho; cases ho; cases hw
theorem TwoBk.kept {m : Nat} {r : Loop} {W W' : World} (h : TwoBk m r W) (hk : KeepsFrom m W W') : TwoBk m r W' := ⟨hk.same _ _ (by omega) h.lp rfl, hk.same _ _ (Nat.le_refl _) h.dfr rfl⟩
theorem TwoBk.turn {m : Nat} {r : Loop} {W : World} (h : TwoBk m r W) (r' : Loop) : TwoBk m r' (W.putObj (m + 1) (.loop r')) := ⟨World.putObj_heap_same h.lt, (World.putObj_heap_other (by omega)).trans h.dfr⟩

variable {F : Fence} {n : Nat} {P : Program}

theorem wpIn_rangeFunc_D {α : Type} {g : Operand} {ps : Array Tmp} {assign body : Code} {Q : Exit → Act → World → Prop} {a : Act} {w : World}
    (hro : F.round = none) (h1 : 1 ≤ n) {gf : Nat} {lb : Array Value} (hg : a.eval g = .func (.func gf) #[] lb) (hFg : F.fn gf) (eg : ∀ args w, (callFunc gf args).run P w = .ok (.enter gf args) w)
    {encs : α → Array Value} {D : α → World → Prop} {Kp : World → World → Prop} {S Sp : List α → Prop} {N : Nat} {w0 : World} (hseq : SeqStopsD F (n - 1) P gf lb encs D Kp S Sp N w0)
    (hKt : ∀ {A B C : World}, Kp A B → Kp B C → Kp A C) (hKb : ∀ (W : World) (l : Nat) (o o' : Obj), w.heap.size ≤ l → W.heap[l]? = some o → o.isCells = false → o.isWalk = false → Kp W (W.putObj l o')) (hb0 : Below w0.heap.size w0 w) (hps : ∀ x, (encs x).size = ps.size)
    (I : List α → World → Prop) (Ix : Code → List α → World → Prop) (hI : OwnFrom w.heap.size I) (hIx : ∀ c, OwnFrom w.heap.size (Ix c)) (h0 : I [] w) (Ax : α → Act → World → Prop) (hAx : ∀ a', OwnFrom w.heap.size (fun x W => Ax x a' W))
    (hassign : ∀ (l : Nat) (pre : List α) (x : α) (W : World) (K : Act → World → Prop), I pre W → D x W → (∀ a' W', KeepsFrom w.heap.size W W' → Kp W W' → I pre W' → Ax x a' W' → K a' W') →
      assign.wpIn (F.inRound l) (n - 1 - 1) P (Exit.then K (fun _ _ _ => False)) { tmps := (ps.zip (encs x)).foldl (fun t (p, v) => t.setIfInBounds p v) a.tmps, defers := [] } W)
    (hbody : ∀ (l : Nat) (pre : List α) (x : α) (a' : Act) (W : World), I pre W → Ax x a' W → pre.length < N → body.wpIn (F.inRound l) (n - 1 - 1) P (ownPostG w.heap.size Kp I Ix (pre ++ [x]) W) a' W)
    (hdone : ∀ (d : Nat) (xs : List α) (W : World), w.heap.size ≤ d → S xs → I xs W → W.heap[d]? = some (.deferred (some [])) → Q .normal { a with defers := { target := .collected d, args := #[] } :: a.defers } W)
    (hstop : ∀ (d : Nat) (c : Code) (pre : List α) (W : World), w.heap.size ≤ d → Sp pre → Ix c pre W → W.heap[d]? = some (.deferred (some [])) → c.wpIn F n P Q { a with defers := { target := .collected d, args := #[] } :: a.defers } W) :
    (Code.rangeFunc g ps assign body).wpIn F n P Q a w := by
  refine wpIn_rangeFunc fun fn hfn => ?_
  rw [hro]
  obtain ⟨m, hm⟩ : ∃ m, w.heap.size = m := ⟨_, rfl⟩
  obtain ⟨R, hR⟩ : ∃ R : LoopState → Option Code → Loop, R = fun st pe => { state := st, pending := pe, fn, tmps := a.tmps, params := ps, assign, body, defers := m } := ⟨_, rfl⟩
  obtain ⟨W1, hW1⟩ : ∃ W1, (w.alloc (.deferred (some []))).alloc (.loop (R .ready none)) = W1 := ⟨_, rfl⟩
  have hsz : W1.heap.size = m + 2 := by rw [← hW1]; simp [hm]
  have hB1 : TwoBk m (R .ready none) W1 := by
    refine ⟨?_, ?_⟩
    · have h := World.alloc_heap_new (w.alloc (.deferred (some []))) (.loop (R .ready none))
      rw [World.size_alloc, hm, hW1] at h; exact h
    · rw [← hW1, ← hm]; exact (Below.heap_alloc _ _ _ (by simp)).trans (World.alloc_heap_new w _)
  have hbw : Below m w W1 := by rw [← hW1, ← hm]; exact ((Below.refl _ w).alloc (Nat.le_refl _) _).alloc (by simp) _
  rw [hm] at hI hKb hassign hbody hdone hstop
  have hAx' : ∀ a', OwnFrom m (fun x W => Ax x a' W) := fun a' => by rw [← hm]; exact hAx a'
  have hIx' : ∀ c, OwnFrom m (Ix c) := fun c => by rw [← hm]; exact hIx c
  have noCells : ∀ {A : World} {row : Option Nat}, (∀ k, row = some k → W1.heap.size ≤ k ∧ ∃ o : Obj, A.heap[k]? = some o ∧ o.isWalk = true) → ∀ k, row = some k → m ≤ k ∧ ∃ o : Obj, A.heap[k]? = some o ∧ o.isCells = false :=
    fun h k e => by obtain ⟨hk, o, ho, hw⟩ := h k e; exact ⟨by omega, o, ho, Obj.not_cells_of_walk hw⟩
  refine ⟨m + 1, [{ target := .collected m, args := #[] }], W1, { target := .fn (.func gf) lb, args := #[.func (.yield (m + 1)) #[] #[]] }, W1, gf, #[.func (.yield (m + 1)) #[] #[]] ++ lb, W1, ?_, ?_, ?_, ?_, fun _ => h1, ?_⟩
  · have h := run_enterLoop_outer (P := P) (w := w) fn a.tmps ps assign body
    rw [hm] at h
    rw [h, ← hW1, hR]
  · simp only [resolve, hg]
    simp [go_sem]
  · intro f' hf'
    simp [Target.leads] at hf'
    subst hf'; exact hFg
  · simp [invoke, go_sem, eg]
  refine (hseq (m + 1) (fun pre W => I pre W ∧ TwoBk m (R .ready none) W) (fun pre W => ∃ c, Ix c pre W ∧ TwoBk m (R .done (some c)) W) W1 (hb0.trans (hbw.mono (by rw [← hm]; exact hb0.size)))
    (fun s A B row hs hgr hr => ⟨hI s A B row hs.1 hgr (noCells hr), hs.2.walks hgr hr⟩)
    (fun s A B row hs hgr hr => by obtain ⟨c, hc, ht⟩ := hs; exact ⟨c, hIx' c s A B row hc hgr (noCells hr), ht.walks hgr hr⟩)
    ?_ ⟨?_, hB1⟩).mono ?_
  · rintro pre x W ⟨hi, ht⟩ hd hlen
    have hy := run_yield (P := P) (args := encs x) ht.lp (by rw [hR]; exact hps x)
    rw [hR] at hy
    refine ⟨fn, _, assign, body, hy, roundIn_of_wpIn hfn (hassign _ pre x W _ hi hd ?_)⟩
    intro a' Wa hka hkpa hia hax
    have hta := ht.kept hka
    obtain ⟨Wb, hWb⟩ : ∃ Wb, Wa.putObj (m + 1) (.loop (R .busy none)) = Wb := ⟨_, rfl⟩
    have hbeg := run_beginRound (P := P) hta.lp (by rw [hR])
    have hbusy : ({ R .ready none with state := .busy } : Loop) = R .busy none := by rw [hR]
    rw [hbusy, hWb] at hbeg
    have htb : TwoBk m (R .busy none) Wb := by rw [← hWb]; exact hta.turn _
    have hib : I pre Wb := by rw [← hWb]; exact hI.putObj _ hia (by omega) hta.lp rfl
    have hab : Ax x a' Wb := by rw [← hWb]; exact (hAx' a').putObj (s := x) _ hax (by omega) hta.lp rfl
    have hkb : Kp W Wb := by rw [← hWb]; exact hKt hkpa (hKb _ _ _ _ (by omega) hta.lp rfl rfl)
    refine ⟨Wb, hbeg, wpIn_mono (hbody _ pre x a' Wb hib hab hlen) ?_⟩
    have fin : ∀ (jump : Option Code) (W3 : World), KeepsFrom m Wb W3 → (Instr.endRound (m + 1) jump).run P W3 = .ok (.bool jump.isNone) (W3.putObj (m + 1) (.loop (R (if jump.isNone then .ready else .done) jump))) ∧ TwoBk m (R .busy none) W3 := fun jump W3 hk => by
      have h3 := htb.kept hk
      have := run_endRound (P := P) jump h3.lp
      rw [hR] at this ⊢
      exact ⟨this, by rw [hR] at h3; exact h3⟩
    have leave : ∀ (c : Code) (W3 : World), KeepsFrom m Wb W3 → Ix c (pre ++ [x]) W3 → ∃ v w', (Instr.endRound (m + 1) (some c)).run P W3 = .ok v w' ∧ ((Ending.returned v = .returned (.bool true) ∧ (I (pre ++ [x]) w' ∧ TwoBk m (R .ready none) w') ∧ Kp W w') ∨ (Ending.returned v = .returned (.bool false) ∧ ∃ c, Ix c (pre ++ [x]) w' ∧ TwoBk m (R .done (some c)) w')) := fun c W3 hk hx => by
      obtain ⟨hr, h3⟩ := fin (some c) W3 hk
      exact ⟨_, _, hr, .inr ⟨rfl, c, (hIx' c).putObj _ hx (by omega) h3.lp rfl, h3.turn _⟩⟩
    intro e a3 W3 hp
    cases e with
    | normal =>
      obtain ⟨hk, hkp, hi3⟩ := hp
      obtain ⟨hr, h3⟩ := fin none W3 hk
      exact ⟨_, _, hr, .inl ⟨rfl, ⟨hI.putObj _ hi3 (by omega) h3.lp rfl, h3.turn _⟩, hKt hkb (hKt hkp (hKb _ _ _ _ (by omega) h3.lp rfl rfl))⟩⟩
    | ret => exact leave _ _ hp.1 hp.2
    | exit id => exact leave _ _ hp.1 hp.2
    | goto t => exact leave _ _ hp.1 hp.2
    | panic ch => exact hp.elim
    | outgrown => exact hp.elim
  · rw [← hW1]; exact hI.alloc _ (hI.alloc _ h0)
  · rintro e W2 ⟨⟨v, rfl⟩, (⟨xs, hS, hi, ht⟩ | ⟨pre, hSp, c, hi, ht⟩)⟩
    · have h := run_endLoop (P := P) ht.lp (by rw [hR]; simp)
      rw [hR] at h
      exact ⟨none, _, h, hdone m xs _ (Nat.le_refl _) hS (hI.putObj _ hi (by omega) ht.lp rfl) ((World.putObj_heap_other (by omega)).trans ht.dfr)⟩
    · have h := run_endLoop (P := P) ht.lp (by rw [hR]; simp)
      rw [hR] at h
      exact ⟨some c, _, h, hstop m c pre _ (Nat.le_refl _) hSp ((hIx' c).putObj _ hi (by omega) ht.lp rfl) ((World.putObj_heap_other (by omega)).trans ht.dfr)⟩
end Go.Proofs.Ytfcdajldpnomfaa

/-
  Rows of k cells: literals, pieces, a store into one cell, appends in a drawn region.
-/
namespace Go.Proofs.Ytfcdajldpnomfaa
open Go.RowKit Go.Shelf
set_option maxRecDepth 20000
set_option linter.unusedVariables false
set_option linter.unusedSimpArgs false

theorem slAt_blk {W : World} {g : Nat} {l : List Value} {T : TypeId} (h : W.heap[g]? = some (.cells l.toArray T)) : SlAt W (.slice (some ⟨g, 0, none⟩) l.length l.length) l := by
  refine ⟨_, _, rfl, Nat.le_refl _, (fun e => by cases e), .inr ⟨g, 0, rfl, kblock_lt h, fun j hj => ?_⟩⟩
  have := kcell h j l[j] (by simp)
  rw [Nat.zero_add]; exact this
theorem slK_blk {W : World} {g : Nat} {css : List (List Value)} {T : TypeId} (h : W.heap[g]? = some (.cells css.flatten.toArray T)) : SlK W (.slice (some ⟨g, 0, none⟩) css.length css.length) css := by
  refine ⟨_, _, rfl, Nat.le_refl _, (fun e => by cases e), .inr ⟨g, 0, rfl, kblock_lt h, fun j u hj => ?_⟩⟩
  have := kcell h j u (by simpa using hj)
  rw [Nat.zero_add]; exact this
theorem flatten_set (K t : Nat) (u : Value) (ht : t < K) : ∀ (css : List (List Value)), (∀ cs ∈ css, cs.length = K) → ∀ (k : Nat) (h : k < css.length), (css.set k (css[k].set t u)).flatten = css.flatten.set (k * K + t) u
  | [], _, k, h => by simp at h
  | c :: r, hk, 0, _ => by
    have hc := hk c (by simp)
    simp only [List.getElem_cons_zero, List.set_cons_zero, List.flatten_cons, Nat.zero_mul, Nat.zero_add]
    rw [List.set_append_left t u (by omega)]
  | c :: r, hk, k + 1, h => by
    have hc := hk c (by simp)
    have ih := flatten_set K t u ht r (fun cs hcs => hk cs (by simp [hcs])) k (by simpa using h)
    simp only [List.getElem_cons_succ, List.set_cons_succ, List.flatten_cons]
    rw [ih, Nat.add_mul, Nat.one_mul]
    rw [List.set_append_right ((k * K + K + t)) u (by omega)]
    congr 2
    omega
theorem OwnC.put {T : TypeId} {W : World} {base g n c : Nat} {css : List (List Value)} (h : OwnC 7 T W base (.slice (some ⟨g, 0, none⟩) n c) css) (hk : ∀ cs ∈ css, cs.length = 7) (k : Nat) (hlt : k < css.length) (t : Nat) (ht : t < 7) (u : Value) :
    OwnC 7 T (W.setCell ⟨g, k * 7 + t, none⟩ u) base (.slice (some ⟨g, 0, none⟩) n c) (css.set k (css[k].set t u)) := by
  obtain ⟨hl, h⟩ := h
  rcases h with ⟨e, _⟩ | ⟨g', cap, cur, e, hb, hg, hc, hm, hsz, htk⟩
  · cases e
  · cases e
    have hfl : ((css.set k (css[k].set t u)).flatMap fun cs => cs) = (css.flatMap fun cs => cs).set (k * 7 + t) u := by
      rw [flat_id, flat_id, flatten_set 7 t u ht css hk k hlt]
    refine ⟨by rw [hfl, List.length_set, List.length_set]; exact hl, .inr ⟨g, c, cur.setIfInBounds (k * 7 + t) u, by rw [List.length_set], hb, kset hg _ u, by rw [List.length_set]; exact hc, hm, by simpa using hsz, ?_⟩⟩
    rw [hfl, List.length_set, ← htk, Array.toList_setIfInBounds]
    rw [List.take_set]
theorem SlK.takeK {W : World} {a : Option Addr} {n c : Nat} {css : List (List Value)} (h : SlK W (.slice a n c) css) (k : Nat) (hk : k ≤ n) : SlK W (.slice a k c) (css.take k) := by
  obtain ⟨a', c', e, h1, h2, h3⟩ := h
  cases e
  have hl : (css.take k).length = k := by rw [List.length_take]; omega
  refine ⟨a, c, by rw [hl], by rw [hl]; omega, h2, ?_⟩
  rcases h3 with h3 | ⟨b, off, e, hlt, hc⟩
  · left; rw [h3]; simp
  · right
    refine ⟨b, off, e, hlt, fun j u hj => hc j u ?_⟩
    have hsplit : css.flatten = (css.take k).flatten ++ (css.drop k).flatten := by rw [← List.flatten_append, List.take_append_drop]
    rw [hsplit, List.getElem?_append_left (List.getElem?_eq_some_iff.1 hj).1]
    exact hj
theorem SlK.dropK {W : World} {b off n c : Nat} {css : List (List Value)} (h : SlK W (.slice (some ⟨b, off, none⟩) n c) css) (h7 : ∀ cs ∈ css, cs.length = 7) (k : Nat) (hk : k ≤ n) : SlK W (.slice (some ⟨b, off + k * 7, none⟩) (n - k) (c - k)) (css.drop k) := by
  obtain ⟨a', c', e, h1, h2, h3⟩ := h
  cases e
  have hl : (css.drop k).length = css.length - k := List.length_drop
  refine ⟨_, _, by rw [hl], by rw [hl]; omega, (fun e => by cases e), ?_⟩
  rcases h3 with h3 | ⟨b', off', e, hlt, hc⟩
  · left; rw [h3]; simp
  · cases e
    right
    refine ⟨b, off + k * 7, rfl, hlt, fun j u hj => ?_⟩
    rw [Nat.add_assoc]
    refine hc _ _ ?_
    have hsplit : css.flatten = (css.take k).flatten ++ (css.drop k).flatten := by rw [← List.flatten_append, List.take_append_drop]
    have hz : (css.take k).flatten.length = k * 7 := by
      rw [flat_len _ (fun cs hcs => h7 cs (List.mem_of_mem_take hcs)), List.length_take]; congr 1; omega
    rw [hsplit, List.getElem?_append_right (by omega), hz, Nat.add_sub_cancel_left]
    exact hj
/-- append of a whole row to one of the call's own, as one operation. -/
theorem wp_append_slk {S T : TypeId} {k bytes : Nat} {o : Oper} {a : Act} {K : Act → World → Prop} {Q : Exit → Act → World → Prop} (W : World) (s x : Operand) (hE : ElemK k T S bytes) (hk0 : 0 < k)
    (ho : o.op = .call { callee := .builtin .append, args := #[s, x], argTypes := #[S, S] })
    (base : Nat) (v : Value) (xs : List (List Value)) (hs : a.eval s = v) (hown : OwnC k T W base v xs)
    (src : Value) (ys : List (List Value)) (hx : a.eval x = src) (hsrc : SlK W src ys) (hyk : ∀ cs ∈ ys, cs.length = k) (hy1 : ∀ cs ∈ ys, ∀ u ∈ cs, u.oneCell' = true)
    (hbase : base ≤ W.heap.size) (hk : xs.length + ys.length ≤ maxLen) (hk2 : (xs.length + ys.length) * bytes ≤ 140737488355328)
    (h : ∀ v' w', OwnC k T w' base v' (xs ++ ys) → W.grownBy w' v.ownBlock → K (a.put o.dst v') w') :
    o.wp Try.prog a W K Q := by
  obtain ⟨ht, i, z, hi, hz, hz1, hz2, hzc⟩ := hE
  obtain ⟨a0, c0, rfl, h1, h2, h3⟩ := hsrc
  have hlen := flat_len ys hyk
  cases a0 with
  | none =>
    have e3 := h2 rfl
    subst e3
    have e4 : ys = [] := List.eq_nil_of_length_eq_zero (by omega)
    subst e4
    have hrun := run_append_owned_none (P := Try.prog) (w := W) base S o.type _ i k ht hi v _ _ hown
    have hK := h v W (by rw [List.append_nil]; exact hown) ⟨rfl, rfl, rfl, Nat.le_refl _, fun _ _ _ => rfl⟩
    unfold Oper.wp
    simp [execOp, ho, resolve, invoke, builtin, hs, hx, hrun, Result.andThen]
    exact hK
  | some ad =>
    have hcell : ∀ j u, ys.flatten[j]? = some u → W.cell? (ad.add j) = some u := by
      intro j u hj
      rcases h3 with h3 | ⟨b, off, ea, _, hc⟩
      · subst h3; simp at hj
      · cases ea; rw [Addr.add_lit]; exact hc j u hj
    refine wp_append_own W s x S ho base _ i z k bytes ht hi hz hz1 hz2 hzc hk0 v xs.length (xs.flatMap fun cs => cs) hs hown ad ys.length c0 ys.flatten hx hlen hcell (by intro u hu; obtain ⟨y, hy, hu⟩ := List.mem_flatten.1 hu; exact hy1 y hy u hu) hk hk2 hbase ?_
    intro v' w' g1 g2 _
    refine h v' w' ?_ g2
    unfold OwnC OwnK
    rw [List.length_append, List.flatMap_append, flat_id ys]
    exact g1
theorem step_append_slk {S T : TypeId} {k bytes : Nat} {ops : Array Oper} {o : Oper} {a : Act} {K : Act → World → Prop} {Q : Exit → Act → World → Prop} {E : Prop} (W : World) (hgd : o.guard = none) (s x : Operand) (hE : ElemK k T S bytes) (hk0 : 0 < k)
    (ho : o.op = .call { callee := .builtin .append, args := #[s, x], argTypes := #[S, S] })
    (base : Nat) (v : Value) (xs : List (List Value)) (hs : a.eval s = v) (hown : OwnC k T W base v xs)
    (src : Value) (ys : List (List Value)) (hx : a.eval x = src) (hsrc : SlK W src ys) (hyk : ∀ cs ∈ ys, cs.length = k) (hy1 : ∀ cs ∈ ys, ∀ u ∈ cs, u.oneCell' = true)
    (hbase : base ≤ W.heap.size) (hk : xs.length + ys.length ≤ maxLen) (hk2 : (xs.length + ys.length) * bytes ≤ 140737488355328)
    (h : ∀ v' w', OwnC k T w' base v' (xs ++ ys) → W.grownBy w' v.ownBlock → K (a.put o.dst v') w') :
    if Region.wanted o (yielded ops a.tmps) = true then Oper.wp Try.prog o a W K Q else E := by
  have hw : Region.wanted o (yielded ops a.tmps) = true := by simp [Region.wanted, hgd]
  rw [if_pos hw]
  exact wp_append_slk W s x hE hk0 ho base v xs hs hown src ys hx hsrc hyk hy1 hbase hk hk2 h
end Go.Proofs.Ytfcdajldpnomfaa

/-
  A drawn region of reads and calls, over any class of worlds, inside a fence.
-/
namespace Go.Proofs.Ytfcdajldpnomfaa
set_option maxRecDepth 20000
open Go.RowKit Go.Shelf

theorem wpIn_region_cls {F : Fence} {n : Nat} {P : Program} {id : Nat} {Q : Exit → Act → World → Prop} {a : Act} {w : World} {l : List Oper} (C : World → Prop) (hro : F.round = none) (hm : P.follows .mixedOrders = true) (hB : Region.lexB .any l.toArray = true) (hC : C w.drew)
    (h : wpQuietIn F n P l.toArray (fun w' => ∃ p : WIn C, w' = p.w) (fun a' => ∀ w', (∃ p : WIn C, w' = p.w) → Q .normal a' w') l a) : (Code.region id l.toArray true).wpIn F n P Q a w :=
  wpIn_region_quiet (C := fun w' => ∃ p : WIn C, w' = p.w) hro hm hB ⟨⟨w.drew, hC⟩, rfl⟩ (by simpa using h)
theorem CallsIn.cls {F : Fence} {r : Nat} {C : World → Prop} {P : Program} {f : FuncId} {args : Array Value} {w : World} {v : Value}
    (h : CallsIn F r P f args w fun e w' => e = .returned v ∧ C w') : CallsIn F r P f args w fun e w'' => e = .returned v ∧ ∃ q : WIn C, w'' = q.w :=
  h.mono fun _ w' ⟨he, hc⟩ => ⟨he, ⟨w', hc⟩, rfl⟩
end Go.Proofs.Ytfcdajldpnomfaa

/-
  rec.runs as an iterator: a row run by run. (Written by wip/tools/genrun.py.)
-/
namespace Go.Proofs.Ytfcdajldpnomfaa
set_option maxRecDepth 20000
open Go.RowKit Go.Shelf
set_option maxRecDepth 20000
set_option linter.unusedVariables false
set_option linter.unusedSimpArgs false

/-- A run of a row of n. -/
abbrev Seg (n : Nat) := { x : Nat × Nat // x.1 < x.2 ∧ x.2 ≤ n }
def segV (g off c : Nat) {n : Nat} (x : Seg n) : Array Value := #[.slice (some ⟨g, off + x.1.1 * 7, none⟩) (x.1.2 - x.1.1) (c - x.1.1)]
/-- What the iterator needs of a world. -/
structure RunW (b1 b2 : Nat) (a : Option Addr) (g off n c : Nat) (css : List (List Value)) (rs : List Rc) (Kp : World → World → Prop) (R : World → Prop) : Prop where
  c1 : ∀ W, R W → W.cell? ⟨b1, 0, none⟩ = some (.slice a n c)
  c2 : ∀ W, R W → W.cell? ⟨b2, 0, none⟩ = some (.func (.func 27) #[] #[])
  ha : 0 < n → a = some ⟨g, off, none⟩
  el : ∀ W, R W → ∀ k (hlt : k < css.length) (u0 u1 u2 u3 u4 u5 u6 : Value), css[k] = [u0, u1, u2, u3, u4, u5, u6] →
      W.cell? ⟨g, off + k * 7, none⟩ = some u0 ∧ W.cell? ⟨g, off + k * 7 + 1, none⟩ = some u1 ∧ W.cell? ⟨g, off + k * 7 + 2, none⟩ = some u2 ∧ W.cell? ⟨g, off + k * 7 + 3, none⟩ = some u3 ∧ W.cell? ⟨g, off + k * 7 + 4, none⟩ = some u4 ∧ W.cell? ⟨g, off + k * 7 + 5, none⟩ = some u5 ∧ W.cell? ⟨g, off + k * 7 + 6, none⟩ = some u6
  same : ∀ W, R W → ∀ i j (hi : i < css.length) (hj : j < css.length) (hi' : i < rs.length) (hj' : j < rs.length), Calls Try.prog 27 #[.agg css[i].toArray, .agg css[j].toArray] W fun e W' => e = .returned (.bool (sameR rs[i] rs[j])) ∧ Below W.heap.size W W'
  below : ∀ W W', R W → Below W.heap.size W W' → R W'
  kp : ∀ W W', R W → Kp W W' → R W'
  shape : ∀ k (hk : k < css.length), ∃ (t x : Int) (x0 x3 x4 x5 x6 : Option Addr × Nat × Nat), css[k] = [.slice x0.1 x0.2.1 x0.2.2, .int .u32 t, .int .i64 x, .slice x3.1 x3.2.1 x3.2.2, .slice x4.1 x4.2.1 x4.2.2, .slice x5.1 x5.2.1 x5.2.2, .slice x6.1 x6.2.1 x6.2.2]
theorem below_drew0 (W : World) : Below W.heap.size W W.drew := ⟨rfl, rfl, rfl, Nat.le_refl _, fun _ _ => rfl⟩
section
attribute [local go_sem] Oper.semAt_some
set_option maxRecDepth 100000 in
set_option maxHeartbeats 8000000 in
theorem runs1_in (nf : Nat) (hnf : 3 ≤ nf) (l b1 b2 : Nat) (a : Option Addr) (g off n c : Nat) (hnc : n ≤ c) (hn63 : n ≤ 1000000000000) (css : List (List Value)) (rs : List Rc) (hcl : css.length = n) (hrl : rs.length = n) (Kp : World → World → Prop) (R : World → Prop) (H : RunW b1 b2 a g off n c css rs Kp R)
    (J Jx : List (Seg n) → World → Prop) (hJ : ∀ pre W W', J pre W → Below W.heap.size W W' → J pre W')
    (hY : ∀ pre x W, J pre W → pre.length < n → YieldAt Fence.wide (nf - 1) Try.prog l (segV g off c x) W fun e W' =>
      (e = .returned (.bool true) ∧ J (pre ++ [x]) W' ∧ Kp W W') ∨ (e = .returned (.bool false) ∧ Jx (pre ++ [x]) W'))
    (W : World) (hR : R W) (h0 : J [] W) :
    CallsIn Fence.wide nf Try.prog 40 #[.func (.yield l) #[] #[], .pointer (some ⟨b1, 0, none⟩), .pointer (some ⟨b2, 0, none⟩)] W fun e W' => (∃ v, e = .returned v) ∧
      ((∃ ys : List (Seg n), ys.map (·.1) = segs rs ∧ J ys W') ∨ (∃ pre : List (Seg n), Jx pre W')) := by
  have hn1' : 1 ≤ nf := by omega
  have HJJ := Lib.hid hJ
  have HCL := Lib.hid hcl; have HRL := Lib.hid hrl
  clear hJ
  have HR0 := Lib.hid hR
  have HJ0 := Lib.hid h0
  clear hR h0
  refine callsIn_of_wp Try.func40 rfl trivial ?_ rfl
  simp only [Try.ntmps40, List.size_toArray, List.length_cons, List.length_nil, Nat.reduceAdd, Nat.reduceSub, Array.replicate_succ, Array.replicate_zero, List.push_toArray, List.append_toArray, List.nil_append, List.cons_append]
  gi_wp2
  gi_loopw [4] (fun v4 wr => ∃ (s : Nat) (pre : List (Seg n)), v4 = .int .i64 s ∧ s ≤ n ∧ Hid (pre.map (·.1) ++ leftM rs s = segs rs ∧ pre.length ≤ s) ∧ Hid (J pre wr) ∧ Hid (R wr))
    (fun v4 _ => n - (intOf v4).toNat)
  case atStart => exact ⟨0, [], rfl, Nat.zero_le _, Lib.hid ⟨rfl, Nat.zero_le _⟩, HJ0, HR0⟩
  case round =>
    obtain ⟨s, pre, rfl, hs, HP, HJ, HR⟩ := hrel
    have hc0 := H.c1 _ HR.out
    by_cases hlt : s < n
    · have ha := H.ha (by omega)
      subst ha
      have hltz : (s : Int) < (n : Int) := by omega
      have hsr : s < rs.length := by omega
      have HRJ0 := Lib.hid (And.intro HR.out HJ.out)
      clear HR HJ
      gi_wp2
      clear hc0
      rename World => w1
      gi_loopw [5] (fun v5 wr => ∃ (e : Nat), v5 = .int .i64 e ∧ s + 1 ≤ e ∧ e ≤ n ∧ Hid (e ≤ nxtM rs s) ∧ Hid (R wr ∧ J pre wr))
        (fun v5 _ => n - (intOf v5).toNat)
      case atStart => exact ⟨s + 1, by go_num, Nat.le_refl _, by omega, Lib.hid (by have := nxtM_lt hsr; omega), HRJ0⟩
      case round =>
        obtain ⟨e, rfl, he1, he2, HE, HRJ⟩ := hrel
        have hne : Nonempty (WIn (fun W => R W ∧ J pre W)) := ⟨⟨_, HRJ.out⟩⟩
        have k1 : ∀ p : WIn (fun W => R W ∧ J pre W), p.w.cell? ⟨b1, 0, none⟩ = some (.slice (some ⟨g, off, none⟩) n c) := fun p => H.c1 _ p.ok.1
        have k2 : ∀ p : WIn (fun W => R W ∧ J pre W), p.w.cell? ⟨b2, 0, none⟩ = some (.func (.func 27) #[] #[]) := fun p => H.c2 _ p.ok.1
        have HD : Hid (∀ W, R W ∧ J pre W → ∀ W', Below W.heap.size W W' → R W' ∧ J pre W') := Lib.hid fun W h W' hb => ⟨H.below _ _ h.1 hb, HJJ.out _ _ _ h.2 hb⟩
        by_cases hen : e < n
        · have henz : (e : Int) < (n : Int) := by omega
          obtain ⟨t0, y0, ⟨p0, q0, r0⟩, ⟨p3, q3, r3⟩, ⟨p4, q4, r4⟩, ⟨p5, q5, r5⟩, ⟨p6, q6, r6⟩, e0⟩ := H.shape s (by omega)
          obtain ⟨t1, y1, ⟨p0', q0', r0'⟩, ⟨p3', q3', r3'⟩, ⟨p4', q4', r4'⟩, ⟨p5', q5', r5'⟩, ⟨p6', q6', r6'⟩, e1⟩ := H.shape e (by omega)
          simp only at e0 e1
          have f0 := fun p : WIn (fun W => R W ∧ J pre W) => (H.el _ p.ok.1 s (by omega) _ _ _ _ _ _ _ e0)
          have f1 := fun p : WIn (fun W => R W ∧ J pre W) => (H.el _ p.ok.1 e (by omega) _ _ _ _ _ _ _ e1)
          have g0 := fun p => (f0 p).1; have g1 := fun p => (f0 p).2.1; have g2 := fun p => (f0 p).2.2.1; have g3 := fun p => (f0 p).2.2.2.1; have g4 := fun p => (f0 p).2.2.2.2.1; have g5 := fun p => (f0 p).2.2.2.2.2.1; have g6 := fun p => (f0 p).2.2.2.2.2.2
          have j0 := fun p => (f1 p).1; have j1 := fun p => (f1 p).2.1; have j2 := fun p => (f1 p).2.2.1; have j3 := fun p => (f1 p).2.2.2.1; have j4 := fun p => (f1 p).2.2.2.2.1; have j5 := fun p => (f1 p).2.2.2.2.2.1; have j6 := fun p => (f1 p).2.2.2.2.2.2
          have hcg := fun p : WIn (fun W => R W ∧ J pre W) => CallsIn.cls (C := fun W => R W ∧ J pre W) (callsIn_wide (n := nf - 1) |>.2 ((H.same _ p.ok.1 s e (by omega) (by omega) (by omega) (by omega)).mono fun _ _ ⟨hq, hb⟩ => ⟨hq, HD.out _ p.ok _ hb⟩))
          rw [e0, e1] at hcg
          obtain ⟨sm, hsm⟩ : ∃ sm, sameR (rs[s]'(by omega)) (rs[e]'(by omega)) = sm := ⟨_, rfl⟩
          rw [hsm] at hcg
          have HSM := Lib.hid hsm
          have hn1 : 1 ≤ nf - 1 := by omega
          clear f0 f1 e0 e1 hsm
          cases sm
          · have HWHY : Hid (e = rs.length ∨ ∃ he : e < rs.length, sameR (rs[s]'hsr) (rs[e]'he) = false) := Lib.hid (Or.inr ⟨by omega, HSM.out⟩)
            gi_wp2_with fail
            refine wpIn_region_cls (fun W => R W ∧ J pre W) rfl follows_mixed (by kernel_rfl) (HD.out _ HRJ.out _ (below_drew0 _)) ?_
            repeat (gi_big_quiet_step (fail))
            refine wpQuietIn_step (fun _ _ _ _ => trivial) (fun K hK => ?_)
            go_simp
            apply Exists.intro
            refine ⟨fun q => (by first | exact hcg q | exact ⟨fun _ => (by omega), hcg q⟩), hK _ ?_⟩
            clear hK K
            repeat (gi_big_quiet_step (fail))
            refine wpQuietIn_nil ?_
            rintro _ ⟨p, rfl⟩
            have HRJ := Lib.hid p.ok
            clear k1 k2 g0 g1 g2 g3 g4 g5 g6 j0 j1 j2 j3 j4 j5 j6 hcg
            have hcs : ¬ c = s := by omega
            have hnx := nxtM_stop (rs := rs) (s := s) (e := e) (by omega) he1 HE.out (HWHY.out)
            obtain ⟨HRp, hJp⟩ := HRJ.out
            have hx : s < e ∧ e ≤ n := ⟨by omega, by omega⟩
            obtain ⟨fn, tmps, assign, body, hy, hR⟩ := hY pre ⟨(s, e), hx⟩ p.w hJp (by have := HP.out.2; omega)
            unfold segV at hy
            simp only at hy
            have hc1 := H.c1 _ HRp
            have HRR := Lib.hid hR
            have HNX := Lib.hid hnx
            have HX := Lib.hid hx
            have HRP := Lib.hid HRp
            have hse : (s : Int) ≤ (e : Int) := by omega
            have hec : (e : Int) ≤ (c : Int) := by omega
            have hes : ((e : Int) - (s : Int)).toNat = e - s := by omega
            have hcz : ((c : Int) - (s : Int)).toNat = c - s := by omega
            clear hR hnx HRp hJp HRJ
            gi_wp2
            refine HRR.out.mono ?_
            rintro e' W3 (⟨rfl, hJ3, hk3⟩ | ⟨rfl, hJx3⟩)
            · have HR3 := Lib.hid (H.kp _ _ HRP.out hk3)
              have HJ3 := Lib.hid hJ3
              clear hJ3 hk3 HRR
              gi_wp2
              go_roundw
              case measure => simp [intOf]; omega
              case rel =>
                refine ⟨e, pre ++ [⟨(s, e), HX.out⟩], rfl, by omega, Lib.hid ⟨?_, by have := HP.out.2; simp; omega⟩, HJ3, HR3⟩
                have hp := HP.out.1
                rw [leftM_step (by omega), ← HNX.out] at hp
                simpa using hp
            · gi_wp2
              refine bodyPost_ret (results_none rfl _ _ _) rfl ?_
              exact ⟨⟨_, rfl⟩, .inr ⟨_, hJx3⟩⟩
          · have hmo : e + 1 ≤ nxtM rs s := nxtM_more hsr he1 HE.out (by omega) HSM.out
            have HMO := Lib.hid hmo
            clear hmo
            gi_wp2_with fail
            refine wpIn_region_cls (fun W => R W ∧ J pre W) rfl follows_mixed (by kernel_rfl) (HD.out _ HRJ.out _ (below_drew0 _)) ?_
            repeat (gi_big_quiet_step (fail))
            refine wpQuietIn_step (fun _ _ _ _ => trivial) (fun K hK => ?_)
            go_simp
            apply Exists.intro
            refine ⟨fun q => (by first | exact hcg q | exact ⟨fun _ => (by omega), hcg q⟩), hK _ ?_⟩
            clear hK K
            repeat (gi_big_quiet_step (fail))
            refine wpQuietIn_nil ?_
            rintro _ ⟨p, rfl⟩
            have HRJ := Lib.hid p.ok
            clear k1 k2 g0 g1 g2 g3 g4 g5 g6 j0 j1 j2 j3 j4 j5 j6 hcg
            gi_wp2
            go_roundw
            case measure => simp [intOf]; omega
            case rel => exact ⟨e + 1, by go_num, by omega, by omega, HMO, HRJ⟩
        · obtain rfl : n = e := by omega
          have HWHY : Hid (n = rs.length ∨ ∃ he : n < rs.length, sameR (rs[s]'hsr) (rs[n]'he) = false) := Lib.hid (Or.inl (by omega))
          gi_wp2_with fail
          refine wpIn_region_cls (fun W => R W ∧ J pre W) rfl follows_mixed (by kernel_rfl) (HD.out _ HRJ.out _ (below_drew0 _)) ?_
          repeat (gi_big_quiet_step (fail))
          refine wpQuietIn_step (fun _ _ _ _ => trivial) (fun K hK => ?_)
          go_simp
          refine hK _ ?_
          clear hK K
          repeat (gi_big_quiet_step (fail))
          refine wpQuietIn_nil ?_
          rintro _ ⟨p, rfl⟩
          have HRJ := Lib.hid p.ok
          clear k1 k2
          have hcs : ¬ c = s := by omega
          have hnx := nxtM_stop (rs := rs) (s := s) (e := n) (by omega) he1 HE.out (HWHY.out)
          obtain ⟨HRp, hJp⟩ := HRJ.out
          have hx : s < n ∧ n ≤ n := ⟨by omega, by omega⟩
          obtain ⟨fn, tmps, assign, body, hy, hR⟩ := hY pre ⟨(s, n), hx⟩ p.w hJp (by have := HP.out.2; omega)
          unfold segV at hy
          simp only at hy
          have hc1 := H.c1 _ HRp
          have HRR := Lib.hid hR
          have HNX := Lib.hid hnx
          have HX := Lib.hid hx
          have HRP := Lib.hid HRp
          have hse : (s : Int) ≤ (n : Int) := by omega
          have hec : (n : Int) ≤ (c : Int) := by omega
          have hes : ((n : Int) - (s : Int)).toNat = n - s := by omega
          have hcz : ((c : Int) - (s : Int)).toNat = c - s := by omega
          clear hR hnx HRp hJp HRJ
          gi_wp2
          refine HRR.out.mono ?_
          rintro e' W3 (⟨rfl, hJ3, hk3⟩ | ⟨rfl, hJx3⟩)
          · have HR3 := Lib.hid (H.kp _ _ HRP.out hk3)
            have HJ3 := Lib.hid hJ3
            clear hJ3 hk3 HRR
            gi_wp2
            go_roundw
            case measure => simp [intOf]; omega
            case rel =>
              refine ⟨n, pre ++ [⟨(s, n), HX.out⟩], rfl, by omega, Lib.hid ⟨?_, by have := HP.out.2; simp; omega⟩, HJ3, HR3⟩
              have hp := HP.out.1
              rw [leftM_step (by omega), ← HNX.out] at hp
              simpa using hp
          · gi_wp2
            refine bodyPost_ret (results_none rfl _ _ _) rfl ?_
            exact ⟨⟨_, rfl⟩, .inr ⟨_, hJx3⟩⟩
    · obtain rfl : s = n := by omega
      gi_wp2
      go_end0
      have hp := HP.out.1
      rw [leftM_end rs (by omega), List.append_nil] at hp
      exact ⟨⟨_, rfl⟩, .inl ⟨pre, hp, HJ.out⟩⟩
end
end Go.Proofs.Ytfcdajldpnomfaa

/-
  rec.fresh: a record anew, in memory of its own.
-/
namespace Go.Proofs.Ytfcdajldpnomfaa
set_option maxRecDepth 20000
open Go.RowKit Go.Shelf
set_option maxRecDepth 20000
set_option linter.unusedVariables false
set_option linter.unusedSimpArgs false

theorem ownG_of_C {α : Type} {T : TypeId} {enc : α → Value} {W : World} {base : Nat} {v : Value} {xs : List α} (h : OwnC 1 T W base v (xs.map fun x => [enc x])) : OwnG T enc W base v xs := by
  unfold OwnG
  have e : (xs.map fun x => [enc x]).flatMap (fun cs => cs) = xs.map enc := by
    have : ∀ xs : List α, (xs.map fun x => [enc x]).flatMap (fun cs => cs) = xs.map enc := fun xs => by
      induction xs with
      | nil => rfl
      | cons x r ih => rw [List.map_cons, List.flatMap_cons, ih]; rfl
    exact this xs
  unfold OwnC OwnK at h
  rw [e, List.length_map] at h
  exact h
theorem results_rec {fn : Func} {t : Tmp} (h : fn.results = #[.cell t 53]) (tmps : Array Value) (W : World) {a : Nat} {x0 x1 x2 x3 x4 x5 x6 : Value}
    (ht : tmps.getD t undef = .pointer (some ⟨a, 0, none⟩)) (hb : W.heap[a]? = some (.cells #[x0, x1, x2, x3, x4, x5, x6] 53)) : (results fn tmps).run Try.prog W = .ok (.agg #[x0, x1, x2, x3, x4, x5, x6]) W := by
  have ht' : tmps[t]?.getD undef = .pointer (some ⟨a, 0, none⟩) := by rw [← ht]; simp
  have hu : ∀ w, Sem.run Try.prog (underlying 53) w = .ok _ w := run_underlying Try.underlying53
  have y0 := kcell hb 0 _ rfl; have y1 := kcell hb 1 _ rfl; have y2 := kcell hb 2 _ rfl; have y3 := kcell hb 3 _ rfl; have y4 := kcell hb 4 _ rfl; have y5 := kcell hb 5 _ rfl; have y6 := kcell hb 6 _ rfl
  simp [results, h, ht', loadVar, asAddr, go_sem, hu, y0, y1, y2, y3, y4, y5, y6, isAgg]
theorem OwnNms.snoc {W w' : World} {base : Nat} {v v' : Value} {vs : List SlV} {ns : List Nm} {x : SlV} {l : Nm} (h1 : OwnG 38 slEnc W base v vs) (h2 : vs.length = ns.length) (h3 : ∀ j (h1 : j < vs.length) (h2 : j < ns.length), OwnG 9 strV W base (slEnc vs[j]) ns[j])
    (hx : OwnG 9 strV W base (slEnc x) l) (hn : OwnG 38 slEnc w' base v' (vs ++ [x])) (hg : W.grownBy w' v.ownBlock) : OwnNms w' base v' (ns ++ [l]) := by
  refine ⟨vs ++ [x], hn, by simp; omega, fun j a b => ?_⟩
  by_cases hj : j < vs.length
  · rw [List.getElem_append_left hj, List.getElem_append_left (by omega)]
    exact (h3 j hj (by omega)).kept2 h1 (by decide) hg
  · obtain rfl : j = vs.length := by simp at a; omega
    have e1 : (vs ++ [x])[vs.length]'a = x := by simp
    have e2 : (ns ++ [l])[vs.length]'b = l := by simp [h2]
    rw [e1, e2]
    exact hx.kept2 h1 (by decide) hg

theorem DRow.keepB {W : World} {base : Nat} {vn vu vt vr : Value} {d : Dat} (h : DRow W base vn vu vt vr d) {B : Nat} {cs : Array Value} (hB : W.heap[B]? = some (.cells cs 53)) (j : Nat) (u : Value) : DRow (W.setCell ⟨B, j, none⟩ u) base vn vu vt vr d := by
  obtain ⟨⟨vs, h1, h2, h3⟩, i1, i2, i3⟩ := h
  exact ⟨⟨vs, h1.keptB hB (by decide) j u, h2, fun i a b => (h3 i a b).keptB hB (by decide) j u⟩, i1.keptB hB (by decide) j u, i2.keptB hB (by decide) j u, i3.keptB hB (by decide) j u⟩
/-- A record whose rows are all its own. -/
def FrAt (W : World) (base : Nat) (cs : List Value) (r : Rc) : Prop :=
  ∃ vo vn vu vt vr, cs = [vo, .int .u32 (r.ttl : Int), .int .i64 r.data.ty, vn, vu, vt, vr] ∧ OwnG 9 strV W base vo r.owner ∧ DRow W base vn vu vt vr r.data
theorem FrAt.rcAt {W : World} {base : Nat} {cs : List Value} {r : Rc} (h : FrAt W base cs r) : RcAt W cs r := by
  obtain ⟨vo, vn, vu, vt, vr, e, h1, h2⟩ := h
  exact ⟨vo, vn, vu, vt, vr, e, h1.nmAt, h2.datAt⟩
theorem FrAt.below {W W' : World} {base : Nat} {cs : List Value} {r : Rc} (h : FrAt W base cs r) (hb : Below W.heap.size W W') : FrAt W' base cs r := by
  obtain ⟨vo, vn, vu, vt, vr, e, h1, h2⟩ := h
  exact ⟨vo, vn, vu, vt, vr, e, h1.below hb, h2.below hb⟩
theorem FrAt.keepB {W : World} {base : Nat} {cs : List Value} {r : Rc} (h : FrAt W base cs r) {B : Nat} {xs : Array Value} (hB : W.heap[B]? = some (.cells xs 53)) (j : Nat) (u : Value) : FrAt (W.setCell ⟨B, j, none⟩ u) base cs r := by
  obtain ⟨vo, vn, vu, vt, vr, e, h1, h2⟩ := h
  exact ⟨vo, vn, vu, vt, vr, e, h1.keptB hB (by decide) j u, h2.keepB hB j u⟩
/-- .. under what a row of records of its own does to its block. -/
theorem OwnC.ne_block {k : Nat} {T : TypeId} {W : World} {base : Nat} {v : Value} {xss : List (List Value)} (h : OwnC k T W base v xss) {B : Nat} {cs : Array Value} {t : TypeId} (hB : W.heap[B]? = some (.cells cs t)) (ht : t ≠ T) : some B ≠ v.ownBlock := by
  intro e
  rcases h.2 with ⟨rfl, _⟩ | ⟨g, cap, cur, rfl, _, hg, _⟩
  · cases e
  · simp only [Value.ownBlock] at e
    cases e
    rw [hg] at hB
    injection hB with hB
    injection hB with h1 h2
    exact ht h2.symm
theorem OwnG.kept_c {α : Type} {T T' : TypeId} {enc : α → Value} {W W' : World} {base base' k : Nat} {v v' : Value} {xs : List α} {yss : List (List Value)} (h : OwnG T enc W base v xs) (h' : OwnC k T' W base' v' yss) (hT : T ≠ T') (hg : W.grownBy W' v'.ownBlock) : OwnG T enc W' base v xs := by
  refine h.kept hg ?_
  rcases h.2 with ⟨rfl, _⟩ | ⟨g, cap, cur, rfl, _, hh, _⟩
  · left; rfl
  · right
    intro e
    exact h'.ne_block hh hT e
theorem FrAt.grown {W W' : World} {base base' : Nat} {cs : List Value} {r : Rc} {v' : Value} {yss : List (List Value)} (h : FrAt W base cs r) (h' : OwnC 7 53 W base' v' yss) (hg : W.grownBy W' v'.ownBlock) : FrAt W' base cs r := by
  obtain ⟨vo, vn, vu, vt, vr, e, h1, ⟨⟨vs, k1, k2, k3⟩, i1, i2, i3⟩⟩ := h
  exact ⟨vo, vn, vu, vt, vr, e, h1.kept_c h' (by decide) hg, ⟨⟨vs, k1.kept_c h' (by decide) hg, k2, fun i a b => (k3 i a b).kept_c h' (by decide) hg⟩, i1.kept_c h' (by decide) hg, i2.kept_c h' (by decide) hg, i3.kept_c h' (by decide) hg⟩⟩
theorem FrAt.weaken {W : World} {base b2 : Nat} {cs : List Value} {r : Rc} (h : FrAt W base cs r) (hb : b2 ≤ base) : FrAt W b2 cs r := by
  obtain ⟨vo, vn, vu, vt, vr, e, h1, ⟨⟨vs, k1, k2, k3⟩, i1, i2, i3⟩⟩ := h
  exact ⟨vo, vn, vu, vt, vr, e, h1.weaken hb, ⟨⟨vs, k1.weaken hb, k2, fun i a b => (k3 i a b).weaken hb⟩, i1.weaken hb, i2.weaken hb, i3.weaken hb⟩⟩
def FreshPost (w : World) (r : Rc) (e : Ending) (w' : World) : Prop := ∃ cs, e = .returned (.agg cs.toArray) ∧ FrAt w' w.heap.size cs r ∧ Below w.heap.size w w'
/-- The three boxes. -/
structure FrB (w : World) (vo : Value) (t x : Int) (vn vu vt vr un uu ut ur : Value) (W : World) : Prop where
  p : W.heap[w.heap.size]? = some (.cells #[vo, .int .u32 t, .int .i64 x, vn, vu, vt, vr] 53)
  q : W.heap[w.heap.size + 1]? = some (.cells #[.slice none 0 0, .int .u32 0, .int .i64 0, .slice none 0 0, .slice none 0 0, .slice none 0 0, .slice none 0 0] 53)
  d : W.heap[w.heap.size + 1 + 1]? = some (.cells #[.int .i64 x, un, uu, ut, ur] 31)
theorem FrB.below {w W W' : World} {vo : Value} {t x : Int} {vn vu vt vr un uu ut ur : Value} (h : FrB w vo t x vn vu vt vr un uu ut ur W) (hb : Below W.heap.size W W') : FrB w vo t x vn vu vt vr un uu ut ur W' :=
  ⟨(hb.block _ (kblock_lt h.p)).trans h.p, (hb.block _ (kblock_lt h.q)).trans h.q, (hb.block _ (kblock_lt h.d)).trans h.d⟩
theorem FrB.grown {w W W' : World} {vo : Value} {t x : Int} {vn vu vt vr un uu ut ur : Value} (h : FrB w vo t x vn vu vt vr un uu ut ur W) {α : Type} {T : TypeId} {enc : α → Value} {base : Nat} {v : Value} {xs : List α} (ho : OwnG T enc W base v xs) (h1 : 53 ≠ T) (h2 : 31 ≠ T) (hg : W.grownBy W' v.ownBlock) : FrB w vo t x vn vu vt vr un uu ut ur W' :=
  ⟨(hg.block _ (kblock_lt h.p) (ho.ne_block h.p h1)).trans h.p, (hg.block _ (kblock_lt h.q) (ho.ne_block h.q h1)).trans h.q, (hg.block _ (kblock_lt h.d) (ho.ne_block h.d h2)).trans h.d⟩
theorem FrB.put {w W : World} {vo : Value} {t x : Int} {vn vu vt vr un uu ut ur : Value} (h : FrB w vo t x vn vu vt vr un uu ut ur W) (j : Nat) (u : Value) {un' uu' ut' ur' : Value} (hj : #[Value.int .i64 x, un, uu, ut, ur].setIfInBounds j u = #[.int .i64 x, un', uu', ut', ur']) :
    FrB w vo t x vn vu vt vr un' uu' ut' ur' (W.setCell ⟨w.heap.size + 1 + 1, j, none⟩ u) := by
  refine ⟨((grownBy_set W _ j u).block _ (kblock_lt h.p) (by simp; omega)).trans h.p, ((grownBy_set W _ j u).block _ (kblock_lt h.q) (by simp)).trans h.q, ?_⟩
  have := block_set h.d j u
  rw [hj] at this
  exact this
/-- The rows so far. -/
structure FrR (w : World) (r : Rc) (un : Value) (W : World) : Prop where
  names : OwnNms W w.heap.size un r.data.names
  below : Below w.heap.size w W
theorem FrR.next {w W W' : World} {r : Rc} {un : Value} (h : FrR w r un W) (hb : Below W.heap.size W W') : FrR w r un W' := ⟨h.names.below hb, h.below.trans (hb.mono h.below.size)⟩
theorem FrR.put {w W : World} {r : Rc} {un : Value} (h : FrR w r un W) {cs : Array Value} (hB : W.heap[w.heap.size + 1 + 1]? = some (.cells cs 31)) (j : Nat) (u : Value) : FrR w r un (W.setCell ⟨w.heap.size + 1 + 1, j, none⟩ u) :=
  ⟨h.names.keptB hB j u, h.below.setCell (p := ⟨w.heap.size + 1 + 1, j, none⟩) (by simp; omega) u⟩

/-- What the last region keeps. -/
structure SF (w : World) (r : Rc) (vo : Value) (t x : Int) (vn vu vt vr un uu ut ur : Value) (W : World) : Prop where
  p : W.heap[w.heap.size]? = some (.cells #[vo, .int .u32 t, .int .i64 x, vn, vu, vt, vr] 53)
  d : W.heap[w.heap.size + 1 + 1]? = some (.cells #[.int .i64 x, un, uu, ut, ur] 31)
  q : ∃ cs, W.heap[w.heap.size + 1]? = some (.cells cs 53) ∧ cs.size = 7
  row : DRow W w.heap.size un uu ut ur r.data
  below : Below w.heap.size w W
theorem SF.keep {w W W' : World} {r : Rc} {vo : Value} {t x : Int} {vn vu vt vr un uu ut ur : Value} (h : SF w r vo t x vn vu vt vr un uu ut ur W) (hb : Below W.heap.size W W') : SF w r vo t x vn vu vt vr un uu ut ur W' := by
  obtain ⟨cs, hq, hs⟩ := h.q
  exact ⟨(hb.block _ (kblock_lt h.p)).trans h.p, (hb.block _ (kblock_lt h.d)).trans h.d, ⟨cs, (hb.block _ (kblock_lt hq)).trans hq, hs⟩, h.row.below hb, h.below.trans (hb.mono h.below.size)⟩
theorem SF.put {w W : World} {r : Rc} {vo : Value} {t x : Int} {vn vu vt vr un uu ut ur : Value} (h : SF w r vo t x vn vu vt vr un uu ut ur W) (j : Nat) (u : Value) : SF w r vo t x vn vu vt vr un uu ut ur (W.setCell ⟨w.heap.size + 1, j, none⟩ u) := by
  obtain ⟨cs, hq, hs⟩ := h.q
  exact ⟨((grownBy_set W _ j u).block _ (kblock_lt h.p) (by simp)).trans h.p, ((grownBy_set W _ j u).block _ (kblock_lt h.d) (by simp)).trans h.d, ⟨_, block_set hq j u, by simp [hs]⟩, h.row.keepB hq j u, h.below.setCell (p := ⟨w.heap.size + 1, j, none⟩) (by simp) u⟩
theorem arr7 {cs : Array Value} (h : cs.size = 7) : ∃ q0 q1 q2 q3 q4 q5 q6, cs = #[q0, q1, q2, q3, q4, q5, q6] := by
  obtain ⟨l⟩ := cs
  match l, h with
  | [q0, q1, q2, q3, q4, q5, q6], _ => exact ⟨q0, q1, q2, q3, q4, q5, q6, rfl⟩
/-- The region's S. -/
def SS (w : World) (r : Rc) (vo : Value) (t x : Int) (vn vu vt vr un uu ut ur : Value) (W : World) : Prop :=
  W.cell? ⟨w.heap.size, 0, none⟩ = some vo ∧ W.cell? ⟨w.heap.size, 1, none⟩ = some (.int .u32 t) ∧ W.cell? ⟨w.heap.size + 1 + 1, 0, none⟩ = some (.int .i64 x) ∧ W.cell? ⟨w.heap.size + 1 + 1, 1, none⟩ = some un ∧ W.cell? ⟨w.heap.size + 1 + 1, 2, none⟩ = some uu ∧ W.cell? ⟨w.heap.size + 1 + 1, 3, none⟩ = some ut ∧ W.cell? ⟨w.heap.size + 1 + 1, 4, none⟩ = some ur ∧ SF w r vo t x vn vu vt vr un uu ut ur W
theorem SF.ss {w W : World} {r : Rc} {vo : Value} {t x : Int} {vn vu vt vr un uu ut ur : Value} (h : SF w r vo t x vn vu vt vr un uu ut ur W) : SS w r vo t x vn vu vt vr un uu ut ur W :=
  ⟨kcell h.p 0 _ rfl, kcell h.p 1 _ rfl, kcell h.d 0 _ rfl, kcell h.d 1 _ rfl, kcell h.d 2 _ rfl, kcell h.d 3 _ rfl, kcell h.d 4 _ rfl, h⟩
theorem SS.sf {w W : World} {r : Rc} {vo : Value} {t x : Int} {vn vu vt vr un uu ut ur : Value} (h : SS w r vo t x vn vu vt vr un uu ut ur W) : SF w r vo t x vn vu vt vr un uu ut ur W := h.2.2.2.2.2.2.2

set_option maxRecDepth 100000 in
set_option maxHeartbeats 16000000 in
theorem rec_fresh (cs : List Value) (r : Rc) (w : World) (hA : RcAt w cs r) (hk : RcOK r) :
    Calls Try.prog 28 #[.agg cs.toArray] w (FreshPost w r) := by
  obtain ⟨vo, vn, vu, vt, vr, rfl, a1, a2⟩ := hA
  obtain ⟨un, uu, ut, ur, e, n1, n2, n3, n4⟩ := a2
  have e' : #[Value.int .i64 r.data.ty, vn, vu, vt, vr] = #[Value.int .i64 r.data.ty, un, uu, ut, ur] := by injection e
  simp only [Array.mk.injEq, List.cons.injEq, and_true, true_and] at e'
  obtain ⟨rfl, rfl, rfl, rfl⟩ := e'
  clear e
  have HA := Lib.hid a1
  have HU := Lib.hid n2
  have HTX := Lib.hid n3
  have HRW := Lib.hid n4
  have HNMS := Lib.hid n1
  obtain ⟨vs, s1, sl, s2⟩ := n1
  obtain ⟨an, cn, rfl, x1⟩ := id s1
  obtain ⟨ao, co, rfl, -⟩ := nmAt_sl.1 a1
  obtain ⟨au, cu, rfl, -⟩ := n2
  obtain ⟨ax, cx, rfl, -⟩ := nmAt_sl.1 n3
  obtain ⟨ar, cr, rfl, -⟩ := n4
  obtain ⟨no, hno⟩ : ∃ m, (List.map strV r.owner).length = m := ⟨_, rfl⟩
  obtain ⟨nu, hnu⟩ : ∃ m, (List.map u32V r.data.nums).length = m := ⟨_, rfl⟩
  obtain ⟨nx, hnx⟩ : ∃ m, (List.map strV r.data.texts).length = m := ⟨_, rfl⟩
  obtain ⟨nr, hnr⟩ : ∃ m, (List.map bv r.data.raw).length = m := ⟨_, rfl⟩
  obtain ⟨n, hn⟩ : ∃ n, vs.length = n := ⟨_, rfl⟩
  obtain ⟨x, hx⟩ : ∃ x, r.data.ty = x := ⟨_, rfl⟩
  obtain ⟨t, ht⟩ : ∃ t, (r.ttl : Int) = t := ⟨_, rfl⟩
  have hnb : n ≤ 1048576 := by have := hk.2.2.2.1; omega
  have hcl : ∀ W, Below w.heap.size w W → ∀ j (hj : j < vs.length), ∃ b off, an = some ⟨b, off, none⟩ ∧ b < w.heap.size ∧ W.cell? ⟨b, off + j, none⟩ = some vs[j] := fun W hb j hj => s1.cell hb j hj
  have s2' : ∀ j (h1 : j < vs.length) (h2 : j < r.data.names.length), NmAt w vs[j] r.data.names[j] := fun j h1 _ => s2 j h1
  have HS2 := Lib.hid s2'
  have HK := Lib.hid hk; have HN := Lib.hid hn; have HX := Lib.hid hx; have HT := Lib.hid ht; have HSL := Lib.hid sl
  rw [hno] at HA ⊢
  rw [hnu] at HU ⊢
  rw [hnx] at HTX ⊢
  rw [hnr] at HRW ⊢
  rw [hn] at HNMS s1 ⊢
  rw [hx, ht]
  have hncn : n ≤ cn := by omega
  have HCL := Lib.hid hcl
  clear a1 s2 s2' hk hn hx ht hno hnu hnx hnr sl x1 hcl s1
  obtain ⟨W3, hW3⟩ : ∃ W3, ((w.alloc (.cells #[.slice ao no co, .int .u32 t, .int .i64 x, .slice an n cn, .slice au nu cu, .slice ax nx cx, .slice ar nr cr] 53)).alloc (.cells #[.slice none 0 0, .int .u32 0, .int .i64 0, .slice none 0 0, .slice none 0 0, .slice none 0 0, .slice none 0 0] 53)).alloc (.cells #[.int .i64 x, .slice an n cn, .slice au nu cu, .slice ax nx cx, .slice ar nr cr] 31) = W3 := ⟨_, rfl⟩
  have HF0 : Hid (FrB w (.slice ao no co) t x (.slice an n cn) (.slice au nu cu) (.slice ax nx cx) (.slice ar nr cr) (.slice an n cn) (.slice au nu cu) (.slice ax nx cx) (.slice ar nr cr) W3) := by
    rw [← hW3]
    refine Lib.hid ⟨?_, ?_, ?_⟩
    · exact (Below.heap_alloc _ _ _ (by simp; omega)).trans ((Below.heap_alloc _ _ _ (by simp)).trans (knew w _))
    · have := knew (w.alloc (.cells #[.slice ao no co, .int .u32 t, .int .i64 x, .slice an n cn, .slice au nu cu, .slice ax nx cx, .slice ar nr cr] 53)) (.cells #[.slice none 0 0, .int .u32 0, .int .i64 0, .slice none 0 0, .slice none 0 0, .slice none 0 0, .slice none 0 0] 53)
      rw [World.size_alloc] at this
      exact (Below.heap_alloc _ _ _ (by simp)).trans this
    · have := knew ((w.alloc (.cells #[.slice ao no co, .int .u32 t, .int .i64 x, .slice an n cn, .slice au nu cu, .slice ax nx cx, .slice ar nr cr] 53)).alloc (.cells #[.slice none 0 0, .int .u32 0, .int .i64 0, .slice none 0 0, .slice none 0 0, .slice none 0 0, .slice none 0 0] 53)) (.cells #[.int .i64 x, .slice an n cn, .slice au nu cu, .slice ax nx cx, .slice ar nr cr] 31)
      rw [World.size_alloc, World.size_alloc] at this
      exact this
  have HB0 : Hid (Below w.heap.size w W3) := by rw [← hW3]; exact Lib.hid ((((Below.refl _ w).alloc (Nat.le_refl _) _).alloc (by simp) _).alloc (by simp; omega) _)
  have HW3 := Lib.hid hW3
  clear hW3
  go_enter Try.func28, Try.ntmps28
  go_wp2
  rw [HW3.out]
  go_loopw [4, 12] (fun v4 vi wr => ∃ (k : Nat) (ga : Option Addr) (gc : Nat), v4 = .slice ga k gc ∧ vi = .int .i64 k ∧ k ≤ n ∧ Hid (OwnNms wr w.heap.size (.slice ga k gc) (r.data.names.take k)) ∧ Hid (FrB w (.slice ao no co) t x (.slice an n cn) (.slice au nu cu) (.slice ax nx cx) (.slice ar nr cr) (.slice an n cn) (.slice au nu cu) (.slice ax nx cx) (.slice ar nr cr) wr) ∧ Hid (Below w.heap.size w wr)) (fun _ vi _ => n - (intOf vi).toNat)
  case atStart => exact ⟨0, none, 0, rfl, rfl, Nat.zero_le _, Lib.hid (OwnNms.nil _ _), HF0, HB0⟩
  case round =>
    obtain ⟨k, ga, gc, rfl, rfl, hk, HO, HF, HB⟩ := hrel
    by_cases hlt : k < n
    · have hltz : (k : Int) < (n : Int) := by omega
      have hk1 : k < vs.length := by have := HN.out; omega
      have hk2 : k < r.data.names.length := by have := HSL.out; omega
      obtain ⟨b, off, rfl, hb, hcell⟩ := HCL.out wr HB.out k hk1
      have hnm := HS2.out k hk1 hk2
      have hnmr := hnm.below (W' := wr) HB.out
      have hok : NmOK r.data.names[k] := HK.out.2.2.2.2.1 _ (List.getElem_mem hk2)
      obtain ⟨av, cv, ev, -⟩ := nmAt_sl.1 hnm
      rw [ev] at hcell hnmr
      obtain ⟨m, hm⟩ : ∃ m, (List.map strV r.data.names[k]).length = m := ⟨_, rfl⟩
      rw [hm] at hcell hnmr
      have hcl := fun W (hb : Below wr.heap.size wr W) => clone_Name (.slice av m cv) r.data.names[k] W (hnmr.below hb).1 (hnmr.below hb).2 (by have := hok.1; omega)
      have hc0 := hcl wr (Below.refl _ _)
      have HK2 := Lib.hid hk2
      have HTK := Lib.hid (show r.data.names.take (k + 1) = r.data.names.take k ++ [r.data.names[k]] from List.take_succ_eq_append_getElem hk2)
      generalize r.data.names[k] = nm at hc0 HTK
      clear hcl hnm hnmr hok ev hm hk1 hk2
      go_wp2_with fail
      refine hc0.mono ?_
      rintro e w2 ⟨v', rfl, hown, hb2⟩
      have HF2 := Lib.hid (HF.out.below hb2)
      have HB2 := Lib.hid (HB.out.trans (hb2.mono HB.out.size))
      obtain ⟨a2, c2, rfl⟩ := hown.shape
      obtain ⟨m2, hm2⟩ : ∃ m, nm.length = m := ⟨_, rfl⟩
      obtain ⟨vs', hv1, hv2, hv3⟩ := HO.out.below hb2
      have hvk : vs'.length = k := by rw [hv2, List.length_take]; have := HK2.out; omega
      have hown' : OwnG 9 strV w2 w.heap.size (slEnc (a2, m2, c2)) nm := by rw [← hm2]; exact hown.weaken HB.out.size
      have HV := Lib.hid (And.intro hv2 hv3)
      have HOWN := Lib.hid hown'
      have HC := Lib.hid (show [Value.slice a2 m2 c2] = [((a2, m2, c2) : SlV)].map slEnc from rfl)
      have hz2 := HB2.out.size
      have HVK := Lib.hid hvk
      rw [hm2]
      clear hv2 hv3 hown hown' hm2 hb2 hc0 hcell hvk
      go_wp2_with (at_builtin; refine wpl_append_g w2 rfl (.tmp 16) (.tmp 19) elemNames rfl slEnc_one w.heap.size (.slice ga k gc) vs' rfl hv1 [.slice a2 m2 c2] [((a2, m2, c2) : SlV)] HC.out 1 1 rfl rfl hz2 (by have := HVK.out; unfold maxLen; simp; omega) (by have := HVK.out; simp; omega) ?_; intro v3 w3 hown3 hg3)
      have HO3 : Hid (OwnNms w3 w.heap.size v3 (r.data.names.take (k + 1))) := by
        rw [HTK.out]
        exact Lib.hid (OwnNms.snoc hv1 HV.out.1 HV.out.2 HOWN.out hown3 hg3)
      have HF3 := Lib.hid (HF2.out.grown hv1 (by decide) (by decide) hg3)
      have HB3 := Lib.hid (HB2.out.grown hg3 hz2 hv1.base_le)
      obtain ⟨a3, c3, rfl⟩ := hown3.shape
      have hl3 : (vs' ++ [((a2, m2, c2) : SlV)]).length = k + 1 := by rw [List.length_append, HVK.out]; rfl
      rw [hl3] at HO3
      clear hown3 hg3 hv1
      go_roundw
      case measure => simp [intOf]; omega
      case rel => exact ⟨k + 1, a3, c3, by rw [hl3], by go_num, by omega, HO3, HF3, HB3⟩
    · obtain rfl : k = n := by omega
      have HO1 : Hid (OwnNms wr w.heap.size (.slice ga k gc) r.data.names) := by
        have h := HO.out
        rw [List.take_of_length_le (by have := HN.out; have := HSL.out; omega)] at h
        exact Lib.hid h
      have HFR1 : Hid (FrR w r (.slice ga k gc) (wr.setCell ⟨w.heap.size + 1 + 1, 1, none⟩ (.slice ga k gc))) := Lib.hid (FrR.put ⟨HO1.out, HB.out⟩ HF.out.d 1 _)
      have HF1 : Hid (FrB w (.slice ao no co) t x (.slice an k cn) (.slice au nu cu) (.slice ax nx cx) (.slice ar nr cr) (.slice ga k gc) (.slice au nu cu) (.slice ax nx cx) (.slice ar nr cr) (wr.setCell ⟨w.heap.size + 1 + 1, 1, none⟩ (.slice ga k gc))) := Lib.hid (HF.out.put 1 _ rfl)
      have d1 := kcell HF.out.d 1 _ rfl
      have f1 := kfrozen HF.out.d 1
      have d2 := kcell HF.out.d 2 _ rfl
      have d2' := kcell HF1.out.d 2 _ rfl
      have hcu := clone_u32 (.slice au nu cu) ((r.data.nums.map u32V).map fun x => [x]) (wr.setCell ⟨w.heap.size + 1 + 1, 1, none⟩ (.slice ga k gc)) (slK_one (HU.out.below HFR1.out.below)) (by simp) (by simp [u32V]; try (intros; rfl)) (by simp; have := HK.out.2.2.2.2.2.1; omega)
      clear HO HO1 HB HCL HS2
      go_wp2_with fail
      refine hcu.mono ?_
      rintro e w4 ⟨v4, rfl, ho4, hb4⟩
      obtain ⟨m4, hm4⟩ : ∃ m, r.data.nums.length = m := ⟨_, rfl⟩
      have ho4' : OwnG 37 u32V w4 w.heap.size v4 r.data.nums := by
        rw [List.map_map] at ho4
        exact (ownG_of_C ho4).weaken HFR1.out.below.size
      obtain ⟨a4, c4, rfl⟩ := ho4'.shape
      have hf4 := HF1.out.below hb4
      have HFRA := Lib.hid ((HFR1.out.next hb4).put hf4.d 2 (.slice a4 r.data.nums.length c4))
      have HFA := Lib.hid (hf4.put 2 (.slice a4 r.data.nums.length c4) rfl)
      have HNA := Lib.hid (ho4'.keptB hf4.d (by decide) 2 (.slice a4 r.data.nums.length c4))
      have d3 := kcell hf4.d 2 _ rfl
      have f3 := kfrozen hf4.d 2
      have d4 := kcell HFA.out.d 3 _ rfl
      have hcx := clone_str (.slice ax nx cx) ((r.data.texts.map strV).map fun x => [x]) _ (slK_one (nmAt_sl.1 (HTX.out.below HFRA.out.below))) (by simp) (by simp [strV]; try (intros; rfl)) (by simp; have := HK.out.2.2.2.2.2.2.2.1.1; omega)
      rw [hm4] at HFRA HFA HNA hcx d4 ⊢
      clear ho4 ho4' hf4 hb4 d1 f1 d2 d2' HFR1 HF1 HF hcu
      go_wp2_with fail
      refine hcx.mono ?_
      rintro e w5 ⟨v5, rfl, ho5, hb5⟩
      obtain ⟨m5, hm5⟩ : ∃ m, r.data.texts.length = m := ⟨_, rfl⟩
      have ho5' : OwnG 9 strV w5 w.heap.size v5 r.data.texts := by
        rw [List.map_map] at ho5
        exact (ownG_of_C ho5).weaken HFRA.out.below.size
      obtain ⟨a5, c5, rfl⟩ := ho5'.shape
      have hf5 := HFA.out.below hb5
      have HFRB := Lib.hid ((HFRA.out.next hb5).put hf5.d 3 (.slice a5 r.data.texts.length c5))
      have HFB := Lib.hid (hf5.put 3 (.slice a5 r.data.texts.length c5) rfl)
      have HNB := Lib.hid ((HNA.out.below hb5).keptB hf5.d (by decide) 3 (.slice a5 r.data.texts.length c5))
      have HXB := Lib.hid (ho5'.keptB hf5.d (by decide) 3 (.slice a5 r.data.texts.length c5))
      have d5 := kcell hf5.d 3 _ rfl
      have f5 := kfrozen hf5.d 3
      have d6 := kcell HFB.out.d 4 _ rfl
      have hcr := clone_byte (.slice ar nr cr) ((r.data.raw.map bv).map fun x => [x]) _ (slK_one (HRW.out.below HFRB.out.below)) (by simp) (by simp [bv]; try (intros; rfl)) (by simp; have := HK.out.2.2.2.2.2.2.2.2; omega)
      rw [hm5] at HFRB HFB HNB HXB hcr d6 ⊢
      clear ho5 ho5' hf5 hb5 d3 f3 d4 HFRA HFA HNA hcx
      go_wp2_with fail
      refine hcr.mono ?_
      rintro e w6 ⟨v6, rfl, ho6, hb6⟩
      obtain ⟨m6, hm6⟩ : ∃ m, r.data.raw.length = m := ⟨_, rfl⟩
      have ho6' : OwnG 5 bv w6 w.heap.size v6 r.data.raw := by
        rw [List.map_map] at ho6
        exact (ownG_of_C ho6).weaken HFRB.out.below.size
      obtain ⟨a6, c6, rfl⟩ := ho6'.shape
      have hf6 := HFB.out.below hb6
      have HFRC := Lib.hid ((HFRB.out.next hb6).put hf6.d 4 (.slice a6 r.data.raw.length c6))
      have HFC := Lib.hid (hf6.put 4 (.slice a6 r.data.raw.length c6) rfl)
      have HNC := Lib.hid ((HNB.out.below hb6).keptB hf6.d (by decide) 4 (.slice a6 r.data.raw.length c6))
      have HXC := Lib.hid ((HXB.out.below hb6).keptB hf6.d (by decide) 4 (.slice a6 r.data.raw.length c6))
      have HRC := Lib.hid (ho6'.keptB hf6.d (by decide) 4 (.slice a6 r.data.raw.length c6))
      have d7 := kcell hf6.d 4 _ rfl
      have f7 := kfrozen hf6.d 4
      rw [hm6] at HFRC HFC HNC HXC HRC ⊢
      clear ho6 ho6' hf6 hb6 d5 f5 d6 HFRB HFB HNB HXB hcr
      go_wp2_with fail
      have hSF0 : SF w r (.slice ao no co) t x (.slice an k cn) (.slice au nu cu) (.slice ax nx cx) (.slice ar nr cr) (.slice ga k gc) (.slice a4 m4 c4) (.slice a5 m5 c5) (.slice a6 m6 c6) (w6.setCell ⟨w.heap.size + 1 + 1, 4, none⟩ (.slice a6 m6 c6)) :=
        ⟨HFC.out.p, HFC.out.d, ⟨_, HFC.out.q, rfl⟩, ⟨HFRC.out.names, HNC.out, HXC.out, HRC.out⟩, HFRC.out.below⟩
      generalize w6.setCell ⟨w.heap.size + 1 + 1, 4, none⟩ (.slice a6 m6 c6) = wB at hSF0 ⊢
      have hS0 := hSF0.ss
      have HCN := Lib.hid (fun (W : World) (h : SS w r (.slice ao no co) t x (.slice an k cn) (.slice au nu cu) (.slice ax nx cx) (.slice ar nr cr) (.slice ga k gc) (.slice a4 m4 c4) (.slice a5 m5 c5) (.slice a6 m6 c6) W) => clone_Name (.slice ao no co) r.owner W (HA.out.below h.sf.below).1 (HA.out.below h.sf.below).2 (by have := HK.out.1.1; omega))
      have KS := Lib.hid (fun (W W' : World) (h : SS w r (.slice ao no co) t x (.slice an k cn) (.slice au nu cu) (.slice ax nx cx) (.slice ar nr cr) (.slice ga k gc) (.slice a4 m4 c4) (.slice a5 m5 c5) (.slice a6 m6 c6) W) (hb : Below W.heap.size W W') => (h.sf.keep hb).ss)
      have KP := Lib.hid (fun (W : World) (y0 y1 y2 y3 y4 y5 y6 : Value) (h : SS w r (.slice ao no co) t x (.slice an k cn) (.slice au nu cu) (.slice ax nx cx) (.slice ar nr cr) (.slice ga k gc) (.slice a4 m4 c4) (.slice a5 m5 c5) (.slice a6 m6 c6) W) => (((((((h.sf.put 0 y0).put 1 y1).put 2 y2).put 3 y3).put 4 y4).put 5 y5).put 6 y6).ss)
      have KD := Lib.hid (fun (W : World) (h : SS w r (.slice ao no co) t x (.slice an k cn) (.slice au nu cu) (.slice ax nx cx) (.slice ar nr cr) (.slice ga k gc) (.slice a4 m4 c4) (.slice a5 m5 c5) (.slice a6 m6 c6) W) => KS.out W W.drew h (below_drewQ (Below.refl _ _) 1))
      unfold SS at hS0 HCN KS KP KD
      clear hSF0 d7 f7 HFRC HFC HNC HXC HRC HU HTX HRW HNMS
      go_region_held3 (fun W => W.cell? ⟨w.heap.size, 0, none⟩ = some (.slice ao no co) ∧ W.cell? ⟨w.heap.size, 1, none⟩ = some (.int .u32 t) ∧ W.cell? ⟨w.heap.size + 1 + 1, 0, none⟩ = some (.int .i64 x) ∧ W.cell? ⟨w.heap.size + 1 + 1, 1, none⟩ = some (.slice ga k gc) ∧ W.cell? ⟨w.heap.size + 1 + 1, 2, none⟩ = some (.slice a4 m4 c4) ∧ W.cell? ⟨w.heap.size + 1 + 1, 3, none⟩ = some (.slice a5 m5 c5) ∧ W.cell? ⟨w.heap.size + 1 + 1, 4, none⟩ = some (.slice a6 m6 c6) ∧ SF w r (.slice ao no co) t x (.slice an k cn) (.slice au nu cu) (.slice ax nx cx) (.slice ar nr cr) (.slice ga k gc) (.slice a4 m4 c4) (.slice a5 m5 c5) (.slice a6 m6 c6) W)
        (first | with_reducible assumption | (with_reducible exact KD.out _ (by with_reducible assumption)) | (with_reducible exact KP.out _ _ _ _ _ _ _ _ (by with_reducible assumption)))
        (first | ((with_reducible refine (HCN.out _ (by with_reducible assumption)).mono ?_); rintro e w7 ⟨v7, rfl, ho7, hb7⟩; obtain ⟨a7, c7, rfl⟩ := ho7.shape; have hS2 := KS.out _ _ (by assumption) hb7; have hq7 := hS2.2.2.2.2.2.2.2.q; obtain ⟨cs7, hq7, hs7⟩ := hq7; obtain ⟨q0, q1, q2, q3, q4, q5, q6, rfl⟩ := arr7 hs7; have fz0 := kfrozen hq7 0; have cl0 := kcell hq7 0 _ rfl; have fz1 := kfrozen hq7 1; have cl1 := kcell hq7 1 _ rfl; have fz2 := kfrozen hq7 2; have cl2 := kcell hq7 2 _ rfl; have fz3 := kfrozen hq7 3; have cl3 := kcell hq7 3 _ rfl; have fz4 := kfrozen hq7 4; have cl4 := kcell hq7 4 _ rfl; have fz5 := kfrozen hq7 5; have cl5 := kcell hq7 5 _ rfl; have fz6 := kfrozen hq7 6; have cl6 := kcell hq7 6 _ rfl))
      go_wp2_with fail
      have HS7 := hS2.2.2.2.2.2.2.2
      have hsz : w.heap.size ≤ wB.heap.size := hS0.2.2.2.2.2.2.2.below.size
      have hown7 : OwnG 9 strV w7 w.heap.size (.slice a7 r.owner.length c7) r.owner := ho7.weaken hsz
      clear ho7
      have hb_0 := block_set hq7 0 (.slice a7 r.owner.length c7)
      have ho_0 := hown7.keptB hq7 (by decide) 0 (.slice a7 r.owner.length c7)
      have hb_1 := block_set hb_0 1 (.int .u32 t)
      have ho_1 := ho_0.keptB hb_0 (by decide) 1 (.int .u32 t)
      have hb_2 := block_set hb_1 2 (.int .i64 x)
      have ho_2 := ho_1.keptB hb_1 (by decide) 2 (.int .i64 x)
      have hb_3 := block_set hb_2 3 (.slice ga k gc)
      have ho_3 := ho_2.keptB hb_2 (by decide) 3 (.slice ga k gc)
      have hb_4 := block_set hb_3 4 (.slice a4 m4 c4)
      have ho_4 := ho_3.keptB hb_3 (by decide) 4 (.slice a4 m4 c4)
      have hb_5 := block_set hb_4 5 (.slice a5 m5 c5)
      have ho_5 := ho_4.keptB hb_4 (by decide) 5 (.slice a5 m5 c5)
      have hb_6 := block_set hb_5 6 (.slice a6 m6 c6)
      have ho_6 := ho_5.keptB hb_5 (by decide) 6 (.slice a6 m6 c6)
      have hsN := (((((((HS7.put 0 (.slice a7 r.owner.length c7)).put 1 (.int .u32 t)).put 2 (.int .i64 x)).put 3 (.slice ga k gc)).put 4 (.slice a4 m4 c4)).put 5 (.slice a5 m5 c5)).put 6 (.slice a6 m6 c6))
      have hqN : (_ : World).heap[w.heap.size + 1]? = some (.cells #[.slice a7 r.owner.length c7, .int .u32 t, .int .i64 x, .slice ga k gc, .slice a4 m4 c4, .slice a5 m5 c5, .slice a6 m6 c6] 53) := hb_6
      refine bodyPost_ret (results_rec rfl _ _ rfl hqN) rfl ?_
      exact ⟨[.slice a7 r.owner.length c7, .int .u32 t, .int .i64 x, .slice ga k gc, .slice a4 m4 c4, .slice a5 m5 c5, .slice a6 m6 c6], rfl, ⟨_, _, _, _, _, by rw [HT.out, HX.out], ho_6, hsN.row⟩, hsN.below⟩
end Go.Proofs.Ytfcdajldpnomfaa

/-
  What rec.Canon's loop keeps; the runs' row; an append of one record inside a fence.
-/
namespace Go.Proofs.Ytfcdajldpnomfaa
set_option maxRecDepth 20000
open Go.RowKit Go.Shelf
set_option maxRecDepth 20000
set_option linter.unusedVariables false
set_option linter.unusedSimpArgs false

theorem wplIn_append_c {S T : TypeId} {k bytes : Nat} {F : Fence} {n : Nat} {ops : Array Oper} {rest : List Oper} {o : Oper} {a : Act} {Q : Exit → Act → World → Prop} (W : World) (hgd : o.guard = none) (s x : Operand) (hE : ElemK k T S bytes) (hk0 : 0 < k)
    (ho : o.op = .call { callee := .builtin .append, args := #[s, x], argTypes := #[S, S] })
    (base : Nat) (v : Value) (xs : List (List Value)) (hs : a.eval s = v) (hown : OwnC k T W base v xs)
    (cs : List Value) (hcl : cs.length = k) (hc1 : ∀ u ∈ cs, u.oneCell' = true) (c : Nat) (hx : a.eval x = .slice (some ⟨W.heap.size, 0, none⟩) 1 c)
    (hbase : base ≤ W.heap.size) (hk : xs.length + 1 ≤ maxLen) (hk2 : (xs.length + 1) * bytes ≤ 140737488355328)
    (h : ∀ v' w', OwnC k T w' base v' (xs ++ [cs]) → W.grownBy w' v.ownBlock → wpListIn F n Try.prog ops Q rest (a.put o.dst v') w') :
    wpListIn F n Try.prog ops Q (o :: rest) a (W.alloc (.cells cs.toArray T)) := by
  obtain ⟨ht, i, z, hi, hz, hz1, hz2, hzc⟩ := hE
  refine wpListIn_append_own _ hgd s x S ho base T i z k bytes ht hi hz hz1 hz2 hzc hk0 v xs.length (xs.flatMap fun cs => cs) hs (hown.alloc _) ⟨W.heap.size, 0, none⟩ 1 c cs hx (by omega) (cells_new W _ _) hc1 hk hk2 (by simp; omega) ?_
  intro v' w' h1 h2 _
  refine h v' w' ?_ (grownBy_of_alloc h2)
  unfold OwnC OwnK
  rw [List.length_append, List.flatMap_append]
  have e : [cs].flatMap (fun cs => cs) = cs := by simp
  rw [e]
  exact h1

set_option maxHeartbeats 400000 in
theorem rec_runs (a : Option Addr) (n c : Nat) (w : World) :
    Calls Try.prog 24 #[.slice a n c, .func (.func 27) #[] #[]] w fun e w' => e = .returned (.func (.func 40) #[] #[.pointer (some ⟨w.heap.size, 0, none⟩), .pointer (some ⟨w.heap.size + 1, 0, none⟩)]) ∧ w' = (w.alloc (.cells #[.slice a n c] 43)).alloc (.cells #[.func (.func 27) #[] #[]] 70) := by
  go_enter Try.func24, Try.ntmps24
  go_wp2
  go_ret
  exact ⟨rfl, rfl⟩

/-- All blocks below n0 but B lie as they lay. -/
structure KpX (n0 B : Nat) (W W' : World) : Prop where
  os : W'.os = W.os
  tape : W'.tape = W.tape
  output : W'.output = W.output
  size : W.heap.size ≤ W'.heap.size
  block : ∀ k, k < n0 → k ≠ B → W'.heap[k]? = W.heap[k]?
theorem KpX.refl (n0 B : Nat) (W : World) : KpX n0 B W W := ⟨rfl, rfl, rfl, Nat.le_refl _, fun _ _ _ => rfl⟩
theorem KpX.trans {n0 B : Nat} {W W' W'' : World} (h : KpX n0 B W W') (k : KpX n0 B W' W'') : KpX n0 B W W'' :=
  ⟨k.os.trans h.os, k.tape.trans h.tape, k.output.trans h.output, Nat.le_trans h.size k.size, fun i a b => (k.block i a b).trans (h.block i a b)⟩
theorem KpX.grown {n0 B : Nat} {W W' : World} {row : Option Nat} (hn : n0 ≤ W.heap.size) (hg : W.grownBy W' row) (hr : ∀ r, row = some r → n0 ≤ r ∨ r = B) : KpX n0 B W W' :=
  ⟨hg.os, hg.tape, hg.output, hg.size, fun i a b => hg.block i (by omega) (fun e => by rcases hr i e.symm with h | h <;> omega)⟩
theorem grown_of_below {W W' : World} (hb : Below W.heap.size W W') : W.grownBy W' none := ⟨hb.os, hb.tape, hb.output, hb.size, fun k hk _ => hb.block k hk⟩
theorem KpX.of_below {n0 B : Nat} {W W' : World} (hn : n0 ≤ W.heap.size) (hb : Below W.heap.size W W') : KpX n0 B W W' := KpX.grown hn (grown_of_below hb) (fun r e => by cases e)
theorem KpX.below {n0 B m : Nat} {W W' : World} (h : KpX n0 B W W') (h1 : m ≤ B) (h2 : m ≤ n0) : Below m W W' := ⟨h.os, h.tape, h.output, h.size, fun k hk => h.block k (by omega) (by omega)⟩

theorem OwnG.keptO {α : Type} {T : TypeId} {enc : α → Value} {W W' : World} {row : Option Nat} {base : Nat} {v : Value} {xs : List α} (h : OwnG T enc W base v xs) (hg : W.grownBy W' row) (hr : ∀ r, row = some r → ∃ o : Obj, W.heap[r]? = some o ∧ o.isCells = false) : OwnG T enc W' base v xs := by
  cases row with
  | none => exact h.kept hg (by cases v.ownBlock <;> simp)
  | some r =>
    obtain ⟨o, h1, h2⟩ := hr r rfl
    exact h.kept hg (.inr fun e => h.ne_of h1 h2 e.symm)
theorem FrAt.keptO {W W' : World} {row : Option Nat} {base : Nat} {cs : List Value} {r : Rc} (h : FrAt W base cs r) (hg : W.grownBy W' row) (hr : ∀ r, row = some r → ∃ o : Obj, W.heap[r]? = some o ∧ o.isCells = false) : FrAt W' base cs r := by
  obtain ⟨vo, vn, vu, vt, vr, e, h1, ⟨⟨vs, k1, k2, k3⟩, i1, i2, i3⟩⟩ := h
  exact ⟨vo, vn, vu, vt, vr, e, h1.keptO hg hr, ⟨⟨vs, k1.keptO hg hr, k2, fun i a b => (k3 i a b).keptO hg hr⟩, i1.keptO hg hr, i2.keptO hg hr, i3.keptO hg hr⟩⟩
theorem OwnC.blk {k : Nat} {T : TypeId} {W : World} {base : Nat} {v : Value} {xss : List (List Value)} (h : OwnC k T W base v xss) : ∀ b, v.ownBlock = some b → ∃ cs, W.heap[b]? = some (.cells cs T) := by
  intro b e
  rcases h.2 with ⟨rfl, _⟩ | ⟨g, cap, cur, rfl, _, hg, _⟩
  · cases e
  · simp only [Value.ownBlock] at e
    cases e
    exact ⟨_, hg⟩
theorem OwnC.keptO {k : Nat} {T : TypeId} {W W' : World} {row : Option Nat} {base : Nat} {v : Value} {xss : List (List Value)} (h : OwnC k T W base v xss) (hg : W.grownBy W' row) (hr : ∀ r, row = some r → ∃ o : Obj, W.heap[r]? = some o ∧ o.isCells = false) : OwnC k T W' base v xss := by
  refine OwnK.kept h hg ?_
  cases row with
  | none => cases v.ownBlock <;> simp
  | some r =>
    obtain ⟨o, h1, h2⟩ := hr r rfl
    right
    intro e
    obtain ⟨cs, h3⟩ := h.blk r e
    rw [h1] at h3; cases h3; cases h2

/-- The records made so far. -/
def OutAt (n0 B : Nat) (rs : List Rc) (xs : List (Nat × Nat)) (W : World) : Prop :=
  ∃ v css, Boxed W B 43 v ∧ OwnC 7 53 W n0 v css ∧ css.length = xs.length ∧ ∀ j (h1 : j < css.length) (h2 : j < xs.length), FrAt W n0 css[j] (runR rs xs[j])
def CanI (n0 B : Nat) (W0 : World) (rs : List Rc) {n : Nat} (pre : List (Seg n)) (W : World) : Prop := KpX n0 B W0 W ∧ OutAt n0 B rs (pre.map (·.1)) W
theorem OutAt.keptO {n0 B : Nat} {rs : List Rc} {xs : List (Nat × Nat)} {W W' : World} {row : Option Nat} (hB : B < n0) (h : OutAt n0 B rs xs W) (hg : W.grownBy W' row) (hr : ∀ r, row = some r → n0 ≤ r ∧ ∃ o : Obj, W.heap[r]? = some o ∧ o.isCells = false) : OutAt n0 B rs xs W' := by
  obtain ⟨v, css, h1, h2, h3, h4⟩ := h
  exact ⟨v, css, h1.kept hg (fun e => by have := (hr B e.symm).1; omega), h2.keptO hg (fun r e => (hr r e).2), h3, fun j a b => (h4 j a b).keptO hg (fun r e => (hr r e).2)⟩
theorem OutAt.below {n0 B : Nat} {rs : List Rc} {xs : List (Nat × Nat)} {W W' : World} (hB : B < n0) (h : OutAt n0 B rs xs W) (hb : Below W.heap.size W W') : OutAt n0 B rs xs W' := h.keptO hB (grown_of_below hb) (fun r e => by cases e)
theorem canI_own {n0 B : Nat} {W0 : World} {rs : List Rc} {n : Nat} (hB : B < n0) (hn : n0 ≤ W0.heap.size) : OwnFrom n0 (CanI (n := n) n0 B W0 rs) := by
  rintro pre W W' row ⟨h1, h2⟩ hg hr
  exact ⟨h1.trans (KpX.grown (Nat.le_trans hn h1.size) hg (fun r e => .inl (hr r e).1)), h2.keptO hB hg hr⟩
/-- One more. -/
theorem OutAt.snoc {n0 B : Nat} {rs : List Rc} {xs : List (Nat × Nat)} {x : Nat × Nat} {W W' : World} {v v' : Value} {css : List (List Value)} {cs : List Value} (hB : Boxed W B 43 v) (ho : OwnC 7 53 W n0 v css) (hl : css.length = xs.length) (hf : ∀ j (h1 : j < css.length) (h2 : j < xs.length), FrAt W n0 css[j] (runR rs xs[j]))
    (hc : FrAt W n0 cs (runR rs x)) (ho' : OwnC 7 53 W' n0 v' (css ++ [cs])) (hg : W.grownBy W' v.ownBlock) : OutAt n0 B rs (xs ++ [x]) (W'.setCell ⟨B, 0, none⟩ v') := by
  have hne : some B ≠ v.ownBlock := ho.ne_block hB (by decide)
  have hB' : Boxed W' B 43 v := hB.kept hg hne
  refine ⟨v', css ++ [cs], hB'.set v', OwnK.keptB ho' hB' (by decide) 0 v', by simp [hl], fun j a b => ?_⟩
  have hk : ∀ {cs : List Value} {r : Rc}, FrAt W n0 cs r → FrAt (W'.setCell ⟨B, 0, none⟩ v') n0 cs r := by
    intro cs r h
    have h' := h.grown ho hg
    obtain ⟨vo, vn, vu, vt, vr, e, h1, ⟨⟨vs, k1, k2, k3⟩, i1, i2, i3⟩⟩ := h'
    exact ⟨vo, vn, vu, vt, vr, e, h1.keptB hB' (by decide) 0 v', ⟨⟨vs, k1.keptB hB' (by decide) 0 v', k2, fun i a b => (k3 i a b).keptB hB' (by decide) 0 v'⟩, i1.keptB hB' (by decide) 0 v', i2.keptB hB' (by decide) 0 v', i3.keptB hB' (by decide) 0 v'⟩⟩
  by_cases hj : j < css.length
  · rw [List.getElem_append_left hj, List.getElem_append_left (by omega)]
    exact hk (hf j hj (by omega))
  · obtain rfl : j = css.length := by simp at a; omega
    have e1 : (css ++ [cs])[css.length]'a = cs := by simp
    have e2 : (xs ++ [x])[css.length]'b = x := by simp [hl]
    rw [e1, e2]
    exact hk hc
/-- A piece of a row of records. -/
theorem SlK.cut {W : World} {g off n c : Nat} {css : List (List Value)} (hk : ∀ cs ∈ css, cs.length = 7) (hn : css.length = n) (hnc : n ≤ c) (hg : g < W.heap.size)
    (hc : ∀ j u, css.flatten[j]? = some u → W.cell? ⟨g, off + j, none⟩ = some u) (s e : Nat) (h1 : s < e) (h2 : e ≤ n) :
    SlK W (.slice (some ⟨g, off + s * 7, none⟩) (e - s) (c - s)) ((css.drop s).take (e - s)) := by
  have hl : ((css.drop s).take (e - s)).length = e - s := by rw [List.length_take, List.length_drop]; omega
  refine ⟨some ⟨g, off + s * 7, none⟩, c - s, by rw [hl], by rw [hl]; omega, (fun e => by cases e), .inr ⟨g, off + s * 7, rfl, hg, fun j u hj => ?_⟩⟩
  have hsplit : css.flatten = (css.take s).flatten ++ (((css.drop s).take (e - s)).flatten ++ ((css.drop s).drop (e - s)).flatten) := by
    rw [← List.flatten_append, ← List.flatten_append, List.take_append_drop, List.take_append_drop]
  have hts : (css.take s).flatten.length = s * 7 := by
    rw [flat_len (k := 7) _ (fun x hx => hk x (List.mem_of_mem_take hx)), List.length_take]; congr 1; omega
  have := hc (s * 7 + j) u (by
    rw [hsplit, List.getElem?_append_right (by omega), hts, show s * 7 + j - s * 7 = j by omega]
    obtain ⟨hjl, _⟩ := List.getElem?_eq_some_iff.1 hj
    rw [List.getElem?_append_left hjl]; exact hj)
  rwa [← Nat.add_assoc] at this
theorem Rcs.cut {W : World} {css : List (List Value)} {rs : List Rc} (h : Rcs W css rs) (s m : Nat) : Rcs W ((css.drop s).take m) ((rs.drop s).take m) := by
  refine ⟨by simp [h.1], fun i h1 h2 => ?_⟩
  simp only [List.getElem_take, List.getElem_drop]
  rw [List.length_take, List.length_drop] at h1 h2
  exact h.2 _ (by omega) (by omega)
theorem runR_at {rs : List Rc} {s e : Nat} (h1 : s < e) (h2 : e ≤ rs.length) : ∃ y r, (rs.drop s).take (e - s) = y :: r ∧ y = rs[s] ∧ runR rs (s, e) = ⟨y.owner, leastM y.ttl r, y.data⟩ := by
  refine ⟨rs[s], (rs.drop (s + 1)).take (e - s - 1), ?_, rfl, ?_⟩
  · rw [List.drop_eq_getElem_cons (by omega)]
    obtain ⟨m, hm⟩ : ∃ m, e - s = m + 1 := ⟨e - s - 1, by omega⟩
    rw [hm, List.take_succ_cons]
    rfl
  · unfold runR
    rw [List.drop_eq_getElem_cons (show s < rs.length by omega)]
end Go.Proofs.Ytfcdajldpnomfaa

