/-
  Inside a fence: a region that draws its order, whose first n operations only read and whose others wait for all of them and for one another (a yield at its end, ..): one walk of the text's order serves. The kit's StillTail, over QuietThIn's laws.
-/
import Derived.Test.YtfcdajldpnomfaaMQ42
import Derived.StillTail
import Derived.Sort.QuietTacIn
import Derived.Test.YtfcdajldpnomfaaMQ36
import Derived.Test.YtfcdajldpnomfaaMQ30
import Derived.Test.YtfcdajldpnomfaaMQ20
import Derived.Deep.RegionHeld3
namespace Go.Proofs.Ytfcdajldpnomfaa
set_option maxRecDepth 20000
open Go.RowKit Go.Shelf

section
variable {F : Fence} {d : Nat} {P : Program} {ops : Array Oper} {md : Region.Mode} {C : World → Prop}

def wpAnyLIn (F : Fence) (d : Nat) (P : Program) (md : Region.Mode) (ops : Array Oper) (C : World → Prop) (n : Nat) (L : Array Bool → Act → Prop) : Nat → Array Bool → Act → Prop
  | 0, listed, a => L listed a
  | f + 1, listed, a =>
    Region.ready md ops listed ≠ [] ∧ ∀ i ∈ Region.ready md ops listed, i < n ∧ qOpIn F d P ops C i (wpAnyLIn F d P md ops C n L f (listed.setIfInBounds i true)) a

theorem wpAnyIn_of_head {n g : Nat} {L : Array Bool → Act → Prop} {Q' : Exit → Act → World → Prop} (hro : F.round = none) (hL : ∀ listed a w, C w → L listed a → wpAnyIn F d P md ops Q' g listed a w) :
    ∀ (f : Nat) (listed : Array Bool) (a : Act) (w : World), C w → wpAnyLIn F d P md ops C n L f listed a → wpAnyIn F d P md ops Q' (f + g) listed a w
  | 0, listed, a, w, hw, h => by rw [Nat.zero_add]; exact hL _ _ _ hw h
  | f + 1, listed, a, w, hw, h => by
    rw [show f + 1 + g = (f + g) + 1 by omega]
    exact ⟨fun h0 => absurd h0 h.1, fun i hi => wpOpIn_of_qOpIn hro hw (fun a' w' hw' h' => wpAnyIn_of_head hro hL f _ a' w' hw' h') (h.2 i hi).2⟩

theorem wpAnyLIn_first {n i : Nat} {oi : Oper} {v : Value} {L : Array Bool → Act → Prop} (hi : ops[i]? = some oi) (hsel : ∀ (j : Nat) (o : Oper) cs b, ops[j]? = some o → o.op ≠ .select cs b)
    (hs : Region.sinkB md ops n = true) (hc : Region.chainB md ops n = true) (hn : n < ops.size) (hin : i < n)
    (hdone : ∀ listed a, L listed a → ∀ j ∈ Region.ready md ops listed, n ≤ j) :
    ∀ (f : Nat) (listed : Array Bool) (a : Act), HeadInv md ops n listed →
      (∀ j oj, ops[j]? = some oj → j ≠ i → listed.getD j true = false → (∀ e ∈ oj.after, Region.binds md e = true → e.on ≠ i) → oi.apart ops oj = true) →
      i ∈ Region.ready md ops listed → YieldsQuiet F d P ops C oi v a →
      wpAnyLIn F d P md ops C n L f (listed.setIfInBounds i true) (a.put oi.dst v) → wpAnyLIn F d P md ops C n L (f + 1) listed a := by
  intro f
  induction f with
  | zero =>
    intro listed a inv _ hr hy H
    have hun := (mem_ready.1 hr).1
    refine ⟨fun h => (by rw [h] at hr; cases hr), fun j hj => ?_⟩
    have hjn : j < n := by
      rcases Nat.lt_or_ge j n with h | h
      · exact h
      · exact absurd hj (tail_waits hs hc hn inv _ i rfl hin hun j h)
    refine ⟨hjn, ?_⟩
    by_cases hji : j = i
    · subst hji; exact hy.qOpIn hi H
    · have := hdone _ _ H j (ready_mono hj hji)
      omega
  | succ f ih =>
    intro listed a inv hfree hr hy H
    have hun := (mem_ready.1 hr).1
    refine ⟨fun h => (by rw [h] at hr; cases hr), fun j hj => ?_⟩
    have hjn : j < n := by
      rcases Nat.lt_or_ge j n with h | h
      · exact h
      · exact absurd hj (tail_waits hs hc hn inv _ i rfl hin hun j h)
    refine ⟨hjn, ?_⟩
    by_cases hji : j = i
    · subst hji; exact hy.qOpIn hi H
    · have h1 := (H.2 j (ready_mono hj hji)).2
      obtain ⟨hjun, oj, hoj, hall⟩ := mem_ready.1 hj
      have hnot : ∀ e ∈ oj.after, Region.binds md e = true → e.on ≠ i := fun e he hb heq => by
        have h1 := hall e he hb
        rw [heq, getD_both hun] at h1
        cases h1
      have h2 := qOpIn_put hoj (hfree j oj hoj hji hjun hnot) (fun cs b => hsel i oi cs b hi) (fun cs b => hsel j oj cs b hoj) hy h1
      have hfree' : ∀ k ok, ops[k]? = some ok → k ≠ i → (listed.setIfInBounds j true).getD k true = false →
          (∀ e ∈ ok.after, Region.binds md e = true → e.on ≠ i) → oi.apart ops ok = true := fun k ok hk hki hun hno => by
        refine hfree k ok hk hki ?_ hno
        by_cases hjk : j = k
        · subst hjk; exact hjun
        · rw [getD_set_ne true hjk] at hun; exact hun
      refine qOpIn_mono (fun a' h3 => ih (listed.setIfInBounds j true) a' (inv.set hj hjn) hfree' (ready_mono hr (Ne.symm hji)) h3.1 ?_) h2
      rw [Array.setIfInBounds_comm _ _ hji]
      exact h3.2

theorem wpAnyIn_of_seq {Q' : Exit → Act → World → Prop} : ∀ (l : List Oper) (k : Nat) (listed : Array Bool) (a : Act) (w : World), (∀ j, l[j]? = ops[k + j]?) →
    Region.seqB md ops l.length k listed = true → wpListIn F d P ops Q' l a w → wpAnyIn F d P md ops Q' l.length listed a w
  | [], _, _, _, _, _, hB, h => ⟨by simpa [Region.seqB] using hB, h⟩
  | o :: l, k, listed, a, w, hl, hB, h => by
    have h0 : ops[k]? = some o := by simpa using (hl 0).symm
    simp only [List.length_cons, Region.seqB, Bool.and_eq_true, decide_eq_true_eq] at hB
    refine ⟨fun h1 => (by rw [hB.1] at h1; cases h1), fun i hi => ?_⟩
    rw [hB.1] at hi
    have hik : i = k := by simpa using hi
    subst hik
    have hw : wpOpIn F d P ops Q' i (wpListIn F d P ops Q' l) a w := by unfold wpOpIn; simp only [h0]; exact h
    exact wpOpIn_mono (fun a' w' h' => wpAnyIn_of_seq l (i + 1) _ a' w' (fun j => by have := hl (j + 1); simpa [Nat.add_assoc, Nat.add_comm 1 j] using this) hB.2 h') hw

theorem wpAnyLIn_lex {n g : Nat} {Lq : Act → Prop} (hsel : Region.noSelect ops = true) (hs : Region.sinkB md ops n = true) (hc : Region.chainB md ops n = true) (hn : n < ops.size) :
    ∀ (l : List Oper) (k : Nat) (listed : Array Bool) (a : Act), (∀ j, j < l.length → l[j]? = ops[k + j]?) → k + l.length = n → HeadInv md ops n listed →
    Region.lexHead md ops g l.length k listed = true → wpQuietIn F d P ops C Lq l a →
    wpAnyLIn F d P md ops C n (fun listed' a' => Region.seqB md ops g n listed' = true ∧ Lq a') l.length listed a
  | [], k, listed, a, _, hk, _, hB, h => by
    have : k = n := by simpa using hk
    subst this
    exact ⟨by simpa [Region.lexHead] using hB, h⟩
  | o :: l, k, listed, a, hl, hk, inv, hB, h => by
    have h0 : ops[k]? = some o := by simpa using (hl 0 (by simp)).symm
    simp only [List.length_cons, Region.lexHead, Bool.and_eq_true] at hB
    obtain ⟨⟨hr, hf⟩, hB'⟩ := hB
    have hkn : k < n := by simp only [List.length_cons] at hk; omega
    have hr' : k ∈ Region.ready md ops listed := by simpa using hr
    have hst : qOpIn F d P ops C k (wpQuietIn F d P ops C Lq l) a := by unfold qOpIn; simp only [h0]; exact h
    obtain ⟨v, hy, hK⟩ := yieldsQuiet_of_qOpIn h0 hst
    exact wpAnyLIn_first h0 (Region.noSelect_spec hsel) hs hc hn hkn (fun listed' a' hL => seqB_ready hL.1) l.length listed a inv (Region.free_spec h0 hf) hr' hy
      (wpAnyLIn_lex hsel hs hc hn l (k + 1) _ _ (fun j hj => by have := hl (j + 1) (by simp; omega); simpa [Nat.add_assoc, Nat.add_comm 1 j] using this) (by simp only [List.length_cons] at hk; omega) (inv.set hr' hkn) hB' hK)

theorem wpIn_region_tail {id : Nat} {Q : Exit → Act → World → Prop} {a : Act} {w : World} {l : List Oper} (n : Nat) (hro : F.round = none) (hm : P.follows .mixedOrders = true) (hB : Region.lexTailB .any l.toArray n = true)
    (h : wpQuietIn F d P l.toArray (fun w' => ∃ n, w' = w.drewN n) (fun a' => ∀ w', (∃ n, w' = w.drewN n) → wpListIn F d P l.toArray Q (l.drop n) a' w') (l.take n) a) : (Code.region id l.toArray true).wpIn F d P Q a w := by
  simp only [Region.lexTailB, Bool.and_eq_true, decide_eq_true_eq] at hB
  obtain ⟨⟨⟨⟨hsel, hn⟩, hs⟩, hc⟩, hlex⟩ := hB
  have hn' : n < l.length := by simpa using hn
  have htl : (l.take n).length = n := by simp; omega
  have hdl : (l.drop n).length = l.toArray.size - n := by simp
  have inv0 : HeadInv .any l.toArray n (Array.replicate l.toArray.size false) :=
    ⟨by simp, fun j oj _ hl => (by rw [getD_replicate_false] at hl; cases hl), fun t _ ht => getD_in (by simpa using ht) (getD_replicate_false _ _)⟩
  have H := wpAnyLIn_lex (md := .any) (g := l.toArray.size - n) hsel hs hc hn (l.take n) 0 _ a (fun j hj => by
    have hj' : j < n := by rw [htl] at hj; exact hj
    simp [hj']) (by simpa using htl) inv0 (by rw [htl]; exact hlex) h
  refine wpIn_region_any hm ?_
  have := wpAnyIn_of_head (Q' := Q) (g := l.toArray.size - n) hro (fun listed a' w' hw' hL => by
    have := wpAnyIn_of_seq (md := .any) (Q' := Q) (l.drop n) n listed a' w' (fun j => by simp [List.getElem?_drop]) (by rw [hdl]; exact hL.1) (hL.2 w' hw')
    rwa [hdl] at this) _ _ _ ({ w with drawn := w.drawn + 1 }) ⟨1, rfl⟩ H
  rw [htl, show n + (l.toArray.size - n) = l.toArray.size by omega] at this
  exact this

end
end Go.Proofs.Ytfcdajldpnomfaa

/-
  Names as lists of labels: reading a name (plain facts).
-/
namespace Go.Proofs.Ytfcdajldpnomfaa
set_option maxRecDepth 20000
open Go.RowKit Go.Shelf

def readN : Nm → Nm × Int
  | [] => ([], 0)
  | p :: r => if (parseM p).2 = 0 then (if (readN r).2 = 0 then ((parseM p).1 :: (readN r).1, 0) else ([], (readN r).2)) else ([], (parseM p).2)
/-- Is there a dot at the end? -/
def wholeN (ps : Nm) : Bool := decide (ps.getLast? = some [])
def partsN (ps : Nm) : Nm := if wholeN ps then ps.dropLast else ps
def endN (ps : Nm) (o : Nm) : Nm × Int :=
  if (readN (partsN ps)).2 = 0 then
    (if checkN (if wholeN ps then (readN (partsN ps)).1 else (readN (partsN ps)).1 ++ o) = 0 then (if wholeN ps then (readN (partsN ps)).1 else (readN (partsN ps)).1 ++ o, 0)
     else ([], checkN (if wholeN ps then (readN (partsN ps)).1 else (readN (partsN ps)).1 ++ o)))
  else ([], (readN (partsN ps)).2)
def parseN (s : List UInt8) (o : Nm) : Nm × Int :=
  if s = [64] then (o, 0) else if s = [46] then ([], 0) else if s = [] then ([], 8)
  else if (splitM s).2 = 0 then endN (splitM s).1 o else ([], (splitM s).2)

theorem readN_snoc (a : Nm) (x : List UInt8) (h : (readN a).2 = 0) : readN (a ++ [x]) = if (parseM x).2 = 0 then ((readN a).1 ++ [(parseM x).1], 0) else ([], (parseM x).2) := by
  induction a with
  | nil => simp only [List.nil_append, readN]; split <;> simp
  | cons p r ih =>
    simp only [List.cons_append, readN] at h ⊢
    by_cases e : (parseM p).2 = 0
    · rw [if_pos e] at h ⊢
      by_cases e2 : (readN r).2 = 0
      · rw [if_pos e, if_pos e2, ih e2]
        split <;> simp_all
      · rw [if_neg e2] at h; exact absurd h e2
    · rw [if_neg e] at h; exact absurd h e
theorem readN_stop {a p : Nm} (h : p <+: a) (hp : (readN p).2 ≠ 0) : readN a = ([], (readN p).2) := by
  obtain ⟨t, rfl⟩ := h
  induction p with
  | nil => simp [readN] at hp
  | cons x r ih =>
    simp only [List.cons_append, readN] at hp ⊢
    by_cases e : (parseM x).2 = 0
    · rw [if_pos e] at hp ⊢; rw [if_pos e]
      by_cases e2 : (readN r).2 = 0
      · rw [if_pos e2] at hp; simp at hp
      · have := ih e2; rw [this, if_neg e2, if_neg e2]
    · rw [if_neg e, if_neg e]
theorem checkL_mem {n : Nm} (h : checkL n = 0) : ∀ x ∈ n, checkLabelM x = 0 := by
  induction n with
  | nil => simp
  | cons y r ih =>
    simp only [checkL] at h
    by_cases e : checkLabelM y = 0
    · rw [if_pos e] at h; intro x hx; rcases List.mem_cons.1 hx with rfl | hx
      · exact e
      · exact ih h x hx
    · rw [if_neg e] at h; exact absurd h e
theorem checkN_L {n : Nm} (h : checkN n = 0) : checkL n = 0 := by
  unfold checkN at h; by_cases e : checkL n = 0
  · exact e
  · rw [if_neg e] at h; exact h
theorem checkLabelM_ok {l : List UInt8} (h : checkLabelM l = 0) : l ≠ [] ∧ l.length ≤ 63 := by
  unfold checkLabelM at h
  by_cases e : l = []
  · rw [if_pos e] at h; cases h
  · rw [if_neg e] at h
    by_cases e2 : 63 < l.length
    · rw [if_pos e2] at h; cases h
    · exact ⟨e, by omega⟩
theorem readN_text {n : Nm} (h : checkL n = 0) : readN (n.map textL) = (n, 0) := by
  induction n with
  | nil => rfl
  | cons x r ih =>
    have hx := checkL_mem h x (by simp)
    have hr : checkL r = 0 := by simp only [checkL] at h; rw [if_pos hx] at h; exact h
    have hp : parseM (textL x) = (x, 0) := by rw [parse_text, if_pos hx]
    simp only [List.map_cons, readN, hp, ih hr, if_true]
theorem joinL_flat : ∀ (n : Nm), n ≠ [] → joinL (n ++ [[]]) = n.flatMap fun x => textL x ++ [46] := by
  intro n hn
  rw [joinL_snoc hn]
  show joinL n ++ [46] ++ textL [] = _
  have ht : textL [] = [] := rfl
  rw [ht, List.append_nil]
  induction n with
  | nil => exact absurd rfl hn
  | cons x r ih =>
    by_cases hr : r = []
    · subst hr; simp [joinL]
    · have := ih hr
      rw [List.flatMap_cons, ← this]
      cases r with
      | nil => exact absurd rfl hr
      | cons y t => simp [joinL, List.append_assoc]

end Go.Proofs.Ytfcdajldpnomfaa

/-
  Contract of name.Compare.
-/
namespace Go.Proofs.Ytfcdajldpnomfaa
set_option maxRecDepth 20000
open Go.RowKit Go.Shelf

section
attribute [local go_sem] Oper.semAt_some
set_option maxRecDepth 100000 in
set_option maxHeartbeats 4000000 in
theorem name_Compare (v u : Value) (xs ys : Nm) (w : World) (hA : StrsAt w v xs) (hU : StrsAt w u ys) (hk : NmOK xs) (hk2 : NmOK ys) :
    Calls Try.prog 43 #[v, u] w fun e w' => e = .returned (.int .i64 (compareN xs ys)) ∧ Below w.heap.size w w' := by
  obtain ⟨a, c, rfl, _⟩ := id hA
  obtain ⟨a2, c2, rfl, _⟩ := id hU
  have hl1 := hk.1
  have hl2 := hk2.1
  refine (callsIn_wide (n := 5)).1 ?_
  refine callsIn_of_wp_marks Try.func43 rfl trivial ?_ rfl
  simp only [Try.ntmps43, List.size_toArray, List.length_cons, List.length_nil, Nat.reduceAdd, Nat.reduceSub, Array.replicate_succ, Array.replicate_zero, List.push_toArray, List.append_toArray, List.nil_append, List.cons_append]
  gi_wp2_with (refine ⟨trivial, ?_⟩; gi_at_call 74; refine (callsIn_wide.2 (name_upward _ _ _ _)).mono ?_; rintro e w' ⟨rfl, rfl⟩)
  obtain ⟨W0, hW0⟩ : ∃ W0, ((((w.alloc (.cells #[.slice a xs.length c] 38)).alloc (.cells #[.slice a2 ys.length c2] 38)).alloc (.cells #[.int .i64 0] 3)).alloc (.cells #[.slice a xs.length c] 38)) = W0 := ⟨_, rfl⟩
  have bA : Boxed W0 w.heap.size 38 (.slice a xs.length c) := by rw [← hW0]; exact (((Boxed.new w _ _).alloc _).alloc _).alloc _
  have bB : Boxed W0 (w.heap.size + 1) 38 (.slice a2 ys.length c2) := by
    have := Boxed.new (w.alloc (.cells #[.slice a xs.length c] 38)) 38 (.slice a2 ys.length c2)
    rw [World.size_alloc] at this
    rw [← hW0]; exact (this.alloc _).alloc _
  have bI : Boxed W0 (w.heap.size + 1 + 1) 3 (.int .i64 0) := by
    have := Boxed.new ((w.alloc (.cells #[.slice a xs.length c] 38)).alloc (.cells #[.slice a2 ys.length c2] 38)) 3 (.int .i64 0)
    rw [World.size_alloc, World.size_alloc] at this
    rw [← hW0]; exact this.alloc _
  have bV : Boxed W0 (w.heap.size + 1 + 1 + 1) 38 (.slice a xs.length c) := by
    have := Boxed.new (((w.alloc (.cells #[.slice a xs.length c] 38)).alloc (.cells #[.slice a2 ys.length c2] 38)).alloc (.cells #[.int .i64 0] 3)) 38 (.slice a xs.length c)
    rw [World.size_alloc, World.size_alloc, World.size_alloc] at this
    rw [← hW0]; exact this
  have hsz : W0.heap.size = w.heap.size + 4 := by rw [← hW0]; simp
  have hB0 : Below w.heap.size w W0 := by rw [← hW0]; exact ((((Below.refl _ w).alloc (Nat.le_refl _) _).alloc (by simp) _).alloc (by simp; omega) _).alloc (by simp; omega) _
  have hrow := hA.row_lt
  rw [hW0]
  have HZ := Lib.hid hsz; clear hsz hW0
  refine wpIn_rangeFunc_ownG rfl (by omega) (gf := 92) (lb := #[.pointer (some ⟨w.heap.size + 1 + 1 + 1, 0, none⟩)]) rfl trivial (enters_of Try.func92 (by kernel_rfl) rfl)
    (upward_stops _ (by omega) (w.heap.size + 1 + 1 + 1) (.slice a xs.length c) xs (by unfold maxLen; omega) W0 (by rw [HZ.out]; omega) bV.cell (hA.below hB0)) keepN_t (keepN_b (by rw [HZ.out]; omega) (fun g e => by have := hrow g e; rw [HZ.out]; omega)) (Below.refl _ _) (fun _ => rfl)
    (fun pre W => Boxed W w.heap.size 38 (.slice a xs.length c) ∧ Boxed W (w.heap.size + 1) 38 (.slice a2 ys.length c2) ∧ Boxed W (w.heap.size + 1 + 1) 3 (.int .i64 0) ∧ Below w.heap.size w W ∧ ∀ j ∈ pre, AlikeAt xs ys j)
    (fun k pre W => Boxed W w.heap.size 38 (.slice a xs.length c) ∧ Boxed W (w.heap.size + 1) 38 (.slice a2 ys.length c2) ∧ Below w.heap.size w W ∧ ∃ p x, pre = p ++ [x] ∧ (∀ j ∈ p, AlikeAt xs ys j) ∧
      ((k = .exit 0 ∧ ¬ xs.length ≤ x.val + ys.length ∧ Boxed W (w.heap.size + 1 + 1) 3 (.int .i64 0)) ∨ (k = .ret ∧ ∃ d, ∃ h : d < ys.length, x.val + ys.length = d + xs.length ∧ compareM xs[x] ys[d] ≠ 0 ∧ Boxed W (w.heap.size + 1 + 1) 3 (.int .i64 (compareM xs[x] ys[d])))))
    (OwnFrom.and (Own.from (boxed_own _ _ _) _) (OwnFrom.and (Own.from (boxed_own _ _ _) _) (OwnFrom.and (Own.from (boxed_own _ _ _) _) (OwnFrom.and (ownFrom_below (Nat.le_refl _) (by rw [HZ.out]; omega)) (ownFrom_pure _ _)))))
    ?hix
    ⟨bA, bB, bI, hB0, by simp⟩
    (fun j => { tmps := #[.slice a xs.length c, .slice a2 ys.length c2, .pointer (some ⟨w.heap.size, 0, none⟩), .pointer (some ⟨w.heap.size + 1, 0, none⟩), .pointer (some ⟨w.heap.size + 1 + 1, 0, none⟩), .int .i64 (j.val : Int), .string ⟨xs[j].toArray⟩, undef, undef, .slice a xs.length c, .func (.func 92) #[] #[.pointer (some ⟨w.heap.size + 1 + 1 + 1, 0, none⟩)], .int .i64 (j.val : Int), .string ⟨xs[j].toArray⟩, undef, undef, undef, undef, undef, undef, undef, undef, undef, undef, undef, undef, undef, undef, undef, undef, undef, undef, undef, undef, undef, undef, undef], defers := [] }) ?assign ?body ?done ?stop
  case hix =>
    intro k pre W W' row hs hg hr
    obtain ⟨h1, h2, h3, p, x, e, h4, h5⟩ := hs
    have hO : ∀ {B : Nat} {t : TypeId} {v : Value}, Boxed W B t v → Boxed W' B t v := fun hb => Own.from (boxed_own _ _ (fun _ : Unit => _)) _ () W W' row hb hg hr
    refine ⟨hO h1, hO h2, ownFrom_below (β := Unit) (Nat.le_refl _) (by rw [HZ.out]; omega) () W W' row h3 hg hr, p, x, e, h4, ?_⟩
    rcases h5 with ⟨a1, a2, a3⟩ | ⟨a1, d, h, a2, a3, a4⟩
    · exact .inl ⟨a1, a2, hO a3⟩
    · exact .inr ⟨a1, d, h, a2, a3, hO a4⟩
  case assign =>
    intro l x W K hK
    unfold idxV strV
    gi_wp2
    exact hK
  case body =>
    rintro l pre x W ⟨hN, hM, hI, hB, hC⟩ hlt
    have cn := hN.cell
    have cm := hM.cell
    have c0 := hI.cell; have f0 := hI.frozen
    have hxi : x.val < xs.length := x.isLt
    by_cases hge : xs.length ≤ x.val + ys.length
    · obtain ⟨d, hd⟩ : ∃ d, x.val + ys.length = d + xs.length := ⟨x.val + ys.length - xs.length, by omega⟩
      have hdy : d < ys.length := by omega
      have hde : x.val + ys.length - xs.length = d := by omega
      obtain ⟨g, off, rfl, hg, hcell⟩ := hU.cell hB d hdy
      have hz1 : ys[d].length ≤ 1048576 := hk2.get d hdy
      have hx1 : xs[x].length ≤ 1048576 := hk.get x.val hxi
      obtain ⟨sx, hsx0, hsxz, hsxv⟩ := str_of xs[x]
      obtain ⟨sy, hsy0, hsyz, hsyv⟩ := str_of ys[d]
      have hS := fun W => label_Compare sx sy W (by unfold maxLen; omega) (by unfold maxLen; omega)
      rw [hsx0, hsy0] at hS
      rw [str_at hsxv]
      rw [hsyv] at hcell
      have hsub : (x.val : Int) + (ys.length : Int) - (xs.length : Int) = (d : Int) := by omega
      generalize hq : compareM xs[x] ys[d] = q at *
      have HQ := Lib.hid hq
      clear hsx0 hsxz hsxv hsy0 hsyz hsyv hx1 hz1 hq hde
      by_cases hq0 : (q != 0) = true
      · have hn : q ≠ 0 := by simpa using hq0
        have HN := Lib.hid hn; clear hn
        gi_wp2_with (refine ⟨trivial, ?_⟩; gi_at_call 48; refine (CallsIn.inRound l (callsIn_wide.2 (hS _))).mono ?_; rintro e w' ⟨rfl, n, rfl⟩)
        refine ⟨((keepsOthers_drewN _ _).trans (KeepsOthers.setCell _ _ _)).from _, hN.other (by omega) _, hM.other (by omega) _, (below_drewQ hB _).setCell (p := ⟨w.heap.size + 1 + 1, 0, none⟩) (by simp; omega) _, pre, x, rfl, hC, .inr ⟨rfl, d, hdy, hd, by rw [HQ.out]; exact HN.out, ?_⟩⟩
        rw [HQ.out]; exact Boxed.set _ (show Boxed (W.drewN n) (w.heap.size + 1 + 1) 3 (.int .i64 0) from hI)
      · have hn : (q != 0) = false := by simpa using hq0
        have hn0 : q = 0 := by simpa using hn
        have HN := Lib.hid hn0; clear hn0 hq0
        gi_wp2_with (refine ⟨trivial, ?_⟩; gi_at_call 48; refine (CallsIn.inRound l (callsIn_wide.2 (hS _))).mono ?_; rintro e w' ⟨rfl, n, rfl⟩)
        refine ⟨(keepsOthers_drewN _ _).from _, KeepN.drewN _ _, hN, hM, hI, below_drewQ hB _, ?_⟩
        intro j hj
        rcases List.mem_append.1 hj with hj | hj
        · exact hC j hj
        · obtain rfl := List.mem_singleton.1 hj; exact ⟨d, hdy, hd, by rw [HQ.out]; exact HN.out⟩
    · have hneg : (x.val : Int) + (ys.length : Int) - (xs.length : Int) < 0 := by omega
      gi_wp2
      exact ⟨(KeepsOthers.refl _).from _, hN, hM, hB, pre, x, rfl, hC, .inl ⟨rfl, hge, hI⟩⟩
  case done =>
    rintro D zs W hD rfl ⟨hN, hM, hI, hB, hC⟩ hK
    have cn := hN.cell
    have cm := hM.cell
    have c0 := hI.cell; have f0 := hI.frozen
    have hDn : w.heap.size + 1 + 1 ≠ D := by have := HZ.out; omega
    have hE : compareN xs ys = cmpI xs.length ys.length := compareN_even (fun j h1 h2 => (hC ⟨j, h1⟩ (by simp)).eq.2 (by omega))
    have HE := Lib.hid hE; clear hE hC
    gi_wp2_with (refine ⟨trivial, ?_⟩; gi_at_call 50; refine (callsIn_wide.2 (cmp_int _ _ _)).mono ?_; rintro e w' ⟨rfl, rfl⟩)
    refine ⟨by simp, .inl ⟨_, _, rfl, run_takeDeferred (heap_setOther hK hDn.symm _), ?_⟩⟩
    refine ⟨_, results_cell rfl Try.underlying3 _ _ rfl (out_cell (hI.set _) hDn _), by rw [HE.out], ?_⟩
    exact below_putO (hB.setCell (p := ⟨w.heap.size + 1 + 1, 0, none⟩) (by simp; omega) _) (by have := HZ.out; omega) (Nat.le_refl _)
  case stop =>
    rintro D k pre W hD hp ⟨hN, hM, hB, p, x, rfl, hp0, hor⟩ hK
    have cn := hN.cell
    have cm := hM.cell
    have hDn : w.heap.size + 1 + 1 ≠ D := by have := HZ.out; omega
    obtain ⟨_, hall⟩ := rev_prefix hp
    rcases hor with ⟨rfl, hx, hI⟩ | ⟨rfl, d, hd, he, hne, hI⟩
    · have c0 := hI.cell; have f0 := hI.frozen
      have hE : compareN xs ys = cmpI xs.length ys.length := compareN_even (fun j h1 h2 => (hp0 ⟨j, h1⟩ (hall _ (by show x.val < j; omega))).eq.2 (by omega))
      have HE := Lib.hid hE; clear hE hall hp0 hx
      gi_wp2_with (refine ⟨trivial, ?_⟩; gi_at_call 50; refine (callsIn_wide.2 (cmp_int _ _ _)).mono ?_; rintro e w' ⟨rfl, rfl⟩)
      refine ⟨by simp, .inl ⟨_, _, rfl, run_takeDeferred (heap_setOther hK hDn.symm _), ?_⟩⟩
      refine ⟨_, results_cell rfl Try.underlying3 _ _ rfl (out_cell (hI.set _) hDn _), by rw [HE.out], ?_⟩
      exact below_putO (hB.setCell (p := ⟨w.heap.size + 1 + 1, 0, none⟩) (by simp; omega) _) (by have := HZ.out; omega) (Nat.le_refl _)
    · have c0 := hI.cell; have f0 := hI.frozen
      have hE : compareN xs ys = compareM xs[x] ys[d] := by
        obtain rfl : d = x.val + ys.length - xs.length := by omega
        exact compareN_at x.val x.isLt (by omega) hne (fun j h1 h2 h3 => (hp0 ⟨j, h1⟩ (hall _ h3)).eq.2 (by omega))
      have HE := Lib.hid hE; clear hE hall hp0
      gi_wp2
      refine ⟨by simp, .inl ⟨_, _, rfl, run_takeDeferred hK, ?_⟩⟩
      refine ⟨_, results_cell rfl Try.underlying3 _ _ rfl (out_cell hI hDn _), by rw [HE.out], ?_⟩
      exact below_putO hB (by have := HZ.out; omega) (Nat.le_refl _)
end
end Go.Proofs.Ytfcdajldpnomfaa

/-
  Names as lists of labels: plain facts for the statements of layer 2: words and back, relative words, another end, one ahead, where two meet.
-/
namespace Go.Proofs.Ytfcdajldpnomfaa
set_option maxRecDepth 20000
open Go.RowKit Go.Shelf

theorem octetW_first (c : UInt8) (r : List UInt8) : octetW c ++ r ≠ [64] ∧ octetW c ++ r ≠ [46] ∧ octetW c ++ r ≠ [] := by
  by_cases hsp : specialU c = true
  · rw [octetW_special hsp]; simp
  have hsp0 : specialU c = false := by simpa using hsp
  by_cases h2 : (c.toNat : Int) < 33 ∨ 126 < (c.toNat : Int)
  · rw [octetW_esc hsp0 h2]; simp [octetEsc]
  · rw [octetW_plain hsp0 (by omega) (by omega)]
    have h46 : c ≠ 46 := by intro e; subst e; revert hsp0; decide
    have h64 : c ≠ 64 := by intro e; subst e; revert hsp0; decide
    refine ⟨?_, ?_, by simp⟩
    · intro e; simp at e; exact h64 e.1
    · intro e; simp at e; exact h46 e.1
theorem textL_first {x : List UInt8} (h : x ≠ []) (r : List UInt8) : textL x ++ r ≠ [64] ∧ textL x ++ r ≠ [46] ∧ textL x ++ r ≠ [] := by
  cases x with
  | nil => exact absurd rfl h
  | cons c x => rw [textL_cons, List.append_assoc]; exact octetW_first c _
theorem joinL_first {n : Nm} (hn : n ≠ []) (hx : ∀ x ∈ n, x ≠ []) : joinL n ≠ [64] ∧ joinL n ≠ [46] ∧ joinL n ≠ [] := by
  cases n with
  | nil => exact absurd rfl hn
  | cons x r => exact textL_first (hx x (by simp)) _
theorem label_ne {n : Nm} (h : checkL n = 0) : ∀ x ∈ n, x ≠ [] := fun x hx => (checkLabelM_ok (checkL_mem h x hx)).1
theorem joinL_snoc_ne {n : Nm} (hn : n ≠ []) (hx : ∀ x ∈ n, x ≠ []) (y : List UInt8) : joinL (n ++ [y]) ≠ [64] ∧ joinL (n ++ [y]) ≠ [46] ∧ joinL (n ++ [y]) ≠ [] := by
  cases n with
  | nil => exact absurd rfl hn
  | cons x r => exact textL_first (hx x (by simp)) _

/-- A name's words are that name again. -/
theorem parse_textN {n : Nm} (h : checkN n = 0) (o : Nm) : parseN (textN n) o = (n, 0) := by
  have hL := checkN_L h
  by_cases hn : n = []
  · subst hn; rfl
  have ht : textN n = joinL (n ++ [[]]) := by unfold textN; rw [if_neg hn, joinL_flat n hn]
  obtain ⟨h1, h2, h3⟩ := joinL_snoc_ne hn (label_ne hL) []
  rw [ht]
  unfold parseN
  rw [if_neg h1, if_neg h2, if_neg h3, split_join (by simp)]
  simp only [if_true, List.map_append, List.map_cons, List.map_nil]
  have hw : wholeN (n.map textL ++ [textL []]) = true := by unfold wholeN; simp [textL]
  have hp : partsN (n.map textL ++ [textL []]) = n.map textL := by unfold partsN; rw [hw]; simp
  unfold endN
  rw [hw, hp, readN_text hL]
  simp [h]
theorem textN_dot {n : Nm} (hn : n ≠ []) : textN n = joinL n ++ [46] := by
  have ht : textN n = joinL (n ++ [[]]) := by unfold textN; rw [if_neg hn, joinL_flat n hn]
  rw [ht, joinL_snoc hn]
  simp [textL]
/-- Without the dot at the end: put ahead of the origin. -/
theorem parse_joinN {n : Nm} (hn : n ≠ []) (h : checkN n = 0) (o : Nm) : parseN (joinL n) o = (if checkN (n ++ o) = 0 then n ++ o else [], checkN (n ++ o)) := by
  have hL := checkN_L h
  obtain ⟨h1, h2, h3⟩ := joinL_first hn (label_ne hL)
  unfold parseN
  rw [if_neg h1, if_neg h2, if_neg h3, split_join hn]
  have hw : wholeN (n.map textL) = false := by
    unfold wholeN
    apply decide_eq_false
    intro e
    obtain ⟨r, x, rfl⟩ : ∃ r x, n = r ++ [x] := ⟨n.dropLast, n.getLast hn, (List.dropLast_concat_getLast hn).symm⟩
    simp at e
    exact label_ne hL x (by simp) (textL_nil_iff e)
  have hp : partsN (n.map textL) = n.map textL := by unfold partsN; rw [hw]; simp
  simp only [if_true]
  unfold endN
  rw [hw, hp, readN_text hL]
  simp only [if_true, Bool.false_eq_true, if_false]
  by_cases hc : checkN (n ++ o) = 0
  · rw [if_pos hc, if_pos hc, hc]
  · rw [if_neg hc, if_neg hc]
theorem checkN_app {n o : Nm} (h : checkL n = 0) (h2 : checkL o = 0) (h3 : checkN (n ++ o) ≠ 0) : checkN (n ++ o) = 3 := by
  unfold checkN at h3 ⊢
  rw [checkL_append, if_pos h, if_pos h2] at h3 ⊢
  by_cases e : 255 < lenN (n ++ o)
  · rw [if_pos e]
  · rw [if_neg e] at h3; exact absurd rfl h3

/-! ### another end -/
theorem checkL_len : ∀ (a b : Nm), a.map List.length = b.map List.length → checkL a = checkL b
  | [], [] => fun _ => rfl
  | [], _ :: _ => by intro h; simp at h
  | _ :: _, [] => by intro h; simp at h
  | x :: r, y :: t => by
    intro h
    simp only [List.map_cons, List.cons.injEq] at h
    have hc : checkLabelM x = checkLabelM y := by
      unfold checkLabelM
      by_cases hx : x = []
      · have : y = [] := List.eq_nil_of_length_eq_zero (by rw [← h.1, hx]; rfl)
        rw [if_pos hx, if_pos this]
      · have : y ≠ [] := by intro e; apply hx; exact List.eq_nil_of_length_eq_zero (by rw [h.1, e]; rfl)
        rw [if_neg hx, if_neg this, h.1]
    simp only [checkL, hc, checkL_len r t h.2]
theorem lenN_len (a b : Nm) (h : a.map List.length = b.map List.length) : lenN a = lenN b := by
  unfold lenN
  have : ∀ c : Nm, (c.map fun x => 1 + x.length) = (c.map List.length).map fun k => 1 + k := fun c => by simp
  rw [this a, this b, h]
theorem checkN_len {a b : Nm} (h : a.map List.length = b.map List.length) : checkN a = checkN b := by
  unfold checkN; rw [checkL_len a b h, lenN_len a b h]
theorem foldL_len (l : List UInt8) : (foldL l).length = l.length := by simp [foldL]
theorem foldN_lens {a b : Nm} (h : foldN a = foldN b) : a.map List.length = b.map List.length := by
  have : ∀ c : Nm, c.map List.length = (foldN c).map List.length := fun c => by
    unfold foldN; rw [List.map_map]; apply List.map_congr_left; intro l _; exact (foldL_len l).symm
  rw [this a, this b, h]
theorem foldN_append (a b : Nm) : foldN (a ++ b) = foldN a ++ foldN b := by simp [foldN]
/-- What stands ahead of f in n, f at its end, is n but for how it is written. -/
theorem under_parts {n f : Nm} (h : underN n f = true) : foldN (n.take (n.length - f.length) ++ f) = foldN n := by
  have hl := underN_len h
  unfold underN at h
  simp only [Bool.and_eq_true, decide_eq_true_eq, sameN_iff] at h
  rw [foldN_append, ← h.2, ← foldN_append, List.take_append_drop]
theorem swap_back {n f t : Nm} (h : (swapN n f t).2 = 0) (hc : checkN n = 0) :
    underN (swapN n f t).1 t = true ∧ (swapN (swapN n f t).1 t f).2 = 0 ∧ sameN (swapN (swapN n f t).1 t f).1 n = true := by
  unfold swapN at h
  by_cases hu : underN n f = true
  · rw [if_pos hu] at h
    by_cases hk : checkN (n.take (n.length - f.length) ++ t) = 0
    · have hs : swapN n f t = (n.take (n.length - f.length) ++ t, 0) := by unfold swapN; rw [if_pos hu, if_pos hk]
      rw [hs]
      have hut : underN (n.take (n.length - f.length) ++ t) t = true := (underN_iff _ _).2 ⟨foldN (n.take (n.length - f.length)), foldN_append _ _⟩
      have hp := under_parts hu
      have htk : (n.take (n.length - f.length) ++ t).take ((n.take (n.length - f.length) ++ t).length - t.length) = n.take (n.length - f.length) := by
        rw [List.length_append, Nat.add_sub_cancel]; exact List.take_left
      have hck : checkN (n.take (n.length - f.length) ++ f) = 0 := by rw [checkN_len (foldN_lens hp)]; exact hc
      have hb : swapN (n.take (n.length - f.length) ++ t) t f = (n.take (n.length - f.length) ++ f, 0) := by
        unfold swapN; rw [if_pos hut, htk, if_pos hck]
      simp only [hb]
      exact ⟨hut, trivial, (sameN_iff _ _).2 hp⟩
    · rw [if_neg hk] at h; simp at h
  · rw [if_neg hu] at h; simp at h

/-! ### one ahead -/
theorem under_child (l : List UInt8) (n : Nm) : underN (l :: n) n = true := (underN_iff _ _).2 ⟨[foldL l], rfl⟩
theorem not_under_child (l : List UInt8) (n : Nm) : underN n (l :: n) = false := by
  cases h : underN n (l :: n) with
  | false => rfl
  | true => have := underN_len h; simp at this; omega
theorem cmpR_more : ∀ (p : Nm) (l : List UInt8), cmpR p (p ++ [l]) = -1
  | [], _ => rfl
  | x :: r, l => by
    simp only [List.cons_append, cmpR]
    rw [if_pos ((compareM_zero x x).2 rfl)]; exact cmpR_more r l
theorem compare_child (l : List UInt8) (n : Nm) : compareN n (l :: n) = -1 := by
  unfold compareN; rw [List.reverse_cons]; exact cmpR_more _ _

/-! ### where two names meet -/
theorem sharedR_le : ∀ p q : Nm, sharedR p q ≤ p.length ∧ sharedR p q ≤ q.length
  | [], _ => by simp [sharedR]
  | _ :: _, [] => by simp [sharedR]
  | x :: r, y :: t => by
    have := sharedR_le r t
    simp only [sharedR]; split <;> simp <;> omega
theorem sharedR_fold : ∀ p q : Nm, foldN (p.take (sharedR p q)) = foldN (q.take (sharedR p q))
  | [], _ => by simp [sharedR]
  | _ :: _, [] => by simp [sharedR]
  | x :: r, y :: t => by
    have ih := sharedR_fold r t
    simp only [sharedR]
    by_cases e : compareM x y = 0
    · rw [if_pos e]; simp only [List.take_succ_cons, foldN, List.map_cons] at ih ⊢
      rw [(compareM_zero x y).1 e, ih]
    · rw [if_neg e]; simp
theorem sharedR_max : ∀ (p q : Nm) (k : Nat), k ≤ p.length → k ≤ q.length → foldN (p.take k) = foldN (q.take k) → k ≤ sharedR p q
  | _, _, 0 => by intros; omega
  | [], _, _ + 1 => by intro h; simp at h
  | _ :: _, [], _ + 1 => by intro _ h; simp at h
  | x :: r, y :: t, k + 1 => by
    intro h1 h2 h3
    simp only [List.take_succ_cons, foldN, List.map_cons, List.cons.injEq] at h3
    have ih := sharedR_max r t k (by simpa using h1) (by simpa using h2) h3.2
    simp only [sharedR]
    rw [if_pos ((compareM_zero x y).2 h3.1)]; omega
theorem take_reverse_drop (p : Nm) (k : Nat) : p.reverse.take k = (p.drop (p.length - k)).reverse := by
  rw [List.take_reverse]
theorem foldN_rev_inj {a b : Nm} (h : foldN a.reverse = foldN b.reverse) : foldN a = foldN b := by
  rw [foldN_reverse, foldN_reverse] at h; exact List.reverse_inj.1 h
theorem common_len (a b : Nm) : (commonN a b).length = sharedR a.reverse b.reverse := by
  have := sharedR_le a.reverse b.reverse
  unfold commonN; rw [List.length_drop]; simp at this; omega
theorem common_under_a (a b : Nm) : underN a (commonN a b) = true := by
  have := sharedR_le a.reverse b.reverse
  rw [underN_iff]; unfold commonN
  refine ⟨foldN (a.take (a.length - sharedR a.reverse b.reverse)), ?_⟩
  rw [← foldN_append, List.take_append_drop]
theorem common_under_b (a b : Nm) : underN b (commonN a b) = true := by
  have hl := sharedR_le a.reverse b.reverse
  simp only [List.length_reverse] at hl
  have h := sharedR_fold a.reverse b.reverse
  rw [take_reverse_drop, take_reverse_drop] at h
  have h2 := foldN_rev_inj h
  rw [underN_iff]; unfold commonN
  refine ⟨foldN (b.take (b.length - sharedR a.reverse b.reverse)), ?_⟩
  rw [h2, ← foldN_append, List.take_append_drop]
/-- What is below both is not deeper: by one label more of a. -/
theorem common_deepest (a b : Nm) (k : Nat) (hk : k ≤ a.length) (h : underN b (a.drop (a.length - k)) = true) : k ≤ (commonN a b).length := by
  rw [common_len]
  have hl := underN_len h
  rw [List.length_drop] at hl
  have hkb : k ≤ b.length := by omega
  unfold underN at h
  simp only [Bool.and_eq_true, decide_eq_true_eq, sameN_iff] at h
  have e : (a.drop (a.length - k)).length = k := by rw [List.length_drop]; omega
  rw [e] at h
  refine sharedR_max _ _ _ (by simpa using hk) (by simpa using hkb) ?_
  rw [take_reverse_drop, take_reverse_drop, foldN_reverse, foldN_reverse, h.2]

end Go.Proofs.Ytfcdajldpnomfaa

/-
  The document's names (package toponymref6): Same, Under.
-/
namespace Go.Proofs.Ytfcdajldpnomfaa
set_option maxRecDepth 20000
open Go.RowKit Go.Shelf

theorem keepS2 {n : Nat} {w W W' : World} {p q : Addr} {u v : Value} (h : W.cell? p = some u ∧ W.cell? q = some v ∧ Below n w W) (hb : Below W.heap.size W W') (hp : p.block < n) (hq : q.block < n) (hn : n ≤ w.heap.size) :
    W'.cell? p = some u ∧ W'.cell? q = some v ∧ Below n w W' := by
  have hz := h.2.2.size
  exact ⟨(hb.cell (by omega)).trans h.1, (hb.cell (by omega)).trans h.2.1, h.2.2.trans (hb.mono (by omega))⟩

theorem nm_nil (W : World) : NmAt W (.slice none 0 0) [] := ⟨⟨_, _, rfl, .inl rfl⟩, SlOK.nil⟩
theorem foldN_cons (x : List UInt8) (r : Nm) : foldN (x :: r) = foldL x :: foldN r := rfl
theorem foldL_size (l : List UInt8) : (foldL l).length = l.length := by simp [foldL]

end Go.Proofs.Ytfcdajldpnomfaa

