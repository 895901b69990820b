/-
  The document's names (package toponymref6): Len, CheckName, Fold.
-/
import Derived.Test.YteppgeiejknhoaaMQ27
import Derived.Test.YteppgeiejknhoaaMQ34
import Derived.Lib.AppendStr
import Derived.Test.YteppgeiejknhoaaMQ12
import Derived.StillTail
import Derived.Sort.QuietTacIn
namespace Go.Proofs.Yteppgeiejknhoaa
set_option maxRecDepth 20000
open Go.RowKit Go.Shelf

theorem lenN_take_le {xs : Nm} (h : NmOK xs) (k : Nat) (hk : k ≤ xs.length) : lenN (xs.take k) ≤ 1 + k * 1048577 := by
  induction k with
  | zero => simp [lenN]
  | succ k ih =>
    have h1 := h.get k (by omega)
    rw [List.take_succ_eq_append_getElem (by omega), lenN_snoc]
    have := ih (by omega)
    omega

set_option maxHeartbeats 4000000 in
theorem ref_Len (v : Value) (xs : Nm) (w : World) (hA : StrsAt w v xs) (hk : NmOK xs) :
    Calls Try.prog 56 #[v] w fun e w' => e = .returned (.int .i64 (lenN xs : Int)) ∧ w' = w := by
  obtain ⟨a, c, rfl, _⟩ := id hA
  have hl := hk.1
  obtain ⟨n, hn⟩ : ∃ n, xs.length = n := ⟨_, rfl⟩
  have hcell := fun j hj => hA.cell (Below.refl _ w) j hj
  rw [hn] at hl ⊢
  have HN := Lib.hid hn
  clear hA hn
  go_enter Try.func56, Try.ntmps56
  go_wp2
  go_loopw [3, 4] (fun u i wr => ∃ k : Nat, i = .int .i64 k ∧ k ≤ n ∧ u = .int .i64 (lenN (xs.take k) : Int) ∧ wr = w) (fun _ i _ => n - (intOf i).toNat)
  case atStart => exact ⟨0, rfl, Nat.zero_le _, rfl, rfl⟩
  case round =>
    obtain ⟨k, rfl, hkn, rfl, rfl⟩ := hrel
    by_cases hlt : k < n
    · have hkp : k < xs.length := by rw [HN.out]; exact hlt
      obtain ⟨g, off, rfl, hg, hc⟩ := hcell k hkp
      obtain ⟨s, hs0, hsz, hsv⟩ := str_of xs[k]
      rw [hsv] at hc
      have hxk := hk.get k hkp
      have hb := lenN_take_le hk k (by omega)
      have hr : lenN (xs.take (k + 1)) = lenN (xs.take k) + 1 + s.size := by rw [List.take_succ_eq_append_getElem hkp, lenN_snoc, hsz]
      have HR := Lib.hid hr
      rw [← hsz] at hxk
      clear hs0 hsz hsv hr
      generalize lenN (xs.take k) = q at *
      go_wp2
      go_roundw
      case rel => exact ⟨k + 1, by go_num, by omega, by rw [HR.out]; simp, trivial⟩
      case measure => simp [intOf]; omega
    · obtain rfl : k = n := by omega
      have hr : lenN (xs.take k) = lenN xs := by rw [List.take_of_length_le (by rw [HN.out]; exact Nat.le_refl _)]
      rw [hr]
      go_wp2
      go_ret
      exact ⟨rfl, rfl⟩

set_option maxHeartbeats 4000000 in
theorem ref_CheckName (v : Value) (xs : Nm) (w : World) (hA : StrsAt w v xs) (hk : NmOK xs) :
    Calls Try.prog 30 #[v] w fun e w' => e = .returned (.int .i64 (checkN xs)) ∧ w' = w := by
  obtain ⟨a, c, rfl, _⟩ := id hA
  have hL := ref_Len _ xs w hA hk
  have hl := hk.1
  obtain ⟨n, hn⟩ : ∃ n, xs.length = n := ⟨_, rfl⟩
  have hcell := fun j hj => hA.cell (Below.refl _ w) j hj
  rw [hn] at hl hL ⊢
  have HN := Lib.hid hn
  clear hA hn
  go_enter Try.func30, Try.ntmps30
  go_wp2
  go_loopw [3] (fun i wr => ∃ k : Nat, i = .int .i64 k ∧ k ≤ n ∧ Hid (checkL (xs.take k) = 0) ∧ wr = w) (fun i _ => n - (intOf i).toNat)
  case atStart => exact ⟨0, rfl, Nat.zero_le _, Lib.hid rfl, rfl⟩
  case round =>
    obtain ⟨k, rfl, hkn, HC, rfl⟩ := hrel
    by_cases hlt : k < n
    · have hkp : k < xs.length := by rw [HN.out]; exact hlt
      obtain ⟨g, off, rfl, hg, hc⟩ := hcell k hkp
      obtain ⟨s, hs0, hsz, hsv⟩ := str_of xs[k]
      rw [hsv] at hc
      have hxk := hk.get k hkp
      have hCk := fun W => ref_CheckLabel s W (by unfold maxLen; omega)
      rw [hs0] at hCk
      have hr : checkL (xs.take (k + 1)) = checkLabelM xs[k] := by rw [List.take_succ_eq_append_getElem hkp, checkL_snoc, if_pos HC.out]
      clear hs0 hsz hsv hxk
      generalize checkLabelM xs[k] = q at *
      by_cases hq : (q != 0) = true
      · have H0 : Hid (checkN xs = q) := Lib.hid (by rw [← hr]; exact checkN_of_stop (List.take_prefix _ _) (by rw [hr]; simpa using hq))
        clear hr
        go_wp2_with (go_at_call 55; refine (hCk _).mono ?_; rintro e w2 ⟨rfl, rfl⟩)
        go_ret
        exact ⟨by rw [H0.out]; rfl, rfl⟩
      · have hq1 : (q != 0) = false := by simpa using hq
        have HR := Lib.hid hr; have HQ := Lib.hid hq1
        clear hr hq
        go_wp2_with (go_at_call 55; refine (hCk _).mono ?_; rintro e w2 ⟨rfl, rfl⟩)
        go_roundw
        case rel => exact ⟨k + 1, by go_num, by omega, Lib.hid (by rw [HR.out]; simpa using HQ.out), trivial⟩
        case measure => simp [intOf]; omega
    · obtain rfl : k = n := by omega
      have hr : xs.take k = xs := List.take_of_length_le (by rw [HN.out]; exact Nat.le_refl _)
      rw [hr] at HC
      have hd : checkN xs = if 255 < (lenN xs : Int) then 3 else 0 := by
        unfold checkN; rw [if_pos HC.out]
        by_cases h : 255 < lenN xs
        · rw [if_pos h, if_pos (by omega)]
        · rw [if_neg h, if_neg (by omega)]
      have HD := Lib.hid hd
      clear hr hd
      generalize lenN xs = q at *
      go_wp2_with (go_at_call 56; refine hL.mono ?_; rintro e w2 ⟨rfl, rfl⟩)
      · go_ret
        exact ⟨by rw [HD.out, if_pos (by assumption)]; rfl, rfl⟩
      · go_ret
        exact ⟨by rw [HD.out, if_neg (by omega)]; rfl, rfl⟩

end Go.Proofs.Yteppgeiejknhoaa

/-
  The document's names (package toponymref6): Parent, Child, Wild, sign.
-/
namespace Go.Proofs.Yteppgeiejknhoaa
set_option maxRecDepth 20000
open Go.RowKit Go.Shelf

/-- A slice of strings, for reading. -/
def NmAt (W : World) (v : Value) (xs : Nm) : Prop := StrsAt W v xs ∧ SlOK v
theorem NmAt.below {W W' : World} {v : Value} {xs : Nm} (h : NmAt W v xs) (hb : Below W.heap.size W W') : NmAt W' v xs := ⟨h.1.below hb, h.2⟩
theorem OwnG.nmAt {W : World} {base : Nat} {v : Value} {xs : Nm} (h : OwnG 9 strV W base v xs) : NmAt W v xs := ⟨StrsAt.of_own h, h.slOK⟩

end Go.Proofs.Yteppgeiejknhoaa

/-
  Contract of name.Text.
-/
namespace Go.Proofs.Yteppgeiejknhoaa
set_option maxRecDepth 20000
open Go.RowKit Go.Shelf

theorem wplIn_append_str {F : Fence} {d : Nat} {ops : Array Oper} {rest : List Oper} {o : Oper} {a : Act} {Q : Exit → Act → World → Prop} (W : World) (hgd : o.guard = none) (sl x : Operand)
    (ho : o.op = .call { callee := .builtin .append, args := #[sl, x], argTypes := #[46, 9] })
    (base : Nat) (v : Value) (xs : List UInt8) (hs : a.eval sl = v) (hown : OwnG 5 bv W base v xs) (s : ByteArray) (hx : a.eval x = .string s)
    (hbase : base ≤ W.heap.size) (hk : xs.length + s.size ≤ 140737488355328)
    (h : ∀ v' w', OwnG 5 bv w' base v' (xs ++ s.data.toList) → W.grownBy w' v.ownBlock → wpListIn F d Try.prog ops Q rest (a.put o.dst v') w') : wpListIn F d Try.prog ops Q (o :: rest) a W := by
  obtain ⟨i0, hi, hz0, hz1, hz2⟩ := info_parts info_u8
  refine wpListIn_plain hgd fun K hK => ?_
  obtain ⟨v', w', hr, h2, h3, h4⟩ := Lib.run_append_own_string (P := Try.prog) (w := W) base 46 9 o.type 5 i0 Try.underlying46 Try.underlying9 hi hz0 hz1 hz2 v xs.length (xs.map bv) hown s (by unfold maxLen; omega) hk hbase
  unfold Oper.wpIn
  refine ⟨?_, ?_⟩
  · simp [Oper.about, ho, resolve, Target.leads, Sem.run_pure]
  · rw [Oper.semAt_plain F _ _ (by rw [ho]; intro c hc'; cases hc')]
    simp [execOp, ho, resolve, invoke, builtin, hs, hx, hr, Result.andThen]
    refine hK _ _ (h v' w' ?_ h3)
    unfold OwnG
    rw [List.length_append, List.map_append, size_data]
    exact h2

def textF (n : Nm) : List UInt8 := n.flatMap fun x => textL x ++ [46]
theorem textF_snoc (n : Nm) (x : List UInt8) : textF (n ++ [x]) = textF n ++ textL x ++ [46] := by simp [textF]
theorem textN_eq {n : Nm} (h : n ≠ []) : textN n = textF n := by unfold textN; rw [if_neg h]; rfl
theorem textF_le {xs : Nm} (h : NmOK xs) (pre : List (Fin xs.length)) : (textF (atN xs pre)).length ≤ pre.length * 4194305 := by
  induction pre with
  | nil => simp [textF, atN]
  | cons j r ih =>
    have h1 := h.get j.val j.isLt
    have h2 := textL_le xs[j]
    simp only [textF, atN, List.map_cons, List.flatMap_cons, List.length_append, List.length_cons, List.length_nil, Fin.getElem_fin] at ih h2 ⊢
    omega

section
attribute [local go_sem] Oper.semAt_some
end
end Go.Proofs.Yteppgeiejknhoaa

/-
  Inside a fence: a region that draws its order, whose first n operations only read and whose others wait for all of them and for one another (a yield at its end, ..): one walk of the text's order serves. The kit's StillTail, over QuietThIn's laws.
-/
namespace Go.Proofs.Yteppgeiejknhoaa
set_option maxRecDepth 20000
open Go.RowKit Go.Shelf

section
variable {F : Fence} {d : Nat} {P : Program} {ops : Array Oper} {md : Region.Mode} {C : World → Prop}

def wpAnyLIn (F : Fence) (d : Nat) (P : Program) (md : Region.Mode) (ops : Array Oper) (C : World → Prop) (n : Nat) (L : Array Bool → Act → Prop) : Nat → Array Bool → Act → Prop
  | 0, listed, a => L listed a
  | f + 1, listed, a =>
    Region.ready md ops listed ≠ [] ∧ ∀ i ∈ Region.ready md ops listed, i < n ∧ qOpIn F d P ops C i (wpAnyLIn F d P md ops C n L f (listed.setIfInBounds i true)) a

theorem wpAnyIn_of_head {n g : Nat} {L : Array Bool → Act → Prop} {Q' : Exit → Act → World → Prop} (hro : F.round = none) (hL : ∀ listed a w, C w → L listed a → wpAnyIn F d P md ops Q' g listed a w) :
    ∀ (f : Nat) (listed : Array Bool) (a : Act) (w : World), C w → wpAnyLIn F d P md ops C n L f listed a → wpAnyIn F d P md ops Q' (f + g) listed a w
  | 0, listed, a, w, hw, h => by rw [Nat.zero_add]; exact hL _ _ _ hw h
  | f + 1, listed, a, w, hw, h => by
    rw [show f + 1 + g = (f + g) + 1 by omega]
    exact ⟨fun h0 => absurd h0 h.1, fun i hi => wpOpIn_of_qOpIn hro hw (fun a' w' hw' h' => wpAnyIn_of_head hro hL f _ a' w' hw' h') (h.2 i hi).2⟩

theorem wpAnyLIn_first {n i : Nat} {oi : Oper} {v : Value} {L : Array Bool → Act → Prop} (hi : ops[i]? = some oi) (hsel : ∀ (j : Nat) (o : Oper) cs b, ops[j]? = some o → o.op ≠ .select cs b)
    (hs : Region.sinkB md ops n = true) (hc : Region.chainB md ops n = true) (hn : n < ops.size) (hin : i < n)
    (hdone : ∀ listed a, L listed a → ∀ j ∈ Region.ready md ops listed, n ≤ j) :
    ∀ (f : Nat) (listed : Array Bool) (a : Act), HeadInv md ops n listed →
      (∀ j oj, ops[j]? = some oj → j ≠ i → listed.getD j true = false → (∀ e ∈ oj.after, Region.binds md e = true → e.on ≠ i) → oi.apart ops oj = true) →
      i ∈ Region.ready md ops listed → YieldsQuiet F d P ops C oi v a →
      wpAnyLIn F d P md ops C n L f (listed.setIfInBounds i true) (a.put oi.dst v) → wpAnyLIn F d P md ops C n L (f + 1) listed a := by
  intro f
  induction f with
  | zero =>
    intro listed a inv _ hr hy H
    have hun := (mem_ready.1 hr).1
    refine ⟨fun h => (by rw [h] at hr; cases hr), fun j hj => ?_⟩
    have hjn : j < n := by
      rcases Nat.lt_or_ge j n with h | h
      · exact h
      · exact absurd hj (tail_waits hs hc hn inv _ i rfl hin hun j h)
    refine ⟨hjn, ?_⟩
    by_cases hji : j = i
    · subst hji; exact hy.qOpIn hi H
    · have := hdone _ _ H j (ready_mono hj hji)
      omega
  | succ f ih =>
    intro listed a inv hfree hr hy H
    have hun := (mem_ready.1 hr).1
    refine ⟨fun h => (by rw [h] at hr; cases hr), fun j hj => ?_⟩
    have hjn : j < n := by
      rcases Nat.lt_or_ge j n with h | h
      · exact h
      · exact absurd hj (tail_waits hs hc hn inv _ i rfl hin hun j h)
    refine ⟨hjn, ?_⟩
    by_cases hji : j = i
    · subst hji; exact hy.qOpIn hi H
    · have h1 := (H.2 j (ready_mono hj hji)).2
      obtain ⟨hjun, oj, hoj, hall⟩ := mem_ready.1 hj
      have hnot : ∀ e ∈ oj.after, Region.binds md e = true → e.on ≠ i := fun e he hb heq => by
        have h1 := hall e he hb
        rw [heq, getD_both hun] at h1
        cases h1
      have h2 := qOpIn_put hoj (hfree j oj hoj hji hjun hnot) (fun cs b => hsel i oi cs b hi) (fun cs b => hsel j oj cs b hoj) hy h1
      have hfree' : ∀ k ok, ops[k]? = some ok → k ≠ i → (listed.setIfInBounds j true).getD k true = false →
          (∀ e ∈ ok.after, Region.binds md e = true → e.on ≠ i) → oi.apart ops ok = true := fun k ok hk hki hun hno => by
        refine hfree k ok hk hki ?_ hno
        by_cases hjk : j = k
        · subst hjk; exact hjun
        · rw [getD_set_ne true hjk] at hun; exact hun
      refine qOpIn_mono (fun a' h3 => ih (listed.setIfInBounds j true) a' (inv.set hj hjn) hfree' (ready_mono hr (Ne.symm hji)) h3.1 ?_) h2
      rw [Array.setIfInBounds_comm _ _ hji]
      exact h3.2

theorem wpAnyIn_of_seq {Q' : Exit → Act → World → Prop} : ∀ (l : List Oper) (k : Nat) (listed : Array Bool) (a : Act) (w : World), (∀ j, l[j]? = ops[k + j]?) →
    Region.seqB md ops l.length k listed = true → wpListIn F d P ops Q' l a w → wpAnyIn F d P md ops Q' l.length listed a w
  | [], _, _, _, _, _, hB, h => ⟨by simpa [Region.seqB] using hB, h⟩
  | o :: l, k, listed, a, w, hl, hB, h => by
    have h0 : ops[k]? = some o := by simpa using (hl 0).symm
    simp only [List.length_cons, Region.seqB, Bool.and_eq_true, decide_eq_true_eq] at hB
    refine ⟨fun h1 => (by rw [hB.1] at h1; cases h1), fun i hi => ?_⟩
    rw [hB.1] at hi
    have hik : i = k := by simpa using hi
    subst hik
    have hw : wpOpIn F d P ops Q' i (wpListIn F d P ops Q' l) a w := by unfold wpOpIn; simp only [h0]; exact h
    exact wpOpIn_mono (fun a' w' h' => wpAnyIn_of_seq l (i + 1) _ a' w' (fun j => by have := hl (j + 1); simpa [Nat.add_assoc, Nat.add_comm 1 j] using this) hB.2 h') hw

theorem wpAnyLIn_lex {n g : Nat} {Lq : Act → Prop} (hsel : Region.noSelect ops = true) (hs : Region.sinkB md ops n = true) (hc : Region.chainB md ops n = true) (hn : n < ops.size) :
    ∀ (l : List Oper) (k : Nat) (listed : Array Bool) (a : Act), (∀ j, j < l.length → l[j]? = ops[k + j]?) → k + l.length = n → HeadInv md ops n listed →
    Region.lexHead md ops g l.length k listed = true → wpQuietIn F d P ops C Lq l a →
    wpAnyLIn F d P md ops C n (fun listed' a' => Region.seqB md ops g n listed' = true ∧ Lq a') l.length listed a
  | [], k, listed, a, _, hk, _, hB, h => by
    have : k = n := by simpa using hk
    subst this
    exact ⟨by simpa [Region.lexHead] using hB, h⟩
  | o :: l, k, listed, a, hl, hk, inv, hB, h => by
    have h0 : ops[k]? = some o := by simpa using (hl 0 (by simp)).symm
    simp only [List.length_cons, Region.lexHead, Bool.and_eq_true] at hB
    obtain ⟨⟨hr, hf⟩, hB'⟩ := hB
    have hkn : k < n := by simp only [List.length_cons] at hk; omega
    have hr' : k ∈ Region.ready md ops listed := by simpa using hr
    have hst : qOpIn F d P ops C k (wpQuietIn F d P ops C Lq l) a := by unfold qOpIn; simp only [h0]; exact h
    obtain ⟨v, hy, hK⟩ := yieldsQuiet_of_qOpIn h0 hst
    exact wpAnyLIn_first h0 (Region.noSelect_spec hsel) hs hc hn hkn (fun listed' a' hL => seqB_ready hL.1) l.length listed a inv (Region.free_spec h0 hf) hr' hy
      (wpAnyLIn_lex hsel hs hc hn l (k + 1) _ _ (fun j hj => by have := hl (j + 1) (by simp; omega); simpa [Nat.add_assoc, Nat.add_comm 1 j] using this) (by simp only [List.length_cons] at hk; omega) (inv.set hr' hkn) hB' hK)

theorem wpIn_region_tail {id : Nat} {Q : Exit → Act → World → Prop} {a : Act} {w : World} {l : List Oper} (n : Nat) (hro : F.round = none) (hm : P.follows .mixedOrders = true) (hB : Region.lexTailB .any l.toArray n = true)
    (h : wpQuietIn F d P l.toArray (fun w' => ∃ n, w' = w.drewN n) (fun a' => ∀ w', (∃ n, w' = w.drewN n) → wpListIn F d P l.toArray Q (l.drop n) a' w') (l.take n) a) : (Code.region id l.toArray true).wpIn F d P Q a w := by
  simp only [Region.lexTailB, Bool.and_eq_true, decide_eq_true_eq] at hB
  obtain ⟨⟨⟨⟨hsel, hn⟩, hs⟩, hc⟩, hlex⟩ := hB
  have hn' : n < l.length := by simpa using hn
  have htl : (l.take n).length = n := by simp; omega
  have hdl : (l.drop n).length = l.toArray.size - n := by simp
  have inv0 : HeadInv .any l.toArray n (Array.replicate l.toArray.size false) :=
    ⟨by simp, fun j oj _ hl => (by rw [getD_replicate_false] at hl; cases hl), fun t _ ht => getD_in (by simpa using ht) (getD_replicate_false _ _)⟩
  have H := wpAnyLIn_lex (md := .any) (g := l.toArray.size - n) hsel hs hc hn (l.take n) 0 _ a (fun j hj => by
    have hj' : j < n := by rw [htl] at hj; exact hj
    simp [hj']) (by simpa using htl) inv0 (by rw [htl]; exact hlex) h
  refine wpIn_region_any hm ?_
  have := wpAnyIn_of_head (Q' := Q) (g := l.toArray.size - n) hro (fun listed a' w' hw' hL => by
    have := wpAnyIn_of_seq (md := .any) (Q' := Q) (l.drop n) n listed a' w' (fun j => by simp [List.getElem?_drop]) (by rw [hdl]; exact hL.1) (hL.2 w' hw')
    rwa [hdl] at this) _ _ _ ({ w with drawn := w.drawn + 1 }) ⟨1, rfl⟩ H
  rw [htl, show n + (l.toArray.size - n) = l.toArray.size by omega] at this
  exact this

end
end Go.Proofs.Yteppgeiejknhoaa

