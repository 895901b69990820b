/-
  The statements' own helper of layer 2: Good.
-/
import Derived.Test.YtckammgnmgkieaaGreatMQ14
import Derived.Deep.RegionHeld3
import Derived.Test.YtckammgnmgkieaaGreatMQ19
import Derived.Test.YtckammgnmgkieaaGreatMQ29
import Derived.Test.YtckammgnmgkieaaGreatMQ27
import Derived.Test.YtckammgnmgkieaaGreatMQ22
import Derived.Test.YtckammgnmgkieaaGreatMQ24
import Derived.StillTail
import Derived.Sort.QuietTacIn
namespace Go.Proofs.YtckammgnmgkieaaGreat
set_option maxRecDepth 20000
open Go.RowKit Go.Shelf

def goodN (xs : Nm) : Bool := fewN xs && decide (checkN xs = 0)
set_option maxHeartbeats 4000000 in
theorem law2_Good (v : Value) (xs : Nm) (w : World) (hA : StrsAt w v xs) (hm : xs.length ≤ maxLen) (hk : ∀ x ∈ xs, x.length ≤ maxLen) :
    Calls Tryz.prog 27 #[v] w fun e w' => e = .returned (.bool (goodN xs)) ∧ w' = w := by
  have hF := law2_Few v xs w hA hm hk
  obtain ⟨a, c, rfl, _⟩ := id hA
  by_cases hf : fewN xs = true
  · have hC := ref_CheckName _ xs w hA (fewN_ok hf)
    have hg : goodN xs = decide (checkN xs = 0) := by unfold goodN; rw [hf, Bool.true_and]
    rw [hf] at hF
    have HG := Lib.hid hg
    clear hg hf hm hk hA
    generalize checkN xs = q at *
    go_enter Tryz.func27, Tryz.ntmps27
    go_wp2_with (first | (go_at_call 13; refine hF.mono ?_; rintro e w2 ⟨rfl, rfl⟩) | (go_at_call 68; refine hC.mono ?_; rintro e w3 ⟨rfl, rfl⟩))
    go_ret
    refine ⟨?_, rfl⟩
    rw [HG.out]
    show Ending.returned (.bool (q == 0)) = _
    rw [show (q == 0) = decide (q = 0) from rfl]
  · have hf0 : fewN xs = false := by simpa using hf
    have hg : goodN xs = false := by unfold goodN; rw [hf0, Bool.false_and]
    rw [hf0] at hF
    have HG := Lib.hid hg
    clear hg hf hf0 hm hk hA
    go_enter Tryz.func27, Tryz.ntmps27
    go_wp2_with (go_at_call 13; refine hF.mono ?_; rintro e w2 ⟨rfl, rfl⟩)
    go_ret
    exact ⟨by rw [HG.out]; rfl, rfl⟩
end Go.Proofs.YtckammgnmgkieaaGreat

/-
  The document's names (package toponymref6): Same, Under.
-/
namespace Go.Proofs.YtckammgnmgkieaaGreat
set_option maxRecDepth 20000
open Go.RowKit Go.Shelf

theorem keepS2 {n : Nat} {w W W' : World} {p q : Addr} {u v : Value} (h : W.cell? p = some u ∧ W.cell? q = some v ∧ Below n w W) (hb : Below W.heap.size W W') (hp : p.block < n) (hq : q.block < n) (hn : n ≤ w.heap.size) :
    W'.cell? p = some u ∧ W'.cell? q = some v ∧ Below n w W' := by
  have hz := h.2.2.size
  exact ⟨(hb.cell (by omega)).trans h.1, (hb.cell (by omega)).trans h.2.1, h.2.2.trans (hb.mono (by omega))⟩

theorem nm_nil (W : World) : NmAt W (.slice none 0 0) [] := ⟨⟨_, _, rfl, .inl rfl⟩, SlOK.nil⟩
theorem foldL_size (l : List UInt8) : (foldL l).length = l.length := by simp [foldL]

set_option maxHeartbeats 8000000 in
theorem ref_Same (v u : Value) (xs ys : Nm) (w : World) (hA : StrsAt w v xs) (hU : StrsAt w u ys) (hk : NmOK xs) (hk2 : NmOK ys) :
    Calls Tryz.prog 55 #[v, u] w fun e w' => e = .returned (.bool (sameN xs ys)) ∧ Below w.heap.size w w' := by
  obtain ⟨a, c, rfl, _⟩ := id hA
  obtain ⟨a2, c2, rfl, _⟩ := id hU
  have hm := hk.1
  by_cases hne : ((xs.length : Int) != (ys.length : Int)) = true
  · have H0 : Hid (sameN xs ys = false) := Lib.hid (sameN_len (by intro e; rw [e] at hne; simp at hne))
    go_enter Tryz.func55, Tryz.ntmps55
    go_wp2
    go_ret
    exact ⟨by rw [H0.out]; rfl, Below.refl _ _⟩
  have hlen : ((xs.length : Int) != (ys.length : Int)) = false := by simpa using hne
  have hel : xs.length = ys.length := by simp at hlen; omega
  have hcell := fun W' (hb : Below w.heap.size w W') j hj => hA.cell hb j hj
  have hcell2 := fun W' (hb : Below w.heap.size w W') j hj => hU.cell hb j hj
  obtain ⟨n, hn⟩ : ∃ n, xs.length = n := ⟨_, rfl⟩
  have hn2 : ys.length = n := by omega
  rw [hn] at hm ⊢
  rw [hn2]
  have HN := Lib.hid hn; have HN2 := Lib.hid hn2
  clear hA hU hel hne hlen hn hn2
  have hnn : ((n : Int) != (n : Int)) = false := by simp
  go_enter Tryz.func55, Tryz.ntmps55
  go_wp2
  go_loopw [5] (fun i wr => ∃ k : Nat, i = .int .i64 k ∧ k ≤ n ∧ Hid (foldN (xs.take k) = foldN (ys.take k)) ∧ Below w.heap.size w wr) (fun i _ => n - (intOf i).toNat)
  case atStart => exact ⟨0, rfl, Nat.zero_le _, Lib.hid rfl, Below.refl _ _⟩
  case round =>
    obtain ⟨k, rfl, hkn, HC, hB⟩ := hrel
    by_cases hlt : k < n
    · have hkp : k < xs.length := by rw [HN.out]; exact hlt
      have hkq : k < ys.length := by rw [HN2.out]; exact hlt
      obtain ⟨g, off, rfl, hg, hc⟩ := hcell wr hB k hkp
      obtain ⟨g2, off2, rfl, hg2, hc2⟩ := hcell2 wr hB k hkq
      obtain ⟨s, hs0, hsz, hsv⟩ := str_of xs[k]
      obtain ⟨t, ht0, htz, htv⟩ := str_of ys[k]
      rw [hsv] at hc
      rw [htv] at hc2
      have h1 := hk.get k hkp
      have h2 := hk2.get k hkq
      have hF1 := fun W => ref_FoldLabel s W (by omega)
      have hF2 := fun W => ref_FoldLabel t W (by omega)
      have hz1 : (foldL xs[k]).length ≤ 1048576 := by rw [foldL_size]; omega
      have hz2 : (foldL ys[k]).length ≤ 1048576 := by rw [foldL_size]; omega
      have hBz := hB.size
      have hS0 : wr.cell? ⟨g, off + k, none⟩ = some (.string s) ∧ wr.cell? ⟨g2, off2 + k, none⟩ = some (.string t) ∧ Below w.heap.size w wr := ⟨hc, hc2, hB⟩
      have hkn1 : (0 : Int) ≤ (k : Int) := by omega
      have hkn2 : (k : Int) < (n : Int) := by omega
      rw [hs0] at hF1; rw [ht0] at hF2
      by_cases hq : foldL xs[k] = foldL ys[k]
      · have HC2 : Hid (foldN (xs.take (k + 1)) = foldN (ys.take (k + 1))) := Lib.hid (by
          rw [List.take_succ_eq_append_getElem hkp, List.take_succ_eq_append_getElem hkq, foldN_snoc, foldN_snoc, HC.out, hq])
        clear hs0 hsz hsv ht0 htz htv h1 h2 hcell hcell2 hk hk2 hc hc2 hB
        rw [hq] at hF1
        clear hq hz1
        generalize (⟨(foldL ys[k]).toArray⟩ : ByteArray) = q at *
        have KS := Lib.hid (fun (W W' : World) (h : W.cell? ⟨g, off + k, none⟩ = some (.string s) ∧ W.cell? ⟨g2, off2 + k, none⟩ = some (.string t) ∧ Below w.heap.size w W) (hb : Below W.heap.size W W') => keepS2 h hb hg hg2 (Nat.le_refl _))
        go_wp2
        go_region_held3 (fun W' => W'.cell? ⟨g, off + k, none⟩ = some (.string s) ∧ W'.cell? ⟨g2, off2 + k, none⟩ = some (.string t) ∧ Below w.heap.size w W') (first | assumption | exact ⟨hS0.1, hS0.2.1, below_drewQ hS0.2.2 _⟩ | exact ⟨hS0.1, hS0.2.1, below_drewQ hS0.2.2 1⟩) (first | ((with_reducible refine (hF1 _).mono ?_); rintro e w2 ⟨rfl, hb2⟩; have hS2 := KS.out _ _ (by assumption) hb2) | ((with_reducible refine (hF2 _).mono ?_); rintro e w2 ⟨rfl, hb2⟩; have hS2 := KS.out _ _ (by assumption) hb2))
        all_goals
          go_wp2
          go_roundw
          case rel => exact ⟨k + 1, by go_num, by omega, HC2, hS2.2.2⟩
          case measure => simp [intOf]; omega
      · have H0 : Hid (sameN xs ys = false) := Lib.hid (by
          cases h : sameN xs ys with
          | false => rfl
          | true =>
            exfalso; apply hq
            have e := congrArg (fun l : Nm => l[k]?) ((sameN_iff xs ys).1 h)
            simpa [foldN, hkp, hkq] using e)
        have hqq : ((⟨(foldL xs[k]).toArray⟩ : ByteArray).toList == (⟨(foldL ys[k]).toArray⟩ : ByteArray).toList) = false := by
          rw [toList_data, toList_data]; simpa using hq
        clear hs0 hsz hsv ht0 htz htv h1 h2 hcell hcell2 hk hk2 hc hc2 hB hz1 hz2 hq
        generalize (⟨(foldL xs[k]).toArray⟩ : ByteArray) = p at *
        generalize (⟨(foldL ys[k]).toArray⟩ : ByteArray) = q at *
        have KS := Lib.hid (fun (W W' : World) (h : W.cell? ⟨g, off + k, none⟩ = some (.string s) ∧ W.cell? ⟨g2, off2 + k, none⟩ = some (.string t) ∧ Below w.heap.size w W) (hb : Below W.heap.size W W') => keepS2 h hb hg hg2 (Nat.le_refl _))
        go_wp2
        go_region_held3 (fun W' => W'.cell? ⟨g, off + k, none⟩ = some (.string s) ∧ W'.cell? ⟨g2, off2 + k, none⟩ = some (.string t) ∧ Below w.heap.size w W') (first | assumption | exact ⟨hS0.1, hS0.2.1, below_drewQ hS0.2.2 _⟩ | exact ⟨hS0.1, hS0.2.1, below_drewQ hS0.2.2 1⟩) (first | ((with_reducible refine (hF1 _).mono ?_); rintro e w2 ⟨rfl, hb2⟩; have hS2 := KS.out _ _ (by assumption) hb2) | ((with_reducible refine (hF2 _).mono ?_); rintro e w2 ⟨rfl, hb2⟩; have hS2 := KS.out _ _ (by assumption) hb2))
        all_goals
          go_wp2
          go_ret
          exact ⟨by rw [H0.out]; rfl, hS2.2.2⟩
    · obtain rfl : k = n := by omega
      have H0 : Hid (sameN xs ys = true) := Lib.hid ((sameN_iff _ _).2 (by
        have h := HC.out
        rwa [List.take_of_length_le (by rw [HN.out]; exact Nat.le_refl _), List.take_of_length_le (by rw [HN2.out]; exact Nat.le_refl _)] at h))
      go_wp2
      go_ret
      exact ⟨by rw [H0.out]; rfl, hB⟩
end Go.Proofs.YtckammgnmgkieaaGreat

/-
  Package name's contracts in one spelling, for laws: arguments that read as names, answers named by equations.
-/
namespace Go.Proofs.YtckammgnmgkieaaGreat
set_option maxRecDepth 20000
open Go.RowKit Go.Shelf

theorem NmAt.alloc {W : World} {v : Value} {xs : Nm} (h : NmAt W v xs) (o : Obj) : NmAt (W.alloc o) v xs := h.below ((Below.refl _ _).alloc (Nat.le_refl _) _)

def NmRes (xs : Nm) (k : Nat) (w : World) (e : Ending) (w' : World) : Prop := ∃ a c, e = .returned (.slice a k c) ∧ NmAt w' (.slice a k c) xs ∧ Below w.heap.size w w'
theorem nmRes_of {xs : Nm} {k : Nat} {w w' : World} {v : Value} (hk : xs.length = k) (ho : OwnG 9 strV w' w.heap.size v xs) (hb : Below w.heap.size w w') : NmRes xs k w (.returned v) w' := by
  subst hk
  obtain ⟨a, c, rfl⟩ := ho.shape
  exact ⟨a, c, rfl, ho.nmAt, hb⟩
theorem kn_NText (v : Value) (n : Nm) (t : List UInt8) (h : textN n = t) (w : World) (hA : NmAt w v n) (h1 : NmOK n) :
    Calls Tryz.prog 139 #[v] w fun e w' => e = .returned (.string ⟨t.toArray⟩) ∧ Below w.heap.size w w' := by
  subst h; exact name_Text v n w hA.1 h1
theorem kn_NUnder (v u : Value) (n z : Nm) (r : Bool) (h : underN n z = r) (w : World) (hA : NmAt w v n) (hU : NmAt w u z) (h1 : NmOK n) (h2 : NmOK z) :
    Calls Tryz.prog 56 #[v, u] w fun e w' => e = .returned (.bool r) ∧ Below w.heap.size w w' := by
  subst h; exact name_Under v u n z w hA.1 hU.1 h1 h2
theorem kn_NSame (v u : Value) (n z : Nm) (r : Bool) (h : sameN n z = r) (w : World) (hA : NmAt w v n) (hU : NmAt w u z) (h1 : NmOK n) (h2 : NmOK z) :
    Calls Tryz.prog 57 #[v, u] w fun e w' => e = .returned (.bool r) ∧ Below w.heap.size w w' := by
  subst h; exact name_Same v u n z w hA.1 hU.1 h1 h2
theorem kn_NCompare (v u : Value) (n z : Nm) (r : Int) (h : compareN n z = r) (w : World) (hA : NmAt w v n) (hU : NmAt w u z) (h1 : NmOK n) (h2 : NmOK z) :
    Calls Tryz.prog 129 #[v, u] w fun e w' => e = .returned (.int .i64 r) ∧ Below w.heap.size w w' := by
  subst h; exact name_Compare v u n z w hA.1 hU.1 h1 h2
theorem kn_NChild (s : ByteArray) (v : Value) (n l : Nm) (k : Nat) (h : s.data.toList :: n = l) (hk : l.length = k) (w : World) (hA : NmAt w v n) (h1 : NmOK n) :
    Calls Tryz.prog 75 #[.string s, v] w (NmRes l k w) := by
  subst h; refine (name_Child s v n w hA.1 hA.2 h1).mono ?_
  rintro e w' ⟨v', rfl, ho, hb⟩; exact nmRes_of hk ho hb
theorem kn_NFold (v : Value) (n l : Nm) (k : Nat) (h : foldN n = l) (hk : l.length = k) (w : World) (hA : NmAt w v n) (h1 : NmOK n) :
    Calls Tryz.prog 54 #[v] w (NmRes l k w) := by
  subst h; refine (name_Fold v n w hA.1 h1).mono ?_
  rintro e w' ⟨v', rfl, ho, hb⟩; exact nmRes_of hk ho hb
end Go.Proofs.YtckammgnmgkieaaGreat

/-
  Inside a fence: a region that draws its order, whose first n operations only read and whose others wait for all of them and for one another (a yield at its end, ..): one walk of the text's order serves. The kit's StillTail, over QuietThIn's laws.
-/
namespace Go.Proofs.YtckammgnmgkieaaGreat
set_option maxRecDepth 20000
open Go.RowKit Go.Shelf

section
variable {F : Fence} {d : Nat} {P : Program} {ops : Array Oper} {md : Region.Mode} {C : World → Prop}

def wpAnyLIn (F : Fence) (d : Nat) (P : Program) (md : Region.Mode) (ops : Array Oper) (C : World → Prop) (n : Nat) (L : Array Bool → Act → Prop) : Nat → Array Bool → Act → Prop
  | 0, listed, a => L listed a
  | f + 1, listed, a =>
    Region.ready md ops listed ≠ [] ∧ ∀ i ∈ Region.ready md ops listed, i < n ∧ qOpIn F d P ops C i (wpAnyLIn F d P md ops C n L f (listed.setIfInBounds i true)) a

theorem wpAnyIn_of_head {n g : Nat} {L : Array Bool → Act → Prop} {Q' : Exit → Act → World → Prop} (hro : F.round = none) (hL : ∀ listed a w, C w → L listed a → wpAnyIn F d P md ops Q' g listed a w) :
    ∀ (f : Nat) (listed : Array Bool) (a : Act) (w : World), C w → wpAnyLIn F d P md ops C n L f listed a → wpAnyIn F d P md ops Q' (f + g) listed a w
  | 0, listed, a, w, hw, h => by rw [Nat.zero_add]; exact hL _ _ _ hw h
  | f + 1, listed, a, w, hw, h => by
    rw [show f + 1 + g = (f + g) + 1 by omega]
    exact ⟨fun h0 => absurd h0 h.1, fun i hi => wpOpIn_of_qOpIn hro hw (fun a' w' hw' h' => wpAnyIn_of_head hro hL f _ a' w' hw' h') (h.2 i hi).2⟩

theorem wpAnyLIn_first {n i : Nat} {oi : Oper} {v : Value} {L : Array Bool → Act → Prop} (hi : ops[i]? = some oi) (hsel : ∀ (j : Nat) (o : Oper) cs b, ops[j]? = some o → o.op ≠ .select cs b)
    (hs : Region.sinkB md ops n = true) (hc : Region.chainB md ops n = true) (hn : n < ops.size) (hin : i < n)
    (hdone : ∀ listed a, L listed a → ∀ j ∈ Region.ready md ops listed, n ≤ j) :
    ∀ (f : Nat) (listed : Array Bool) (a : Act), HeadInv md ops n listed →
      (∀ j oj, ops[j]? = some oj → j ≠ i → listed.getD j true = false → (∀ e ∈ oj.after, Region.binds md e = true → e.on ≠ i) → oi.apart ops oj = true) →
      i ∈ Region.ready md ops listed → YieldsQuiet F d P ops C oi v a →
      wpAnyLIn F d P md ops C n L f (listed.setIfInBounds i true) (a.put oi.dst v) → wpAnyLIn F d P md ops C n L (f + 1) listed a := by
  intro f
  induction f with
  | zero =>
    intro listed a inv _ hr hy H
    have hun := (mem_ready.1 hr).1
    refine ⟨fun h => (by rw [h] at hr; cases hr), fun j hj => ?_⟩
    have hjn : j < n := by
      rcases Nat.lt_or_ge j n with h | h
      · exact h
      · exact absurd hj (tail_waits hs hc hn inv _ i rfl hin hun j h)
    refine ⟨hjn, ?_⟩
    by_cases hji : j = i
    · subst hji; exact hy.qOpIn hi H
    · have := hdone _ _ H j (ready_mono hj hji)
      omega
  | succ f ih =>
    intro listed a inv hfree hr hy H
    have hun := (mem_ready.1 hr).1
    refine ⟨fun h => (by rw [h] at hr; cases hr), fun j hj => ?_⟩
    have hjn : j < n := by
      rcases Nat.lt_or_ge j n with h | h
      · exact h
      · exact absurd hj (tail_waits hs hc hn inv _ i rfl hin hun j h)
    refine ⟨hjn, ?_⟩
    by_cases hji : j = i
    · subst hji; exact hy.qOpIn hi H
    · have h1 := (H.2 j (ready_mono hj hji)).2
      obtain ⟨hjun, oj, hoj, hall⟩ := mem_ready.1 hj
      have hnot : ∀ e ∈ oj.after, Region.binds md e = true → e.on ≠ i := fun e he hb heq => by
        have h1 := hall e he hb
        rw [heq, getD_both hun] at h1
        cases h1
      have h2 := qOpIn_put hoj (hfree j oj hoj hji hjun hnot) (fun cs b => hsel i oi cs b hi) (fun cs b => hsel j oj cs b hoj) hy h1
      have hfree' : ∀ k ok, ops[k]? = some ok → k ≠ i → (listed.setIfInBounds j true).getD k true = false →
          (∀ e ∈ ok.after, Region.binds md e = true → e.on ≠ i) → oi.apart ops ok = true := fun k ok hk hki hun hno => by
        refine hfree k ok hk hki ?_ hno
        by_cases hjk : j = k
        · subst hjk; exact hjun
        · rw [getD_set_ne true hjk] at hun; exact hun
      refine qOpIn_mono (fun a' h3 => ih (listed.setIfInBounds j true) a' (inv.set hj hjn) hfree' (ready_mono hr (Ne.symm hji)) h3.1 ?_) h2
      rw [Array.setIfInBounds_comm _ _ hji]
      exact h3.2

theorem wpAnyIn_of_seq {Q' : Exit → Act → World → Prop} : ∀ (l : List Oper) (k : Nat) (listed : Array Bool) (a : Act) (w : World), (∀ j, l[j]? = ops[k + j]?) →
    Region.seqB md ops l.length k listed = true → wpListIn F d P ops Q' l a w → wpAnyIn F d P md ops Q' l.length listed a w
  | [], _, _, _, _, _, hB, h => ⟨by simpa [Region.seqB] using hB, h⟩
  | o :: l, k, listed, a, w, hl, hB, h => by
    have h0 : ops[k]? = some o := by simpa using (hl 0).symm
    simp only [List.length_cons, Region.seqB, Bool.and_eq_true, decide_eq_true_eq] at hB
    refine ⟨fun h1 => (by rw [hB.1] at h1; cases h1), fun i hi => ?_⟩
    rw [hB.1] at hi
    have hik : i = k := by simpa using hi
    subst hik
    have hw : wpOpIn F d P ops Q' i (wpListIn F d P ops Q' l) a w := by unfold wpOpIn; simp only [h0]; exact h
    exact wpOpIn_mono (fun a' w' h' => wpAnyIn_of_seq l (i + 1) _ a' w' (fun j => by have := hl (j + 1); simpa [Nat.add_assoc, Nat.add_comm 1 j] using this) hB.2 h') hw

theorem wpAnyLIn_lex {n g : Nat} {Lq : Act → Prop} (hsel : Region.noSelect ops = true) (hs : Region.sinkB md ops n = true) (hc : Region.chainB md ops n = true) (hn : n < ops.size) :
    ∀ (l : List Oper) (k : Nat) (listed : Array Bool) (a : Act), (∀ j, j < l.length → l[j]? = ops[k + j]?) → k + l.length = n → HeadInv md ops n listed →
    Region.lexHead md ops g l.length k listed = true → wpQuietIn F d P ops C Lq l a →
    wpAnyLIn F d P md ops C n (fun listed' a' => Region.seqB md ops g n listed' = true ∧ Lq a') l.length listed a
  | [], k, listed, a, _, hk, _, hB, h => by
    have : k = n := by simpa using hk
    subst this
    exact ⟨by simpa [Region.lexHead] using hB, h⟩
  | o :: l, k, listed, a, hl, hk, inv, hB, h => by
    have h0 : ops[k]? = some o := by simpa using (hl 0 (by simp)).symm
    simp only [List.length_cons, Region.lexHead, Bool.and_eq_true] at hB
    obtain ⟨⟨hr, hf⟩, hB'⟩ := hB
    have hkn : k < n := by simp only [List.length_cons] at hk; omega
    have hr' : k ∈ Region.ready md ops listed := by simpa using hr
    have hst : qOpIn F d P ops C k (wpQuietIn F d P ops C Lq l) a := by unfold qOpIn; simp only [h0]; exact h
    obtain ⟨v, hy, hK⟩ := yieldsQuiet_of_qOpIn h0 hst
    exact wpAnyLIn_first h0 (Region.noSelect_spec hsel) hs hc hn hkn (fun listed' a' hL => seqB_ready hL.1) l.length listed a inv (Region.free_spec h0 hf) hr' hy
      (wpAnyLIn_lex hsel hs hc hn l (k + 1) _ _ (fun j hj => by have := hl (j + 1) (by simp; omega); simpa [Nat.add_assoc, Nat.add_comm 1 j] using this) (by simp only [List.length_cons] at hk; omega) (inv.set hr' hkn) hB' hK)

theorem wpIn_region_tail {id : Nat} {Q : Exit → Act → World → Prop} {a : Act} {w : World} {l : List Oper} (n : Nat) (hro : F.round = none) (hm : P.follows .mixedOrders = true) (hB : Region.lexTailB .any l.toArray n = true)
    (h : wpQuietIn F d P l.toArray (fun w' => ∃ n, w' = w.drewN n) (fun a' => ∀ w', (∃ n, w' = w.drewN n) → wpListIn F d P l.toArray Q (l.drop n) a' w') (l.take n) a) : (Code.region id l.toArray true).wpIn F d P Q a w := by
  simp only [Region.lexTailB, Bool.and_eq_true, decide_eq_true_eq] at hB
  obtain ⟨⟨⟨⟨hsel, hn⟩, hs⟩, hc⟩, hlex⟩ := hB
  have hn' : n < l.length := by simpa using hn
  have htl : (l.take n).length = n := by simp; omega
  have hdl : (l.drop n).length = l.toArray.size - n := by simp
  have inv0 : HeadInv .any l.toArray n (Array.replicate l.toArray.size false) :=
    ⟨by simp, fun j oj _ hl => (by rw [getD_replicate_false] at hl; cases hl), fun t _ ht => getD_in (by simpa using ht) (getD_replicate_false _ _)⟩
  have H := wpAnyLIn_lex (md := .any) (g := l.toArray.size - n) hsel hs hc hn (l.take n) 0 _ a (fun j hj => by
    have hj' : j < n := by rw [htl] at hj; exact hj
    simp [hj']) (by simpa using htl) inv0 (by rw [htl]; exact hlex) h
  refine wpIn_region_any hm ?_
  have := wpAnyIn_of_head (Q' := Q) (g := l.toArray.size - n) hro (fun listed a' w' hw' hL => by
    have := wpAnyIn_of_seq (md := .any) (Q' := Q) (l.drop n) n listed a' w' (fun j => by simp [List.getElem?_drop]) (by rw [hdl]; exact hL.1) (hL.2 w' hw')
    rwa [hdl] at this) _ _ _ ({ w with drawn := w.drawn + 1 }) ⟨1, rfl⟩ H
  rw [htl, show n + (l.toArray.size - n) = l.toArray.size by omega] at this
  exact this

end
end Go.Proofs.YtckammgnmgkieaaGreat

/-
  rdata.pairs and its iterator, at the four element types. (Written by wip/tools/gen4.py.)
-/
namespace Go.Proofs.YtckammgnmgkieaaGreat
set_option maxRecDepth 20000
open Go.RowKit Go.Shelf

def KeepP (b b2 : Nat) (v u : Value) (W W' : World) : Prop := KeepN b v W W' ∧ KeepN b2 u W W'
theorem KeepP.refl (b b2 : Nat) (v u : Value) (W : World) : KeepP b b2 v u W W := ⟨KeepN.refl _ _ _, KeepN.refl _ _ _⟩
theorem KeepP.trans {b b2 : Nat} {v u : Value} {A B C : World} (h : KeepP b b2 v u A B) (k : KeepP b b2 v u B C) : KeepP b b2 v u A C := ⟨h.1.trans k.1, h.2.trans k.2⟩
theorem KeepP.drewN {b b2 : Nat} {v u : Value} (W : World) (n : Nat) : KeepP b b2 v u W (W.drewN n) := ⟨KeepN.drewN _ _, KeepN.drewN _ _⟩
def pairV (xs ys : List Value) (j : Fin (min xs.length ys.length)) : Array Value := #[xs[j.val]'(by have := j.isLt; omega), ys[j.val]'(by have := j.isLt; omega)]

def FirstC (cs : Nat → Int) (n m : Nat) (r : Int) : Prop := (∃ k, k < n ∧ k < m ∧ (∀ j, j < k → cs j = 0) ∧ cs k ≠ 0 ∧ r = cs k) ∨ ((∀ j, j < n → j < m → cs j = 0) ∧ r = cmpI n m)
theorem firstC_cmpL {α : Type} {f : α → α → Int} {a b : List α} {cs : Nat → Int} {r : Int} (hc : ∀ j (h1 : j < a.length) (h2 : j < b.length), cs j = f a[j] b[j]) (h : FirstC cs a.length b.length r) : r = cmpL f a b := by
  have key : ∀ k, k ≤ a.length → k ≤ b.length → (∀ j, j < k → cs j = 0) → cmpL f a b = cmpL f (a.drop k) (b.drop k) := by
    intro k
    induction k with
    | zero => intro _ _ _; rfl
    | succ k ih =>
      intro h1 h2 h3
      rw [ih (by omega) (by omega) (fun j hj => h3 j (by omega)), cmpL_step k (by omega) (by omega), if_pos]
      rw [← hc k (by omega) (by omega)]; exact h3 k (by omega)
  rcases h with ⟨k, h1, h2, h3, h4, rfl⟩ | ⟨h1, rfl⟩
  · rw [key k (by omega) (by omega) h3, cmpL_step k h1 h2, if_neg (by rw [← hc k h1 h2]; exact h4), hc k h1 h2]
  · rcases Nat.le_total a.length b.length with h | h
    · rw [key a.length (Nat.le_refl _) h (fun j hj => h1 j hj (by omega)), cmpL_end _ (Nat.le_refl _) h (.inl rfl)]
    · rw [key b.length h (Nat.le_refl _) (fun j hj => h1 j (by omega) hj), cmpL_end _ h (Nat.le_refl _) (.inr rfl)]
theorem pre_fin {m : Nat} {p : List (Fin m)} {x : Fin m} (h : p ++ [x] <+: List.finRange m) : ∀ j (hj : j < x.val), (⟨j, by have := x.isLt; omega⟩ : Fin m) ∈ p := by
  have hl : p.length + 1 ≤ m := by have := h.length_le; simpa using this
  have e := List.prefix_iff_eq_take.1 h
  rw [List.length_append, List.length_singleton, finRange_take_succ (by omega)] at e
  obtain ⟨e1, e2⟩ := List.append_inj' e rfl
  have e2 : x = ⟨p.length, by omega⟩ := by simpa using e2
  intro j hj
  rw [e2] at hj
  have hj' : j < p.length := hj
  rw [e1]
  refine List.mem_iff_getElem.2 ⟨j, by rw [List.length_take, List.length_finRange]; omega, by simp⟩
def lastC {m : Nat} (cs : Nat → Int) (pre : List (Fin m)) : Int := cs ((pre.getLast?.map Fin.val).getD 0)
theorem lastC_snoc {m : Nat} (cs : Nat → Int) (p : List (Fin m)) (x : Fin m) : lastC cs (p ++ [x]) = cs x.val := by simp [lastC]
theorem keepP_t {b b2 : Nat} {v u : Value} {A B C : World} (h : KeepP b b2 v u A B) (k : KeepP b b2 v u B C) : KeepP b b2 v u A C := h.trans k
theorem SlAt.row_lt {W : World} {v : Value} {xs : List Value} (h : SlAt W v xs) : ∀ g, rowOf v = some g → g < W.heap.size := by
  obtain ⟨a, c, rfl, _, _, hx⟩ := h
  intro g hg
  rcases hx with e | ⟨b, off, rfl, hb, _⟩
  · subst e; cases a <;> cases hg
  · cases xs with
    | nil => cases hg
    | cons x r => cases hg; exact hb

end Go.Proofs.YtckammgnmgkieaaGreat

/-
  Rows in their own order: what they are, and that there is but one.
-/
namespace Go.Proofs.YtckammgnmgkieaaGreat
set_option maxRecDepth 20000
open Go.RowKit Go.Shelf
open Stb (COrd)

def StrictR (l : List Rc) : Prop := l.Pairwise fun a b => compareR a b < 0
structure CanOf (l c : List Rc) : Prop where
  up : StrictR c
  has : ∀ x ∈ l, ∃ y ∈ c, compareR y x = 0 ∧ y.ttl ≤ x.ttl
  of : ∀ y ∈ c, ∃ x ∈ l, compareR x y = 0 ∧ x.ttl = y.ttl

theorem cR_anti (x y : Rc) : compareR y x = - compareR x y := cord_compareR.anti x y
theorem cR_lt_le {x y z : Rc} (h1 : compareR x y < 0) (h2 : compareR y z ≤ 0) : compareR x z < 0 := by
  have a := cR_anti x z; have b := cR_anti x y
  have t := cord_compareR.trans y z x h2
  have := cord_compareR.trans x y z (by omega) h2
  by_cases c : compareR x z < 0
  · exact c
  · have := t (by omega); omega
theorem cR_eq {x y z : Rc} (h1 : compareR x y = 0) (h2 : compareR y z = 0) : compareR x z = 0 := by
  have a := cR_anti x z; have b := cR_anti y z; have c := cR_anti x y
  have t1 := cord_compareR.trans x y z (by omega) (by omega)
  have t2 := cord_compareR.trans z y x (by omega) (by omega)
  omega
theorem cR_sym {x y : Rc} (h : compareR x y = 0) : compareR y x = 0 := by have := cR_anti x y; omega
theorem minT_le (a b : Nat) : minT a b ≤ a ∧ minT a b ≤ b ∧ (minT a b = a ∨ minT a b = b) := by
  unfold minT; split <;> omega

theorem insR_lt {x : Rc} : ∀ (l : List Rc), StrictR l → ∀ z, compareR z x < 0 → (∀ y ∈ l, compareR z y < 0) → ∀ y ∈ insR l x, compareR z y < 0
  | [], _, z, h, _, y, hy => by simp [insR] at hy; subst hy; exact h
  | a :: r, hs, z, h, h2, y, hy => by
    have p := List.pairwise_cons.1 hs
    simp only [insR] at hy
    split at hy
    · rcases List.mem_cons.1 hy with rfl | hy
      · exact h2 y (by simp)
      · exact insR_lt r p.2 z h (fun y hy => h2 y (by simp [hy])) y hy
    · split at hy
      · rcases List.mem_cons.1 hy with rfl | hy
        · exact h2 a (by simp)
        · exact h2 y (by simp [hy])
      · rcases List.mem_cons.1 hy with rfl | hy
        · exact h
        · exact h2 y hy
theorem insR_strict (x : Rc) : ∀ (l : List Rc), StrictR l → StrictR (insR l x)
  | [], _ => by simp [insR, StrictR]
  | a :: r, hs => by
    have p := List.pairwise_cons.1 hs
    simp only [insR]
    split
    · rename_i c
      exact List.pairwise_cons.2 ⟨insR_lt r p.2 a c p.1, insR_strict x r p.2⟩
    · rename_i c
      split
      · exact List.pairwise_cons.2 ⟨fun y hy => p.1 y hy, p.2⟩
      · rename_i c2
        have hx : compareR x a < 0 := by have := cR_anti x a; omega
        refine List.pairwise_cons.2 ⟨fun y hy => ?_, hs⟩
        rcases List.mem_cons.1 hy with rfl | hy
        · exact hx
        · exact cR_lt_le hx (by have := p.1 y hy; omega)
theorem insR_has (x : Rc) : ∀ (l : List Rc), (∃ y ∈ insR l x, compareR y x = 0 ∧ y.ttl ≤ x.ttl) ∧ ∀ a ∈ l, ∃ y ∈ insR l x, compareR y a = 0 ∧ y.ttl ≤ a.ttl
  | [] => ⟨⟨x, by simp [insR], compareR_self x, Nat.le_refl _⟩, by simp⟩
  | a :: r => by
    obtain ⟨⟨y, hy, h1⟩, h2⟩ := insR_has x r
    simp only [insR]
    split
    · refine ⟨⟨y, by simp [hy], h1⟩, fun b hb => ?_⟩
      rcases List.mem_cons.1 hb with rfl | hb
      · exact ⟨b, by simp, compareR_self b, Nat.le_refl _⟩
      · obtain ⟨z, hz, h⟩ := h2 b hb
        exact ⟨z, by simp [hz], h⟩
    · have m := minT_le a.ttl x.ttl
      split
      · rename_i c
        refine ⟨⟨_, List.mem_cons_self .., c, m.2.1⟩, fun b hb => ?_⟩
        rcases List.mem_cons.1 hb with rfl | hb
        · exact ⟨_, List.mem_cons_self .., compareR_self b, m.1⟩
        · exact ⟨b, by simp [hb], compareR_self b, Nat.le_refl _⟩
      · exact ⟨⟨x, by simp, compareR_self x, Nat.le_refl _⟩, fun b hb => ⟨b, by simp only [List.mem_cons] at hb ⊢; exact Or.inr hb, compareR_self b, Nat.le_refl _⟩⟩
theorem insR_of (x : Rc) : ∀ (l : List Rc), ∀ y ∈ insR l x, ∃ a, (a = x ∨ a ∈ l) ∧ compareR a y = 0 ∧ a.ttl = y.ttl
  | [], y, hy => by simp [insR] at hy; subst hy; exact ⟨y, .inl rfl, compareR_self y, rfl⟩
  | a :: r, y, hy => by
    simp only [insR] at hy
    split at hy
    · rcases List.mem_cons.1 hy with rfl | hy
      · exact ⟨y, .inr (by simp), compareR_self y, rfl⟩
      · obtain ⟨b, hb, h⟩ := insR_of x r y hy
        exact ⟨b, hb.imp id (fun h => by simp [h]), h⟩
    · split at hy
      · rename_i c
        rcases List.mem_cons.1 hy with rfl | hy
        · rcases (minT_le a.ttl x.ttl).2.2 with e | e
          · exact ⟨a, .inr (by simp), compareR_self a, e.symm⟩
          · exact ⟨x, .inl rfl, cR_sym c, e.symm⟩
        · exact ⟨y, .inr (by simp [hy]), compareR_self y, rfl⟩
      · simp only [List.mem_cons] at hy
        exact ⟨y, hy.imp id (fun h => by simpa using h), compareR_self y, rfl⟩
theorem insR_length (x : Rc) : ∀ (l : List Rc), (insR l x).length ≤ l.length + 1 ∧ l.length ≤ (insR l x).length
  | [] => by simp [insR]
  | a :: r => by
    have := insR_length x r
    simp only [insR]
    repeat' split
    all_goals simp only [List.length_cons]; omega
theorem CanOf.step {l c : List Rc} (h : CanOf l c) (x : Rc) : CanOf (l ++ [x]) (insR c x) := by
  refine ⟨insR_strict x c h.up, fun a ha => ?_, fun y hy => ?_⟩
  · rcases List.mem_append.1 ha with ha | ha
    · obtain ⟨y, hy, h1, h2⟩ := h.has a ha
      obtain ⟨z, hz, g1, g2⟩ := (insR_has x c).2 y hy
      exact ⟨z, hz, cR_eq g1 h1, Nat.le_trans g2 h2⟩
    · simp at ha; subst ha
      exact (insR_has a c).1
  · obtain ⟨a, ha, h1, h2⟩ := insR_of x c y hy
    rcases ha with rfl | ha
    · exact ⟨a, by simp, h1, h2⟩
    · obtain ⟨b, hb, g1, g2⟩ := h.of a ha
      exact ⟨b, by simp [hb], cR_eq g1 h1, by omega⟩
theorem canonM_snoc (l : List Rc) (x : Rc) : canonM (l ++ [x]) = insR (canonM l) x := by simp [canonM, List.foldl_append]
theorem list_snoc_ind {α : Type} {P : List α → Prop} (h0 : P []) (hs : ∀ l x, P l → P (l ++ [x])) (l : List α) : P l := by
  have : ∀ l : List α, P l.reverse := by
    intro l
    induction l with
    | nil => exact h0
    | cons x l ih => rw [List.reverse_cons]; exact hs _ _ ih
  have := this l.reverse
  rwa [List.reverse_reverse] at this
theorem canonM_can (l : List Rc) : CanOf l (canonM l) :=
  list_snoc_ind (P := fun l => CanOf l (canonM l)) ⟨List.Pairwise.nil, by simp, by simp [canonM]⟩ (fun l x h => by rw [canonM_snoc]; exact h.step x) l
theorem canonM_length (l : List Rc) : (canonM l).length ≤ l.length :=
  list_snoc_ind (P := fun l => (canonM l).length ≤ l.length) (by simp [canonM]) (fun l x h => by rw [canonM_snoc]; have := insR_length x (canonM l); simp; omega) l

def Covers (l m : List Rc) : Prop := ∀ x ∈ m, ∃ y ∈ l, compareR y x = 0 ∧ y.ttl ≤ x.ttl
theorem StrictR.one {c : List Rc} : StrictR c → ∀ {y z : Rc}, y ∈ c → z ∈ c → compareR y z = 0 → y = z := by
  intro h
  induction c with
  | nil => intro y z hy; cases hy
  | cons a c ih =>
    intro y z hy hz hc
    have p := List.pairwise_cons.1 h
    rcases List.mem_cons.1 hy with ey | hy'
    · rcases List.mem_cons.1 hz with ez | hz'
      · rw [ey, ez]
      · have := p.1 z hz'; rw [ey] at hc; omega
    · rcases List.mem_cons.1 hz with ez | hz'
      · have := p.1 y hy'; have := cR_anti y z; rw [ez] at hc this; omega
      · exact ih p.2 hy' hz' hc
theorem covers_canon (l : List Rc) : Covers (canonM l) l := (canonM_can l).has
theorem canon_covers (l : List Rc) : Covers l (canonM l) := fun y hy => by
  obtain ⟨x, hx, e1, e2⟩ := (canonM_can l).of y hy
  exact ⟨x, hx, e1, by omega⟩
end Go.Proofs.YtckammgnmgkieaaGreat

/-
  A row cut into runs of records that are the same: plain facts.
-/
namespace Go.Proofs.YtckammgnmgkieaaGreat
set_option maxRecDepth 20000
open Go.RowKit Go.Shelf
set_option linter.unusedVariables false

def nxtM (rs : List Rc) (s : Nat) : Nat := match rs.drop s with
  | [] => s + 1
  | y :: r => s + 1 + (r.takeWhile (sameR y)).length
def segsF : Nat → Nat → List Rc → List (Nat × Nat)
  | 0, _, _ => []
  | f + 1, s, rs => if s < rs.length then (s, nxtM rs s) :: segsF f (nxtM rs s) rs else []
def segs (rs : List Rc) : List (Nat × Nat) := segsF rs.length 0 rs
theorem takeWhile_len {p : Rc → Bool} : ∀ (l : List Rc), (l.takeWhile p).length ≤ l.length ∧ (∀ j (hj : j < (l.takeWhile p).length) (h : j < l.length), p l[j] = true) ∧ (∀ h : (l.takeWhile p).length < l.length, p l[(l.takeWhile p).length] = false)
  | [] => ⟨Nat.le_refl _, fun j hj => by simp at hj, fun h => by simp at h⟩
  | x :: r => by
    obtain ⟨h1, h2, h3⟩ := takeWhile_len (p := p) r
    by_cases hx : p x = true
    · have e : (x :: r).takeWhile p = x :: r.takeWhile p := by rw [List.takeWhile_cons, if_pos hx]
      simp only [e, List.length_cons]
      refine ⟨by omega, fun j hj h => ?_, fun h => ?_⟩
      · cases j with
        | zero => exact hx
        | succ j => exact h2 j (by omega) (by omega)
      · exact h3 (by omega)
    · have hx' : p x = false := by simpa using hx
      have e : (x :: r).takeWhile p = [] := by rw [List.takeWhile_cons, if_neg hx]
      simp only [e, List.length_nil, List.length_cons]
      exact ⟨by omega, fun j hj => by omega, fun h => hx'⟩
theorem nxtM_at {rs : List Rc} {s : Nat} (hs : s < rs.length) : nxtM rs s = s + 1 + ((rs.drop (s + 1)).takeWhile (sameR rs[s])).length := by
  unfold nxtM
  rw [List.drop_eq_getElem_cons hs]
theorem nxtM_lt {rs : List Rc} {s : Nat} (hs : s < rs.length) : s < nxtM rs s ∧ nxtM rs s ≤ rs.length := by
  rw [nxtM_at hs]
  have := (takeWhile_len (p := sameR rs[s]) (rs.drop (s + 1))).1
  rw [List.length_drop] at this
  omega
theorem nxtM_more {rs : List Rc} {s e : Nat} (hs : s < rs.length) (h1 : s + 1 ≤ e) (h2 : e ≤ nxtM rs s) (he : e < rs.length) (hsame : sameR rs[s] rs[e] = true) : e + 1 ≤ nxtM rs s := by
  rw [nxtM_at hs] at h2 ⊢
  obtain ⟨t1, t2, t3⟩ := takeWhile_len (p := sameR rs[s]) (rs.drop (s + 1))
  rcases Nat.lt_or_ge e (s + 1 + ((rs.drop (s + 1)).takeWhile (sameR rs[s])).length) with h | h
  · omega
  · exfalso
    obtain ⟨j, rfl⟩ : ∃ j, e = s + 1 + j := ⟨e - (s + 1), by omega⟩
    have e1 : ((rs.drop (s + 1)).takeWhile (sameR rs[s])).length = j := by omega
    have := t3 (by rw [List.length_drop]; omega)
    simp only [e1, List.getElem_drop] at this
    rw [hsame] at this; cases this
theorem nxtM_stop {rs : List Rc} {s e : Nat} (hs : s < rs.length) (h1 : s + 1 ≤ e) (h2 : e ≤ nxtM rs s) (h : e = rs.length ∨ ∃ he : e < rs.length, sameR rs[s] rs[e] = false) : e = nxtM rs s := by
  have hn := nxtM_lt hs
  rcases h with h | ⟨he, h⟩
  · omega
  · rcases Nat.lt_or_ge e (nxtM rs s) with h3 | h3
    · exfalso
      rw [nxtM_at hs] at h3
      obtain ⟨t1, t2, t3⟩ := takeWhile_len (p := sameR rs[s]) (rs.drop (s + 1))
      obtain ⟨j, rfl⟩ : ∃ j, e = s + 1 + j := ⟨e - (s + 1), by omega⟩
      have := t2 j (by omega) (by rw [List.length_drop]; omega)
      simp only [List.getElem_drop] at this
      rw [h] at this; cases this
    · omega
theorem segsF_more (rs : List Rc) : ∀ (f s : Nat), rs.length - s ≤ f → segsF f s rs = segsF (rs.length - s) s rs
  | 0, s, h => by rw [show rs.length - s = 0 by omega]
  | f + 1, s, h => by
    by_cases hs : s < rs.length
    · have hn := nxtM_lt hs
      obtain ⟨m, hm⟩ : ∃ m, rs.length - s = m + 1 := ⟨rs.length - s - 1, by omega⟩
      rw [hm]
      simp only [segsF, if_pos hs]
      rw [segsF_more rs f (nxtM rs s) (by omega), segsF_more rs m (nxtM rs s) (by omega)]
    · rw [show rs.length - s = 0 by omega]
      simp only [segsF, if_neg hs]
def leftM (rs : List Rc) (s : Nat) : List (Nat × Nat) := segsF (rs.length - s) s rs
theorem leftM_zero (rs : List Rc) : leftM rs 0 = segs rs := rfl
theorem leftM_end (rs : List Rc) {s : Nat} (h : rs.length ≤ s) : leftM rs s = [] := by unfold leftM; rw [show rs.length - s = 0 by omega]; rfl
theorem leftM_step {rs : List Rc} {s : Nat} (hs : s < rs.length) : leftM rs s = (s, nxtM rs s) :: leftM rs (nxtM rs s) := by
  have hn := nxtM_lt hs
  obtain ⟨m, hm⟩ : ∃ m, rs.length - s = m + 1 := ⟨rs.length - s - 1, by omega⟩
  unfold leftM
  rw [hm]
  simp only [segsF, if_pos hs]
  rw [segsF_more rs m (nxtM rs s) (by omega)]
def runR (rs : List Rc) (x : Nat × Nat) : Rc := match rs.drop x.1 with
  | [] => Rc.mk [] 0 ⟨0, [], [], [], []⟩
  | y :: r => ⟨y.owner, leastM y.ttl (r.take (x.2 - x.1 - 1)), y.data⟩
theorem takeWhile_take (p : Rc → Bool) : ∀ l : List Rc, l.take (l.takeWhile p).length = l.takeWhile p ∧ l.drop (l.takeWhile p).length = l.dropWhile p
  | [] => ⟨rfl, rfl⟩
  | x :: r => by
    have ih := takeWhile_take p r
    by_cases hx : p x = true
    · simp only [List.takeWhile_cons, List.dropWhile_cons, hx, if_true, List.length_cons, List.take_succ_cons, List.drop_succ_cons, ih.1, ih.2]
      exact ⟨trivial, trivial⟩
    · simp only [List.takeWhile_cons, List.dropWhile_cons, hx, Bool.false_eq_true, if_false, List.length_nil, List.take_zero, List.drop_zero]
      exact ⟨trivial, trivial⟩
theorem leftM_grp (rs : List Rc) : ∀ (n s : Nat), rs.length - s ≤ n → (leftM rs s).map (runR rs) = grp (rs.drop s)
  | n, s, h => by
    by_cases hs : s < rs.length
    · have hn := nxtM_lt hs
      have e1 := nxtM_at hs
      obtain ⟨t1, t2⟩ := takeWhile_take (sameR rs[s]) (rs.drop (s + 1))
      rw [leftM_step hs, List.map_cons, List.drop_eq_getElem_cons hs, grp_cons]
      have ed : (rs.drop (s + 1)).dropWhile (sameR rs[s]) = rs.drop (nxtM rs s) := by rw [← t2, List.drop_drop, e1]
      have er : runR rs (s, nxtM rs s) = ⟨rs[s].owner, leastM rs[s].ttl ((rs.drop (s + 1)).takeWhile (sameR rs[s])), rs[s].data⟩ := by
        unfold runR
        simp only [List.drop_eq_getElem_cons hs]
        rw [← t1, show nxtM rs s - s - 1 = ((rs.drop (s + 1)).takeWhile (sameR rs[s])).length by omega]
      rw [er, ed]
      cases n with
      | zero => omega
      | succ n => rw [leftM_grp rs n (nxtM rs s) (by omega)]
    · rw [leftM_end rs (by omega), List.drop_of_length_le (by omega)]
      rfl
theorem segs_grp (rs : List Rc) : (segs rs).map (runR rs) = grp rs := by rw [← leftM_zero, leftM_grp rs rs.length 0 (by omega)]; rfl
end Go.Proofs.YtckammgnmgkieaaGreat

