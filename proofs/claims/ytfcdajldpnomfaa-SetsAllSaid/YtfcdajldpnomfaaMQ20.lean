/-
  Contract of name.Under.
-/
import Derived.Test.YtfcdajldpnomfaaMQ21
import Derived.Test.YtfcdajldpnomfaaMQ30
import Derived.Laws.AppendOwnNone
import Derived.Lib.Walk
import Derived.Lib.SliceRun
import Derived.Lib.AppendStr
import Derived.BigQuiet
namespace Go.Proofs.Ytfcdajldpnomfaa
set_option maxRecDepth 20000
open Go.RowKit Go.Shelf

theorem underN_of_get {xs zs : Nm} {d : Nat} (h : xs.length = d + zs.length) (hs : ∀ j (h1 : d + j < xs.length) (h2 : j < zs.length), sameM xs[d + j] zs[j] = true) : underN xs zs = true := by
  unfold underN
  rw [decide_eq_true (by omega), Bool.true_and, show xs.length - zs.length = d by omega]
  refine sameN_of_get (by simp; omega) (fun j h1 h2 => ?_)
  rw [List.getElem_drop]
  exact hs j _ h2
theorem underN_not_get {xs zs : Nm} {d : Nat} (h : xs.length = d + zs.length) (j : Nat) (h1 : d + j < xs.length) (h2 : j < zs.length) (hs : sameM xs[d + j] zs[j] = false) : underN xs zs = false := by
  unfold underN
  rw [decide_eq_true (by omega), Bool.true_and, show xs.length - zs.length = d by omega]
  refine sameN_not_get j (by simp; omega) h2 ?_
  rw [List.getElem_drop]; exact hs
theorem underN_short {xs zs : Nm} (h : xs.length < zs.length) : underN xs zs = false := by
  unfold underN; rw [decide_eq_false (by omega), Bool.false_and]

section
attribute [local go_sem] Oper.semAt_some
end
end Go.Proofs.Ytfcdajldpnomfaa

/-
  Slices of strings copied: append of a whole slice; slices.Clone at names; name.Parent, name.Wild.
-/
namespace Go.Proofs.Ytfcdajldpnomfaa
set_option maxRecDepth 20000
open Go.RowKit Go.Shelf

/-- A slice's length is at most its capacity; nil has none. -/
def SlOK (v : Value) : Prop := ∃ a n c, v = .slice a n c ∧ n ≤ c ∧ (a = none → c = 0)
theorem SlOK.nil : SlOK (.slice none 0 0) := ⟨_, _, _, rfl, Nat.le_refl _, fun _ => rfl⟩
theorem OwnG.slOK {α : Type} {T : TypeId} {enc : α → Value} {W : World} {base : Nat} {v : Value} {xs : List α} (h : OwnG T enc W base v xs) : SlOK v := by
  rcases h.2 with ⟨e, _⟩ | ⟨g', cap, cur, e, hb, hg, hc, hm, _⟩
  · subst e; exact .nil
  · exact ⟨_, _, _, e, hc, fun q => by cases q⟩
theorem elemNm : ElemT 9 38 16 := ⟨Try.underlying38, _, _, rfl, rfl, rfl, rfl, rfl⟩
theorem strsAt_cells {W : World} {a : Option Addr} {c : Nat} {xs : Nm} (h : StrsAt W (.slice a xs.length c) xs) {ad : Addr} (ha : a = some ad) :
    ∀ j u, (xs.map strV)[j]? = some u → W.cell? (ad.add j) = some u := by
  obtain ⟨a', c', e, hx⟩ := h
  cases e
  intro j u hj
  obtain ⟨hlt, e2⟩ := List.getElem?_eq_some_iff.1 hj
  rw [List.length_map] at hlt
  rw [List.getElem_map] at e2
  rcases hx with e | ⟨g, off, rfl, _, hc⟩
  · subst e; simp at hlt
  · cases ha
    rw [← e2, Addr.add_lit]; exact hc j hlt

/-- append of a whole slice of strings to one of the call's own. -/
theorem wpl_append_s {S : TypeId} {ops : Array Oper} {rest : List Oper} {o : Oper} {a : Act} {Q : Exit → Act → World → Prop} (W : World) (hgd : o.guard = none) (s x : Operand) (hE : ElemT 9 S 16)
    (ho : o.op = .call { callee := .builtin .append, args := #[s, x], argTypes := #[S, S] })
    (base : Nat) (v : Value) (xs : Nm) (hs : a.eval s = v) (hown : OwnG 9 strV W base v xs)
    (src : Value) (ys : Nm) (hx : a.eval x = src) (hsrc : StrsAt W src ys) (hok : SlOK src)
    (hbase : base ≤ W.heap.size) (hk : xs.length + ys.length ≤ maxLen) (hk2 : (xs.length + ys.length) * 16 ≤ 140737488355328)
    (h : ∀ v' w', OwnG 9 strV w' base v' (xs ++ ys) → W.grownBy w' v.ownBlock → wpList Try.prog ops Q rest (a.put o.dst v') w') :
    wpList Try.prog ops Q (o :: rest) a W := by
  obtain ⟨ht, i, z, hi, hz, hz1, hz2, hzc⟩ := hE
  obtain ⟨a0, c0, rfl, _⟩ := id hsrc
  cases a0 with
  | none =>
    obtain ⟨a1, n1, c1, e1, _, e2⟩ := hok
    cases e1
    have e3 := e2 rfl
    subst e3
    obtain ⟨a2, c2, e4, h4⟩ := hsrc
    cases e4
    rcases h4 with e5 | ⟨_, _, e5, _⟩
    · subst e5
      refine wpList_append_own_none hgd s x S ho base _ i 1 ht hi v _ _ hs hown hx ?_
      exact h v W (by rw [List.append_nil]; exact hown) ⟨rfl, rfl, rfl, Nat.le_refl _, fun _ _ _ => rfl⟩
    · cases e5
  | some ad =>
    refine wpList_append_own _ hgd s x S ho base _ i z 1 16 ht hi hz hz1 hz2 hzc (by decide) v xs.length (xs.map strV) hs hown ad ys.length c0 (ys.map strV) hx (by simp) (strsAt_cells hsrc rfl) (by intro u hu; obtain ⟨y, _, rfl⟩ := List.mem_map.1 hu; rfl) hk hk2 hbase ?_
    intro v' w' h1 h2 _
    refine h v' w' ?_ h2
    unfold OwnG
    rw [List.length_append, List.map_append]
    exact h1

set_option maxHeartbeats 2000000 in
theorem clone_Name (v : Value) (xs : Nm) (w : World) (hA : StrsAt w v xs) (hO : SlOK v) (hk : xs.length ≤ 8796093022000) :
    Calls Try.prog 31 #[v] w fun e w' => ∃ v', e = .returned v' ∧ OwnG 9 strV w' w.heap.size v' xs ∧ Below w.heap.size w w' := by
  obtain ⟨a, c, rfl, hx⟩ := id hA
  cases a with
  | none =>
    have hnil : xs = [] := by
      rcases hx with e | ⟨_, _, e, _⟩
      · exact e
      · cases e
    subst hnil
    have q := fun w => Lib.run_eql_slice_nil (P := Try.prog) w 38 _ none 0 c 0 0 Try.underlying38
    go_enter Try.func31, Try.ntmps31
    go_wp2
    go_ret
    exact ⟨_, rfl, OwnG.nil _ _, Below.refl _ _⟩
  | some ad =>
    have hlit : OwnG 9 strV (w.alloc (.cells #[] 9)) w.heap.size (.slice (some ⟨w.heap.size, 0, none⟩) 0 0) [] := OwnG.lit (enc := strV) w w.heap.size (Nat.le_refl _) [] (by simp)
    have q := fun w => Lib.run_eql_slice_nil (P := Try.prog) w 38 _ (some ad) xs.length c 0 0 Try.underlying38
    go_enter Try.func31, Try.ntmps31
    go_wp2_with (at_builtin; refine wpl_append_s (w.alloc (.cells #[] 9)) rfl (.tmp 5) (.tmp 6) elemNm rfl w.heap.size _ [] rfl hlit _ xs rfl (hA.below ((Below.refl _ w).alloc (Nat.le_refl _) _)) hO (by simp) (by unfold maxLen; simp; omega) (by simp; omega) ?_; intro v' w1 hown' hg')
    go_ret
    exact ⟨v', rfl, hown', ((Below.refl _ w).alloc (Nat.le_refl _) _).grown hg' (by simp) hlit.base_le⟩

/-- Of the address of what is left: at the capacity's end the model keeps the old one. -/
theorem strs_drop {W : World} {g off c : Nat} {xs : Nm} (h : StrsAt W (.slice (some ⟨g, off, none⟩) xs.length c) xs) (hc : xs.length ≤ c) (k : Nat) (hk : k ≤ xs.length) (c' : Nat) :
    StrsAt W (.slice (if c = k then some ⟨g, off, none⟩ else some ⟨g, off + k, none⟩) (xs.length - k) c') (xs.drop k) := by
  obtain ⟨a', c', e, hx⟩ := h
  cases e
  refine ⟨_, _, by rw [List.length_drop], ?_⟩
  rcases hx with e | ⟨g, off, e, hg, hc⟩
  · subst e; simp
  · cases e
    by_cases hck : c = k
    · exact .inl (List.drop_eq_nil_of_le (by omega))
    · rw [if_neg hck]
      exact .inr ⟨_, _, rfl, hg, fun j hj => by rw [List.getElem_drop, Nat.add_assoc]; exact hc (k + j) (by simp at hj; omega)⟩
theorem drop_ok {g off c k n : Nat} (h : n ≤ c) : SlOK (.slice (if c = k then some ⟨g, off, none⟩ else some ⟨g, off + k, none⟩) (n - k) (c - k)) :=
  ⟨_, _, _, rfl, by omega, fun e => by split at e <;> cases e⟩
theorem strs_take {W : World} {a : Option Addr} {c : Nat} {xs : Nm} (h : StrsAt W (.slice a xs.length c) xs) (k : Nat) (hk : k ≤ xs.length) (c' : Nat) :
    StrsAt W (.slice a k c') (xs.take k) := by
  obtain ⟨a', c', e, hx⟩ := h
  cases e
  refine ⟨_, _, by rw [List.length_take, Nat.min_eq_left hk], ?_⟩
  rcases hx with e | ⟨g, off, rfl, hg, hc⟩
  · subst e; simp
  · exact .inr ⟨_, _, rfl, hg, fun j hj => by rw [List.getElem_take]; exact hc j (by simp at hj; omega)⟩

end Go.Proofs.Ytfcdajldpnomfaa

/-
  Contracts of name.Child and name.Swap.
-/
namespace Go.Proofs.Ytfcdajldpnomfaa
set_option maxRecDepth 20000
open Go.RowKit Go.Shelf

theorem wpl_make_g {α : Type} {T S : TypeId} {enc : α → Value} {ops : Array Oper} {rest : List Oper} {o : Oper} {a : Act} {Q : Exit → Act → World → Prop} (W : World) (hgd : o.guard = none) (l c : Operand) {bytes : Nat} (hE : ElemT T S bytes)
    (ho : o.op = Op.makeSlice S l c) (base : Nat) (kl kc : IntKind) (C : Int) (n : Nat) (hl : a.eval l = .int kl 0) (hc : a.eval c = .int kc C) (hC : C = (n : Int)) (b2 : bytes * n ≤ 281474976710656) (b3 : n ≤ maxLen) (b4 : base ≤ W.heap.size)
    (h : ∀ w', OwnG T enc w' base (.slice (some ⟨W.heap.size, 0, none⟩) 0 n) [] → W.grownBy w' none → wpList Try.prog ops Q rest (a.put o.dst (.slice (some ⟨W.heap.size, 0, none⟩) 0 n)) w') :
    wpList Try.prog ops Q (o :: rest) a W := by
  obtain ⟨ht, i, z, hi, hz, hz1, hz2, _⟩ := hE
  exact wpList_make_own W hgd l c S ho base T i z 1 ht hi hz hz1 kl kc C n hl hc hC (by rw [hz2]; exact b2) b3 b4 (fun w' h1 h2 => h w' h1 h2)

def CopyPost (xs : Nm) (w : World) (e : Ending) (w' : World) : Prop := ∃ v', e = .returned v' ∧ OwnG 9 strV w' w.heap.size v' xs ∧ Below w.heap.size w w'

theorem OwnG.below {α : Type} {T : TypeId} {enc : α → Value} {W W' : World} {base : Nat} {v : Value} {xs : List α} (h : OwnG T enc W base v xs) (hb : Below W.heap.size W W') : OwnG T enc W' base v xs :=
  h.kept (row := none) ⟨hb.os, hb.tape, hb.output, hb.size, fun k hk _ => hb.block k hk⟩ (by cases v.ownBlock <;> simp)
def SwapPost (n f t : Nm) (w : World) (e : Ending) (w' : World) : Prop := ∃ v', e = .returned (.tuple #[v', .int .i64 (swapN n f t).2]) ∧ OwnG 9 strV w' w.heap.size v' (swapN n f t).1 ∧ Below w.heap.size w w'
theorem swap_fin {n f t : Nm} {w w' : World} {e : Ending} {v : Value} (l : Nm) (er : Int) (h : swapN n f t = (l, er)) (he : e = .returned (.tuple #[v, .int .i64 er])) (ho : OwnG 9 strV w' w.heap.size v l) (hw : Below w.heap.size w w') : SwapPost n f t w e w' := by
  unfold SwapPost; rw [h]; exact ⟨v, he, ho, hw⟩

end Go.Proofs.Ytfcdajldpnomfaa

/-
  Contract of name.Fold.
-/
namespace Go.Proofs.Ytfcdajldpnomfaa
set_option maxRecDepth 20000
open Go.RowKit Go.Shelf

theorem foldN_snoc (xs : Nm) (y : List UInt8) : foldN (xs ++ [y]) = foldN xs ++ [foldL y] := by simp [foldN]
theorem wplIn_make_g {F : Fence} {d : Nat} {α : Type} {T S : TypeId} {enc : α → Value} {ops : Array Oper} {rest : List Oper} {o : Oper} {a : Act} {Q : Exit → Act → World → Prop} (W : World) (hgd : o.guard = none) (l c : Operand) {bytes : Nat} (hE : ElemT T S bytes)
    (ho : o.op = Op.makeSlice S l c) (base : Nat) (kl kc : IntKind) (C : Int) (n : Nat) (hl : a.eval l = .int kl 0) (hc : a.eval c = .int kc C) (hC : C = (n : Int)) (b2 : bytes * n ≤ 281474976710656) (b3 : n ≤ maxLen) (b4 : base ≤ W.heap.size)
    (h : ∀ w', OwnG T enc w' base (.slice (some ⟨W.heap.size, 0, none⟩) 0 n) [] → W.grownBy w' none → wpListIn F d Try.prog ops Q rest (a.put o.dst (.slice (some ⟨W.heap.size, 0, none⟩) 0 n)) w') :
    wpListIn F d Try.prog ops Q (o :: rest) a W := by
  obtain ⟨ht, i, z, hi, hz, hz1, hz2, _⟩ := hE
  exact wpListIn_make_own W hgd l c S ho base T i z 1 ht hi hz hz1 kl kc C n hl hc hC (by rw [hz2]; exact b2) b3 b4 (fun w' h1 h2 => h w' h1 h2)

section
attribute [local go_sem] Oper.semAt_some
end
end Go.Proofs.Ytfcdajldpnomfaa

/-
  The document's names (package toponymref6): Len, CheckName, Fold.
-/
namespace Go.Proofs.Ytfcdajldpnomfaa
set_option maxRecDepth 20000
open Go.RowKit Go.Shelf

theorem lenN_take_le {xs : Nm} (h : NmOK xs) (k : Nat) (hk : k ≤ xs.length) : lenN (xs.take k) ≤ 1 + k * 1048577 := by
  induction k with
  | zero => simp [lenN]
  | succ k ih =>
    have h1 := h.get k (by omega)
    rw [List.take_succ_eq_append_getElem (by omega), lenN_snoc]
    have := ih (by omega)
    omega

end Go.Proofs.Ytfcdajldpnomfaa

/-
  The document's names (package toponymref6): Parent, Child, Wild, sign.
-/
namespace Go.Proofs.Ytfcdajldpnomfaa
set_option maxRecDepth 20000
open Go.RowKit Go.Shelf

/-- A slice of strings, for reading. -/
def NmAt (W : World) (v : Value) (xs : Nm) : Prop := StrsAt W v xs ∧ SlOK v
theorem NmAt.below {W W' : World} {v : Value} {xs : Nm} (h : NmAt W v xs) (hb : Below W.heap.size W W') : NmAt W' v xs := ⟨h.1.below hb, h.2⟩
theorem OwnG.nmAt {W : World} {base : Nat} {v : Value} {xs : Nm} (h : OwnG 9 strV W base v xs) : NmAt W v xs := ⟨StrsAt.of_own h, h.slOK⟩

set_option maxHeartbeats 2000000 in
theorem ref_sign (n : Int) (w : World) : Calls Try.prog 60 #[.int .i64 n] w fun e w' => e = .returned (.int .i64 (cmpI n 0)) ∧ w' = w := by
  unfold cmpI
  by_cases h1 : n < 0
  · rw [if_pos h1]
    go_enter Try.func60, Try.ntmps60
    go_wp2
    go_ret
    exact ⟨rfl, rfl⟩
  · rw [if_neg h1]
    by_cases h2 : 0 < n
    · rw [if_pos h2]
      go_enter Try.func60, Try.ntmps60
      go_wp2
      go_ret
      exact ⟨rfl, rfl⟩
    · rw [if_neg h2]
      go_enter Try.func60, Try.ntmps60
      go_wp2
      go_ret
      exact ⟨rfl, rfl⟩

end Go.Proofs.Ytfcdajldpnomfaa

/-
  Contract of name.Text.
-/
namespace Go.Proofs.Ytfcdajldpnomfaa
set_option maxRecDepth 20000
open Go.RowKit Go.Shelf

theorem wplIn_append_str {F : Fence} {d : Nat} {ops : Array Oper} {rest : List Oper} {o : Oper} {a : Act} {Q : Exit → Act → World → Prop} (W : World) (hgd : o.guard = none) (sl x : Operand)
    (ho : o.op = .call { callee := .builtin .append, args := #[sl, x], argTypes := #[29, 9] })
    (base : Nat) (v : Value) (xs : List UInt8) (hs : a.eval sl = v) (hown : OwnG 5 bv W base v xs) (s : ByteArray) (hx : a.eval x = .string s)
    (hbase : base ≤ W.heap.size) (hk : xs.length + s.size ≤ 140737488355328)
    (h : ∀ v' w', OwnG 5 bv w' base v' (xs ++ s.data.toList) → W.grownBy w' v.ownBlock → wpListIn F d Try.prog ops Q rest (a.put o.dst v') w') : wpListIn F d Try.prog ops Q (o :: rest) a W := by
  obtain ⟨i0, hi, hz0, hz1, hz2⟩ := info_parts info_u8
  refine wpListIn_plain hgd fun K hK => ?_
  obtain ⟨v', w', hr, h2, h3, h4⟩ := Lib.run_append_own_string (P := Try.prog) (w := W) base 29 9 o.type 5 i0 Try.underlying29 Try.underlying9 hi hz0 hz1 hz2 v xs.length (xs.map bv) hown s (by unfold maxLen; omega) hk hbase
  unfold Oper.wpIn
  refine ⟨?_, ?_⟩
  · simp [Oper.about, ho, resolve, Target.leads, Sem.run_pure]
  · rw [Oper.semAt_plain F _ _ (by rw [ho]; intro c hc'; cases hc')]
    simp [execOp, ho, resolve, invoke, builtin, hs, hx, hr, Result.andThen]
    refine hK _ _ (h v' w' ?_ h3)
    unfold OwnG
    rw [List.length_append, List.map_append, size_data]
    exact h2

def textF (n : Nm) : List UInt8 := n.flatMap fun x => textL x ++ [46]
theorem textF_snoc (n : Nm) (x : List UInt8) : textF (n ++ [x]) = textF n ++ textL x ++ [46] := by simp [textF]
theorem textN_eq {n : Nm} (h : n ≠ []) : textN n = textF n := by unfold textN; rw [if_neg h]; rfl
theorem textF_le {xs : Nm} (h : NmOK xs) (pre : List (Fin xs.length)) : (textF (atN xs pre)).length ≤ pre.length * 4194305 := by
  induction pre with
  | nil => simp [textF, atN]
  | cons j r ih =>
    have h1 := h.get j.val j.isLt
    have h2 := textL_le xs[j]
    simp only [textF, atN, List.map_cons, List.flatMap_cons, List.length_append, List.length_cons, List.length_nil, Fin.getElem_fin] at ih h2 ⊢
    omega

section
attribute [local go_sem] Oper.semAt_some
end
end Go.Proofs.Ytfcdajldpnomfaa

/-
  The document's names: NameText; the statements' own helpers of layer 2: Few, Is.
-/
namespace Go.Proofs.Ytfcdajldpnomfaa
set_option maxRecDepth 20000
open Go.RowKit Go.Shelf

def fewN (xs : Nm) : Bool := decide (xs.length ≤ 140 ∧ ∀ x ∈ xs, x.length ≤ 100)
theorem fewN_ok {xs : Nm} (h : fewN xs = true) : NmOK xs := by
  have := of_decide_eq_true h
  exact ⟨by omega, fun x hx => by have := this.2 x hx; omega⟩

set_option maxHeartbeats 4000000 in
theorem law2_Few (v : Value) (xs : Nm) (w : World) (hA : StrsAt w v xs) (hm : xs.length ≤ maxLen) (hk : ∀ x ∈ xs, x.length ≤ maxLen) :
    Calls Try.prog 17 #[v] w fun e w' => e = .returned (.bool (fewN xs)) ∧ w' = w := by
  obtain ⟨a, c, rfl, _⟩ := id hA
  unfold maxLen at hm hk
  obtain ⟨n, hn⟩ : ∃ n, xs.length = n := ⟨_, rfl⟩
  have hcell := fun j hj => hA.cell (Below.refl _ w) j hj
  rw [hn] at hm ⊢
  have HN := Lib.hid hn
  clear hA hn
  by_cases hbig : 140 < (n : Int)
  · have H0 : Hid (fewN xs = false) := Lib.hid (decide_eq_false (fun h => by have := HN.out; omega))
    go_enter Try.func17, Try.ntmps17
    go_wp2
    go_ret
    exact ⟨by rw [H0.out]; rfl, rfl⟩
  go_enter Try.func17, Try.ntmps17
  go_wp2
  go_loopw [3] (fun i wr => ∃ k : Nat, i = .int .i64 k ∧ k ≤ n ∧ Hid (∀ x ∈ xs.take k, x.length ≤ 100) ∧ wr = w) (fun i _ => n - (intOf i).toNat)
  case atStart => exact ⟨0, rfl, Nat.zero_le _, Lib.hid (by simp), rfl⟩
  case round =>
    obtain ⟨k, rfl, hkn, HC, rfl⟩ := hrel
    by_cases hlt : k < n
    · have hkp : k < xs.length := by rw [HN.out]; exact hlt
      obtain ⟨g, off, rfl, hg, hc⟩ := hcell k hkp
      obtain ⟨s, hs0, hsz, hsv⟩ := str_of xs[k]
      rw [hsv] at hc
      have hxk := hk _ (List.getElem_mem hkp)
      rw [← hsz] at hxk
      by_cases hb : 100 < (s.size : Int)
      · have H0 : Hid (fewN xs = false) := Lib.hid (decide_eq_false (fun h => by have := h.2 _ (List.getElem_mem hkp); omega))
        clear hs0 hsz hsv hk
        go_wp2
        go_ret
        exact ⟨by rw [H0.out]; rfl, rfl⟩
      · have HC2 : Hid (∀ x ∈ xs.take (k + 1), x.length ≤ 100) := Lib.hid (by
          intro x hx; rw [List.take_succ_eq_append_getElem hkp] at hx
          rcases List.mem_append.1 hx with h | h
          · exact HC.out x h
          · obtain rfl := List.mem_singleton.1 h; omega)
        clear hs0 hsz hsv hk
        go_wp2
        go_roundw
        case rel => exact ⟨k + 1, by go_num, by omega, HC2, trivial⟩
        case measure => simp [intOf]; omega
    · obtain rfl : k = n := by omega
      have H0 : Hid (fewN xs = true) := Lib.hid (decide_eq_true ⟨by have := HN.out; omega, by have h := HC.out; rw [List.take_of_length_le (by rw [HN.out]; exact Nat.le_refl _)] at h; exact h⟩)
      clear hk
      go_wp2
      go_ret
      exact ⟨by rw [H0.out]; rfl, rfl⟩

end Go.Proofs.Ytfcdajldpnomfaa

