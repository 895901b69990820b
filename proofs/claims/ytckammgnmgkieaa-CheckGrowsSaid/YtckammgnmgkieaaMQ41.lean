/-
  Slices of strings copied: append of a whole slice; slices.Clone at names; name.Parent, name.Wild.
-/
import Derived.Test.YtckammgnmgkieaaMQ14
import Derived.Test.YtckammgnmgkieaaMQ32
import Derived.Laws.AppendOwnNone
import Derived.Lib.Walk
import Derived.Lib.SliceRun
import Derived.Test.YtckammgnmgkieaaMQ16
import Derived.RegionTactic
import Derived.ChangeAlike
import Derived.Lib.AppendStr
import Derived.BigQuiet
namespace Go.Proofs.Ytckammgnmgkieaa
set_option maxRecDepth 20000
open Go.RowKit Go.Shelf

/-- A slice's length is at most its capacity; nil has none. -/
def SlOK (v : Value) : Prop := ∃ a n c, v = .slice a n c ∧ n ≤ c ∧ (a = none → c = 0)
theorem SlOK.nil : SlOK (.slice none 0 0) := ⟨_, _, _, rfl, Nat.le_refl _, fun _ => rfl⟩
theorem OwnG.slOK {α : Type} {T : TypeId} {enc : α → Value} {W : World} {base : Nat} {v : Value} {xs : List α} (h : OwnG T enc W base v xs) : SlOK v := by
  rcases h.2 with ⟨e, _⟩ | ⟨g', cap, cur, e, hb, hg, hc, hm, _⟩
  · subst e; exact .nil
  · exact ⟨_, _, _, e, hc, fun q => by cases q⟩
theorem elemNm : ElemT 9 23 16 := ⟨Try.underlying23, _, _, rfl, rfl, rfl, rfl, rfl⟩
theorem strsAt_cells {W : World} {a : Option Addr} {c : Nat} {xs : Nm} (h : StrsAt W (.slice a xs.length c) xs) {ad : Addr} (ha : a = some ad) :
    ∀ j u, (xs.map strV)[j]? = some u → W.cell? (ad.add j) = some u := by
  obtain ⟨a', c', e, hx⟩ := h
  cases e
  intro j u hj
  obtain ⟨hlt, e2⟩ := List.getElem?_eq_some_iff.1 hj
  rw [List.length_map] at hlt
  rw [List.getElem_map] at e2
  rcases hx with e | ⟨g, off, rfl, _, hc⟩
  · subst e; simp at hlt
  · cases ha
    rw [← e2, Addr.add_lit]; exact hc j hlt

/-- append of a whole slice of strings to one of the call's own. -/
theorem wpl_append_s {S : TypeId} {ops : Array Oper} {rest : List Oper} {o : Oper} {a : Act} {Q : Exit → Act → World → Prop} (W : World) (hgd : o.guard = none) (s x : Operand) (hE : ElemT 9 S 16)
    (ho : o.op = .call { callee := .builtin .append, args := #[s, x], argTypes := #[S, S] })
    (base : Nat) (v : Value) (xs : Nm) (hs : a.eval s = v) (hown : OwnG 9 strV W base v xs)
    (src : Value) (ys : Nm) (hx : a.eval x = src) (hsrc : StrsAt W src ys) (hok : SlOK src)
    (hbase : base ≤ W.heap.size) (hk : xs.length + ys.length ≤ maxLen) (hk2 : (xs.length + ys.length) * 16 ≤ 140737488355328)
    (h : ∀ v' w', OwnG 9 strV w' base v' (xs ++ ys) → W.grownBy w' v.ownBlock → wpList Try.prog ops Q rest (a.put o.dst v') w') :
    wpList Try.prog ops Q (o :: rest) a W := by
  obtain ⟨ht, i, z, hi, hz, hz1, hz2, hzc⟩ := hE
  obtain ⟨a0, c0, rfl, _⟩ := id hsrc
  cases a0 with
  | none =>
    obtain ⟨a1, n1, c1, e1, _, e2⟩ := hok
    cases e1
    have e3 := e2 rfl
    subst e3
    obtain ⟨a2, c2, e4, h4⟩ := hsrc
    cases e4
    rcases h4 with e5 | ⟨_, _, e5, _⟩
    · subst e5
      refine wpList_append_own_none hgd s x S ho base _ i 1 ht hi v _ _ hs hown hx ?_
      exact h v W (by rw [List.append_nil]; exact hown) ⟨rfl, rfl, rfl, Nat.le_refl _, fun _ _ _ => rfl⟩
    · cases e5
  | some ad =>
    refine wpList_append_own _ hgd s x S ho base _ i z 1 16 ht hi hz hz1 hz2 hzc (by decide) v xs.length (xs.map strV) hs hown ad ys.length c0 (ys.map strV) hx (by simp) (strsAt_cells hsrc rfl) (by intro u hu; obtain ⟨y, _, rfl⟩ := List.mem_map.1 hu; rfl) hk hk2 hbase ?_
    intro v' w' h1 h2 _
    refine h v' w' ?_ h2
    unfold OwnG
    rw [List.length_append, List.map_append]
    exact h1

set_option maxHeartbeats 2000000 in
theorem clone_Name (v : Value) (xs : Nm) (w : World) (hA : StrsAt w v xs) (hO : SlOK v) (hk : xs.length ≤ 8796093022000) :
    Calls Try.prog 21 #[v] w fun e w' => ∃ v', e = .returned v' ∧ OwnG 9 strV w' w.heap.size v' xs ∧ Below w.heap.size w w' := by
  obtain ⟨a, c, rfl, hx⟩ := id hA
  cases a with
  | none =>
    have hnil : xs = [] := by
      rcases hx with e | ⟨_, _, e, _⟩
      · exact e
      · cases e
    subst hnil
    have q := fun w => Lib.run_eql_slice_nil (P := Try.prog) w 23 _ none 0 c 0 0 Try.underlying23
    go_enter Try.func21, Try.ntmps21
    go_wp2
    go_ret
    exact ⟨_, rfl, OwnG.nil _ _, Below.refl _ _⟩
  | some ad =>
    have hlit : OwnG 9 strV (w.alloc (.cells #[] 9)) w.heap.size (.slice (some ⟨w.heap.size, 0, none⟩) 0 0) [] := OwnG.lit (enc := strV) w w.heap.size (Nat.le_refl _) [] (by simp)
    have q := fun w => Lib.run_eql_slice_nil (P := Try.prog) w 23 _ (some ad) xs.length c 0 0 Try.underlying23
    go_enter Try.func21, Try.ntmps21
    go_wp2_with (at_builtin; refine wpl_append_s (w.alloc (.cells #[] 9)) rfl (.tmp 5) (.tmp 6) elemNm rfl w.heap.size _ [] rfl hlit _ xs rfl (hA.below ((Below.refl _ w).alloc (Nat.le_refl _) _)) hO (by simp) (by unfold maxLen; simp; omega) (by simp; omega) ?_; intro v' w1 hown' hg')
    go_ret
    exact ⟨v', rfl, hown', ((Below.refl _ w).alloc (Nat.le_refl _) _).grown hg' (by simp) hlit.base_le⟩

/-- Of the address of what is left: at the capacity's end the model keeps the old one. -/
theorem strs_drop {W : World} {g off c : Nat} {xs : Nm} (h : StrsAt W (.slice (some ⟨g, off, none⟩) xs.length c) xs) (hc : xs.length ≤ c) (k : Nat) (hk : k ≤ xs.length) (c' : Nat) :
    StrsAt W (.slice (if c = k then some ⟨g, off, none⟩ else some ⟨g, off + k, none⟩) (xs.length - k) c') (xs.drop k) := by
  obtain ⟨a', c', e, hx⟩ := h
  cases e
  refine ⟨_, _, by rw [List.length_drop], ?_⟩
  rcases hx with e | ⟨g, off, e, hg, hc⟩
  · subst e; simp
  · cases e
    by_cases hck : c = k
    · exact .inl (List.drop_eq_nil_of_le (by omega))
    · rw [if_neg hck]
      exact .inr ⟨_, _, rfl, hg, fun j hj => by rw [List.getElem_drop, Nat.add_assoc]; exact hc (k + j) (by simp at hj; omega)⟩
theorem drop_ok {g off c k n : Nat} (h : n ≤ c) : SlOK (.slice (if c = k then some ⟨g, off, none⟩ else some ⟨g, off + k, none⟩) (n - k) (c - k)) :=
  ⟨_, _, _, rfl, by omega, fun e => by split at e <;> cases e⟩
theorem strs_take {W : World} {a : Option Addr} {c : Nat} {xs : Nm} (h : StrsAt W (.slice a xs.length c) xs) (k : Nat) (hk : k ≤ xs.length) (c' : Nat) :
    StrsAt W (.slice a k c') (xs.take k) := by
  obtain ⟨a', c', e, hx⟩ := h
  cases e
  refine ⟨_, _, by rw [List.length_take, Nat.min_eq_left hk], ?_⟩
  rcases hx with e | ⟨g, off, rfl, hg, hc⟩
  · subst e; simp
  · exact .inr ⟨_, _, rfl, hg, fun j hj => by rw [List.getElem_take]; exact hc j (by simp at hj; omega)⟩

set_option maxHeartbeats 2000000 in
theorem name_Wild (v : Value) (xs : Nm) (w : World) (hA : StrsAt w v xs) (hk : NmOK xs) :
    Calls Try.prog 41 #[v] w fun e w' => e = .returned (.bool (wildN xs)) ∧ w' = w := by
  obtain ⟨a, c, rfl, hx⟩ := id hA
  have hl := hk.1
  by_cases h0 : xs = []
  · subst h0
    go_enter Try.func41, Try.ntmps41
    go_wp2
    go_ret
    exact ⟨rfl, rfl⟩
  · have hn : 0 < xs.length := by cases xs with | nil => exact absurd rfl h0 | cons x r => simp
    obtain ⟨g, off, rfl, hg, hcell⟩ := hA.cell (Below.refl _ w) 0 hn
    obtain ⟨s, hs, hsz, hsv⟩ := str_of xs[0]
    rw [hsv, Nat.add_zero] at hcell
    have hw : wildN xs = (s.toList == [42]) := by
      unfold wildN
      rw [List.head?_eq_getElem?, List.getElem?_eq_getElem hn, toList_data, hs, Bool.eq_iff_iff]
      simp
    have HW := Lib.hid hw
    clear hx hs hsz hsv hw
    have hn' : (0 : Int) < (xs.length : Int) := by omega
    go_enter Try.func41, Try.ntmps41
    go_wp2
    go_ret
    exact ⟨by rw [HW.out]; rfl, rfl⟩
end Go.Proofs.Ytckammgnmgkieaa

/-
  Contracts of name.Child and name.Swap.
-/
namespace Go.Proofs.Ytckammgnmgkieaa
set_option maxRecDepth 20000
open Go.RowKit Go.Shelf

theorem wpl_make_g {α : Type} {T S : TypeId} {enc : α → Value} {ops : Array Oper} {rest : List Oper} {o : Oper} {a : Act} {Q : Exit → Act → World → Prop} (W : World) (hgd : o.guard = none) (l c : Operand) {bytes : Nat} (hE : ElemT T S bytes)
    (ho : o.op = Op.makeSlice S l c) (base : Nat) (kl kc : IntKind) (C : Int) (n : Nat) (hl : a.eval l = .int kl 0) (hc : a.eval c = .int kc C) (hC : C = (n : Int)) (b2 : bytes * n ≤ 281474976710656) (b3 : n ≤ maxLen) (b4 : base ≤ W.heap.size)
    (h : ∀ w', OwnG T enc w' base (.slice (some ⟨W.heap.size, 0, none⟩) 0 n) [] → W.grownBy w' none → wpList Try.prog ops Q rest (a.put o.dst (.slice (some ⟨W.heap.size, 0, none⟩) 0 n)) w') :
    wpList Try.prog ops Q (o :: rest) a W := by
  obtain ⟨ht, i, z, hi, hz, hz1, hz2, _⟩ := hE
  exact wpList_make_own W hgd l c S ho base T i z 1 ht hi hz hz1 kl kc C n hl hc hC (by rw [hz2]; exact b2) b3 b4 (fun w' h1 h2 => h w' h1 h2)

def CopyPost (xs : Nm) (w : World) (e : Ending) (w' : World) : Prop := ∃ v', e = .returned v' ∧ OwnG 9 strV w' w.heap.size v' xs ∧ Below w.heap.size w w'

theorem OwnG.below {α : Type} {T : TypeId} {enc : α → Value} {W W' : World} {base : Nat} {v : Value} {xs : List α} (h : OwnG T enc W base v xs) (hb : Below W.heap.size W W') : OwnG T enc W' base v xs :=
  h.kept (row := none) ⟨hb.os, hb.tape, hb.output, hb.size, fun k hk _ => hb.block k hk⟩ (by cases v.ownBlock <;> simp)
def SwapPost (n f t : Nm) (w : World) (e : Ending) (w' : World) : Prop := ∃ v', e = .returned (.tuple #[v', .int .i64 (swapN n f t).2]) ∧ OwnG 9 strV w' w.heap.size v' (swapN n f t).1 ∧ Below w.heap.size w w'
theorem swap_fin {n f t : Nm} {w w' : World} {e : Ending} {v : Value} (l : Nm) (er : Int) (h : swapN n f t = (l, er)) (he : e = .returned (.tuple #[v, .int .i64 er])) (ho : OwnG 9 strV w' w.heap.size v l) (hw : Below w.heap.size w w') : SwapPost n f t w e w' := by
  unfold SwapPost; rw [h]; exact ⟨v, he, ho, hw⟩

end Go.Proofs.Ytckammgnmgkieaa

/-
  Contract of name.Fold.
-/
namespace Go.Proofs.Ytckammgnmgkieaa
set_option maxRecDepth 20000
open Go.RowKit Go.Shelf

theorem foldN_snoc (xs : Nm) (y : List UInt8) : foldN (xs ++ [y]) = foldN xs ++ [foldL y] := by simp [foldN]
theorem wplIn_make_g {F : Fence} {d : Nat} {α : Type} {T S : TypeId} {enc : α → Value} {ops : Array Oper} {rest : List Oper} {o : Oper} {a : Act} {Q : Exit → Act → World → Prop} (W : World) (hgd : o.guard = none) (l c : Operand) {bytes : Nat} (hE : ElemT T S bytes)
    (ho : o.op = Op.makeSlice S l c) (base : Nat) (kl kc : IntKind) (C : Int) (n : Nat) (hl : a.eval l = .int kl 0) (hc : a.eval c = .int kc C) (hC : C = (n : Int)) (b2 : bytes * n ≤ 281474976710656) (b3 : n ≤ maxLen) (b4 : base ≤ W.heap.size)
    (h : ∀ w', OwnG T enc w' base (.slice (some ⟨W.heap.size, 0, none⟩) 0 n) [] → W.grownBy w' none → wpListIn F d Try.prog ops Q rest (a.put o.dst (.slice (some ⟨W.heap.size, 0, none⟩) 0 n)) w') :
    wpListIn F d Try.prog ops Q (o :: rest) a W := by
  obtain ⟨ht, i, z, hi, hz, hz1, hz2, _⟩ := hE
  exact wpListIn_make_own W hgd l c S ho base T i z 1 ht hi hz hz1 kl kc C n hl hc hC (by rw [hz2]; exact b2) b3 b4 (fun w' h1 h2 => h w' h1 h2)

section
attribute [local go_sem] Oper.semAt_some
end
end Go.Proofs.Ytckammgnmgkieaa

/-
  The document's parting of a text (package toponymref6): Split: the parts that label.Split tells.
-/
namespace Go.Proofs.Ytckammgnmgkieaa
set_option maxRecDepth 20000
open Go.RowKit Go.Shelf

def RSplitPost (s : ByteArray) (w : World) (e : Ending) (w' : World) : Prop :=
  ∃ v, e = .returned (.tuple #[v, .int .i64 (splitM s.data.toList).2]) ∧ OwnG 9 strV w' w.heap.size v (splitM s.data.toList).1 ∧ Below w.heap.size w w'
theorem rsplit_fin {s : ByteArray} {w w' : World} {e : Ending} {v : Value} (l : List (List UInt8)) (er : Int) (h : splitM s.data.toList = (l, er)) (he : e = .returned (.tuple #[v, .int .i64 er])) (ho : OwnG 9 strV w' w.heap.size v l) (hw : Below w.heap.size w w') : RSplitPost s w e w' := by
  unfold RSplitPost; rw [h]; exact ⟨v, he, ho, hw⟩

theorem set_last (done : List (List UInt8)) (cur y : List UInt8) : (done ++ [cur]).set done.length y = done ++ [y] := by
  rw [List.set_append_right _ _ (Nat.le_refl _)]; simp
theorem get_last (done : List (List UInt8)) (cur : List UInt8) (h : done.length < (done ++ [cur]).length) : (done ++ [cur])[done.length] = cur := by simp
theorem extract_two (s : ByteArray) (k : Nat) (h : k + 1 < s.size) : s.extract k (k + 2) = ⟨#[s[k], s[k + 1]]⟩ := by
  apply ba_ext
  have h1 : (s.extract k (k + 2)).data.toList = (s.data.toList.take (k + 2)).drop k := by simp [ByteArray.data_extract, List.drop_take]
  rw [h1, take_snoc_get s (k + 1) h, take_snoc_get s k (by omega), List.append_assoc, List.drop_left' (by simp; omega)]; rfl

end Go.Proofs.Ytckammgnmgkieaa

/-
  The document's names (package toponymref6): Len, CheckName, Fold.
-/
namespace Go.Proofs.Ytckammgnmgkieaa
set_option maxRecDepth 20000
open Go.RowKit Go.Shelf

theorem lenN_take_le {xs : Nm} (h : NmOK xs) (k : Nat) (hk : k ≤ xs.length) : lenN (xs.take k) ≤ 1 + k * 1048577 := by
  induction k with
  | zero => simp [lenN]
  | succ k ih =>
    have h1 := h.get k (by omega)
    rw [List.take_succ_eq_append_getElem (by omega), lenN_snoc]
    have := ih (by omega)
    omega

set_option maxHeartbeats 4000000 in
theorem ref_Len (v : Value) (xs : Nm) (w : World) (hA : StrsAt w v xs) (hk : NmOK xs) :
    Calls Try.prog 55 #[v] w fun e w' => e = .returned (.int .i64 (lenN xs : Int)) ∧ w' = w := by
  obtain ⟨a, c, rfl, _⟩ := id hA
  have hl := hk.1
  obtain ⟨n, hn⟩ : ∃ n, xs.length = n := ⟨_, rfl⟩
  have hcell := fun j hj => hA.cell (Below.refl _ w) j hj
  rw [hn] at hl ⊢
  have HN := Lib.hid hn
  clear hA hn
  go_enter Try.func55, Try.ntmps55
  go_wp2
  go_loopw [3, 4] (fun u i wr => ∃ k : Nat, i = .int .i64 k ∧ k ≤ n ∧ u = .int .i64 (lenN (xs.take k) : Int) ∧ wr = w) (fun _ i _ => n - (intOf i).toNat)
  case atStart => exact ⟨0, rfl, Nat.zero_le _, rfl, rfl⟩
  case round =>
    obtain ⟨k, rfl, hkn, rfl, rfl⟩ := hrel
    by_cases hlt : k < n
    · have hkp : k < xs.length := by rw [HN.out]; exact hlt
      obtain ⟨g, off, rfl, hg, hc⟩ := hcell k hkp
      obtain ⟨s, hs0, hsz, hsv⟩ := str_of xs[k]
      rw [hsv] at hc
      have hxk := hk.get k hkp
      have hb := lenN_take_le hk k (by omega)
      have hr : lenN (xs.take (k + 1)) = lenN (xs.take k) + 1 + s.size := by rw [List.take_succ_eq_append_getElem hkp, lenN_snoc, hsz]
      have HR := Lib.hid hr
      rw [← hsz] at hxk
      clear hs0 hsz hsv hr
      generalize lenN (xs.take k) = q at *
      go_wp2
      go_roundw
      case rel => exact ⟨k + 1, by go_num, by omega, by rw [HR.out]; simp, trivial⟩
      case measure => simp [intOf]; omega
    · obtain rfl : k = n := by omega
      have hr : lenN (xs.take k) = lenN xs := by rw [List.take_of_length_le (by rw [HN.out]; exact Nat.le_refl _)]
      rw [hr]
      go_wp2
      go_ret
      exact ⟨rfl, rfl⟩

set_option maxHeartbeats 4000000 in
theorem ref_CheckName (v : Value) (xs : Nm) (w : World) (hA : StrsAt w v xs) (hk : NmOK xs) :
    Calls Try.prog 30 #[v] w fun e w' => e = .returned (.int .i64 (checkN xs)) ∧ w' = w := by
  obtain ⟨a, c, rfl, _⟩ := id hA
  have hL := ref_Len _ xs w hA hk
  have hl := hk.1
  obtain ⟨n, hn⟩ : ∃ n, xs.length = n := ⟨_, rfl⟩
  have hcell := fun j hj => hA.cell (Below.refl _ w) j hj
  rw [hn] at hl hL ⊢
  have HN := Lib.hid hn
  clear hA hn
  go_enter Try.func30, Try.ntmps30
  go_wp2
  go_loopw [3] (fun i wr => ∃ k : Nat, i = .int .i64 k ∧ k ≤ n ∧ Hid (checkL (xs.take k) = 0) ∧ wr = w) (fun i _ => n - (intOf i).toNat)
  case atStart => exact ⟨0, rfl, Nat.zero_le _, Lib.hid rfl, rfl⟩
  case round =>
    obtain ⟨k, rfl, hkn, HC, rfl⟩ := hrel
    by_cases hlt : k < n
    · have hkp : k < xs.length := by rw [HN.out]; exact hlt
      obtain ⟨g, off, rfl, hg, hc⟩ := hcell k hkp
      obtain ⟨s, hs0, hsz, hsv⟩ := str_of xs[k]
      rw [hsv] at hc
      have hxk := hk.get k hkp
      have hCk := fun W => ref_CheckLabel s W (by unfold maxLen; omega)
      rw [hs0] at hCk
      have hr : checkL (xs.take (k + 1)) = checkLabelM xs[k] := by rw [List.take_succ_eq_append_getElem hkp, checkL_snoc, if_pos HC.out]
      clear hs0 hsz hsv hxk
      generalize checkLabelM xs[k] = q at *
      by_cases hq : (q != 0) = true
      · have H0 : Hid (checkN xs = q) := Lib.hid (by rw [← hr]; exact checkN_of_stop (List.take_prefix _ _) (by rw [hr]; simpa using hq))
        clear hr
        go_wp2_with (go_at_call 54; refine (hCk _).mono ?_; rintro e w2 ⟨rfl, rfl⟩)
        go_ret
        exact ⟨by rw [H0.out]; rfl, rfl⟩
      · have hq1 : (q != 0) = false := by simpa using hq
        have HR := Lib.hid hr; have HQ := Lib.hid hq1
        clear hr hq
        go_wp2_with (go_at_call 54; refine (hCk _).mono ?_; rintro e w2 ⟨rfl, rfl⟩)
        go_roundw
        case rel => exact ⟨k + 1, by go_num, by omega, Lib.hid (by rw [HR.out]; simpa using HQ.out), trivial⟩
        case measure => simp [intOf]; omega
    · obtain rfl : k = n := by omega
      have hr : xs.take k = xs := List.take_of_length_le (by rw [HN.out]; exact Nat.le_refl _)
      rw [hr] at HC
      have hd : checkN xs = if 255 < (lenN xs : Int) then 3 else 0 := by
        unfold checkN; rw [if_pos HC.out]
        by_cases h : 255 < lenN xs
        · rw [if_pos h, if_pos (by omega)]
        · rw [if_neg h, if_neg (by omega)]
      have HD := Lib.hid hd
      clear hr hd
      generalize lenN xs = q at *
      go_wp2_with (go_at_call 55; refine hL.mono ?_; rintro e w2 ⟨rfl, rfl⟩)
      · go_ret
        exact ⟨by rw [HD.out, if_pos (by assumption)]; rfl, rfl⟩
      · go_ret
        exact ⟨by rw [HD.out, if_neg (by omega)]; rfl, rfl⟩

end Go.Proofs.Ytckammgnmgkieaa

/-
  The document's names (package toponymref6): Parent, Child, Wild, sign.
-/
namespace Go.Proofs.Ytckammgnmgkieaa
set_option maxRecDepth 20000
open Go.RowKit Go.Shelf

/-- A slice of strings, for reading. -/
def NmAt (W : World) (v : Value) (xs : Nm) : Prop := StrsAt W v xs ∧ SlOK v
theorem NmAt.below {W W' : World} {v : Value} {xs : Nm} (h : NmAt W v xs) (hb : Below W.heap.size W W') : NmAt W' v xs := ⟨h.1.below hb, h.2⟩
theorem OwnG.nmAt {W : World} {base : Nat} {v : Value} {xs : Nm} (h : OwnG 9 strV W base v xs) : NmAt W v xs := ⟨StrsAt.of_own h, h.slOK⟩

end Go.Proofs.Ytckammgnmgkieaa

/-
  Data (chapter 4): as plain data; how a value reads as them.
-/
namespace Go.Proofs.Ytckammgnmgkieaa
set_option maxRecDepth 20000
open Go.RowKit Go.Shelf

/-- The slice value v reads as these cells. -/
def SlAt (W : World) (v : Value) (xs : List Value) : Prop :=
  ∃ a c, v = .slice a xs.length c ∧ xs.length ≤ c ∧ (a = none → c = 0) ∧ (xs = [] ∨ ∃ b off, a = some ⟨b, off, none⟩ ∧ b < W.heap.size ∧ ∀ j (hj : j < xs.length), W.cell? ⟨b, off + j, none⟩ = some xs[j])
theorem SlAt.below {W W' : World} {v : Value} {xs : List Value} (h : SlAt W v xs) (hb : Below W.heap.size W W') : SlAt W' v xs := by
  obtain ⟨a, c, e, h1, h2, h⟩ := h
  refine ⟨a, c, e, h1, h2, ?_⟩
  rcases h with h | ⟨b, off, ea, hlt, hc⟩
  · exact .inl h
  · exact .inr ⟨b, off, ea, Nat.lt_of_lt_of_le hlt hb.size, fun j hj => (hb.cell (p := ⟨b, off + j, none⟩) hlt).trans (hc j hj)⟩
theorem SlAt.nil (W : World) : SlAt W (.slice none 0 0) [] := ⟨none, 0, rfl, Nat.le_refl _, fun _ => rfl, .inl rfl⟩
theorem SlAt.ok {W : World} {v : Value} {xs : List Value} (h : SlAt W v xs) : SlOK v := by
  obtain ⟨a, c, rfl, h1, h2, _⟩ := h
  exact ⟨_, _, _, rfl, h1, h2⟩
theorem SlAt.of_own {α : Type} {T : TypeId} {enc : α → Value} {W : World} {base : Nat} {v : Value} {xs : List α} (h : OwnG T enc W base v xs) : SlAt W v (xs.map enc) := by
  have h0 := h
  rcases h.2 with ⟨rfl, h1⟩ | ⟨g, cap, cur, rfl, hb, hg, hc, hm, hsz, htk⟩
  · obtain rfl := List.eq_nil_of_length_eq_zero h1
    exact SlAt.nil W
  · refine ⟨_, _, by rw [List.length_map], by rw [List.length_map]; exact hc, (fun e => by cases e), ?_⟩
    by_cases hne : xs = []
    · subst hne; exact .inl rfl
    · obtain ⟨g', eg, _, hlt, hcl⟩ := h0.cells hne
      cases eg
      refine .inr ⟨g, 0, rfl, hlt, fun j hj => ?_⟩
      rw [Nat.zero_add, hcl j (by simpa using hj), List.getElem_map]
/-- A row that came in. -/
theorem slAt_row {W : World} {x : Addr} {l c : Nat} {V : Nat → Value} {vs : List Value} (hv : vs.length = l) (hl : l ≤ c) (hvs : ∀ j (hj : j < vs.length), vs[j] = V j)
    (hcell : ∀ i, i < c → W.cell? (x.add i) = some (V i)) : SlAt W (.slice (some x) l c) vs := by
  refine ⟨some x, c, by rw [hv], by omega, (fun e => by cases e), ?_⟩
  by_cases h0 : l = 0
  · subst h0; exact .inl (List.eq_nil_of_length_eq_zero hv)
  · right
    obtain ⟨b, off, spot⟩ := x
    have hspot : spot = none := by simpa [Addr.add] using World.cell?_spot (hcell 0 (by omega))
    subst hspot
    have hb : b < W.heap.size := by
      have h := hcell 0 (by omega)
      simp only [Addr.add, if_true] at h
      unfold World.cell? at h
      rcases Nat.lt_or_ge b W.heap.size with h' | h'
      · exact h'
      · rw [Array.getElem?_eq_none h'] at h; simp at h
    refine ⟨b, off, rfl, hb, fun j hj => ?_⟩
    rw [← Go.WideShapes.add_plain, hcell j (by omega), hvs j hj]

theorem nmAt_sl {W : World} {v : Value} {xs : Nm} : NmAt W v xs ↔ SlAt W v (xs.map strV) := by
  constructor
  · rintro ⟨⟨a, c, rfl, h⟩, ⟨a', n', c', e, h1, h2⟩⟩
    cases e
    refine ⟨a, c, by rw [List.length_map], by rw [List.length_map]; exact h1, h2, ?_⟩
    rcases h with rfl | ⟨b, off, ea, hlt, hc⟩
    · exact .inl rfl
    · exact .inr ⟨b, off, ea, hlt, fun j hj => by rw [List.getElem_map]; exact hc j (by simpa using hj)⟩
  · rintro ⟨a, c, e, h1, h2, h⟩
    rw [List.length_map] at e h1
    subst e
    refine ⟨⟨a, c, rfl, ?_⟩, ⟨_, _, _, rfl, h1, h2⟩⟩
    rcases h with h | ⟨b, off, ea, hlt, hc⟩
    · exact .inl (by simpa using h)
    · refine .inr ⟨b, off, ea, hlt, fun j hj => ?_⟩
      rw [hc j (by simpa using hj), List.getElem_map]

/-- A slice of names. -/
def NmsAt (W : World) (v : Value) (ns : List Nm) : Prop := ∃ vs : List Value, SlAt W v vs ∧ ∃ h : vs.length = ns.length, ∀ j (hj : j < vs.length), NmAt W vs[j] (ns[j]'(by omega))
theorem NmsAt.below {W W' : World} {v : Value} {ns : List Nm} (h : NmsAt W v ns) (hb : Below W.heap.size W W') : NmsAt W' v ns := by
  obtain ⟨vs, h1, h2, h3⟩ := h
  exact ⟨vs, h1.below hb, h2, fun j hj => (h3 j hj).below hb⟩
theorem NmsAt.nil (W : World) : NmsAt W (.slice none 0 0) [] := ⟨[], SlAt.nil W, rfl, fun _ hj => absurd hj (Nat.not_lt_zero _)⟩

def u32V (n : Nat) : Value := .int .u32 (n : Int)

/-- Data. -/
structure Dat where
  ty : Int
  names : List Nm
  nums : List Nat
  texts : Nm
  raw : List UInt8

def DatAt (W : World) (v : Value) (d : Dat) : Prop :=
  ∃ vn vu vt vr, v = .agg #[.int .i64 d.ty, vn, vu, vt, vr] ∧ NmsAt W vn d.names ∧ SlAt W vu (d.nums.map u32V) ∧ NmAt W vt d.texts ∧ SlAt W vr (d.raw.map bv)
theorem DatAt.below {W W' : World} {v : Value} {d : Dat} (h : DatAt W v d) (hb : Below W.heap.size W W') : DatAt W' v d := by
  obtain ⟨vn, vu, vt, vr, e, h1, h2, h3, h4⟩ := h
  exact ⟨vn, vu, vt, vr, e, h1.below hb, h2.below hb, h3.below hb, h4.below hb⟩
def Dat.none : Dat := ⟨0, [], [], [], []⟩

/-- Bounds on data that the functions are asked for. -/
def DatOK (d : Dat) : Prop := (-(2 ^ 63) ≤ d.ty ∧ d.ty < 2 ^ 63) ∧ d.names.length ≤ 1048576 ∧ (∀ n ∈ d.names, NmOK n) ∧ d.nums.length ≤ 1048576 ∧ (∀ n ∈ d.nums, n < 2 ^ 32) ∧ NmOK d.texts ∧ d.raw.length ≤ 1048576

end Go.Proofs.Ytckammgnmgkieaa

/-
  Names as lists of labels: reading a name (plain facts).
-/
namespace Go.Proofs.Ytckammgnmgkieaa
set_option maxRecDepth 20000
open Go.RowKit Go.Shelf

def readN : Nm → Nm × Int
  | [] => ([], 0)
  | p :: r => if (parseM p).2 = 0 then (if (readN r).2 = 0 then ((parseM p).1 :: (readN r).1, 0) else ([], (readN r).2)) else ([], (parseM p).2)
/-- Is there a dot at the end? -/
def wholeN (ps : Nm) : Bool := decide (ps.getLast? = some [])
def partsN (ps : Nm) : Nm := if wholeN ps then ps.dropLast else ps
def endN (ps : Nm) (o : Nm) : Nm × Int :=
  if (readN (partsN ps)).2 = 0 then
    (if checkN (if wholeN ps then (readN (partsN ps)).1 else (readN (partsN ps)).1 ++ o) = 0 then (if wholeN ps then (readN (partsN ps)).1 else (readN (partsN ps)).1 ++ o, 0)
     else ([], checkN (if wholeN ps then (readN (partsN ps)).1 else (readN (partsN ps)).1 ++ o)))
  else ([], (readN (partsN ps)).2)
def parseN (s : List UInt8) (o : Nm) : Nm × Int :=
  if s = [64] then (o, 0) else if s = [46] then ([], 0) else if s = [] then ([], 8)
  else if (splitM s).2 = 0 then endN (splitM s).1 o else ([], (splitM s).2)

theorem readN_snoc (a : Nm) (x : List UInt8) (h : (readN a).2 = 0) : readN (a ++ [x]) = if (parseM x).2 = 0 then ((readN a).1 ++ [(parseM x).1], 0) else ([], (parseM x).2) := by
  induction a with
  | nil => simp only [List.nil_append, readN]; split <;> simp
  | cons p r ih =>
    simp only [List.cons_append, readN] at h ⊢
    by_cases e : (parseM p).2 = 0
    · rw [if_pos e] at h ⊢
      by_cases e2 : (readN r).2 = 0
      · rw [if_pos e, if_pos e2, ih e2]
        split <;> simp_all
      · rw [if_neg e2] at h; exact absurd h e2
    · rw [if_neg e] at h; exact absurd h e
theorem readN_stop {a p : Nm} (h : p <+: a) (hp : (readN p).2 ≠ 0) : readN a = ([], (readN p).2) := by
  obtain ⟨t, rfl⟩ := h
  induction p with
  | nil => simp [readN] at hp
  | cons x r ih =>
    simp only [List.cons_append, readN] at hp ⊢
    by_cases e : (parseM x).2 = 0
    · rw [if_pos e] at hp ⊢; rw [if_pos e]
      by_cases e2 : (readN r).2 = 0
      · rw [if_pos e2] at hp; simp at hp
      · have := ih e2; rw [this, if_neg e2, if_neg e2]
    · rw [if_neg e, if_neg e]
theorem checkL_mem {n : Nm} (h : checkL n = 0) : ∀ x ∈ n, checkLabelM x = 0 := by
  induction n with
  | nil => simp
  | cons y r ih =>
    simp only [checkL] at h
    by_cases e : checkLabelM y = 0
    · rw [if_pos e] at h; intro x hx; rcases List.mem_cons.1 hx with rfl | hx
      · exact e
      · exact ih h x hx
    · rw [if_neg e] at h; exact absurd h e
theorem checkN_L {n : Nm} (h : checkN n = 0) : checkL n = 0 := by
  unfold checkN at h; by_cases e : checkL n = 0
  · exact e
  · rw [if_neg e] at h; exact h
theorem checkLabelM_ok {l : List UInt8} (h : checkLabelM l = 0) : l ≠ [] ∧ l.length ≤ 63 := by
  unfold checkLabelM at h
  by_cases e : l = []
  · rw [if_pos e] at h; cases h
  · rw [if_neg e] at h
    by_cases e2 : 63 < l.length
    · rw [if_pos e2] at h; cases h
    · exact ⟨e, by omega⟩
theorem readN_text {n : Nm} (h : checkL n = 0) : readN (n.map textL) = (n, 0) := by
  induction n with
  | nil => rfl
  | cons x r ih =>
    have hx := checkL_mem h x (by simp)
    have hr : checkL r = 0 := by simp only [checkL] at h; rw [if_pos hx] at h; exact h
    have hp : parseM (textL x) = (x, 0) := by rw [parse_text, if_pos hx]
    simp only [List.map_cons, readN, hp, ih hr, if_true]
theorem joinL_flat : ∀ (n : Nm), n ≠ [] → joinL (n ++ [[]]) = n.flatMap fun x => textL x ++ [46] := by
  intro n hn
  rw [joinL_snoc hn]
  show joinL n ++ [46] ++ textL [] = _
  have ht : textL [] = [] := rfl
  rw [ht, List.append_nil]
  induction n with
  | nil => exact absurd rfl hn
  | cons x r ih =>
    by_cases hr : r = []
    · subst hr; simp [joinL]
    · have := ih hr
      rw [List.flatMap_cons, ← this]
      cases r with
      | nil => exact absurd rfl hr
      | cons y t => simp [joinL, List.append_assoc]

end Go.Proofs.Ytckammgnmgkieaa

/-
  Contract of name.Text.
-/
namespace Go.Proofs.Ytckammgnmgkieaa
set_option maxRecDepth 20000
open Go.RowKit Go.Shelf

theorem wplIn_append_str {F : Fence} {d : Nat} {ops : Array Oper} {rest : List Oper} {o : Oper} {a : Act} {Q : Exit → Act → World → Prop} (W : World) (hgd : o.guard = none) (sl x : Operand)
    (ho : o.op = .call { callee := .builtin .append, args := #[sl, x], argTypes := #[29, 9] })
    (base : Nat) (v : Value) (xs : List UInt8) (hs : a.eval sl = v) (hown : OwnG 5 bv W base v xs) (s : ByteArray) (hx : a.eval x = .string s)
    (hbase : base ≤ W.heap.size) (hk : xs.length + s.size ≤ 140737488355328)
    (h : ∀ v' w', OwnG 5 bv w' base v' (xs ++ s.data.toList) → W.grownBy w' v.ownBlock → wpListIn F d Try.prog ops Q rest (a.put o.dst v') w') : wpListIn F d Try.prog ops Q (o :: rest) a W := by
  obtain ⟨i0, hi, hz0, hz1, hz2⟩ := info_parts info_u8
  refine wpListIn_plain hgd fun K hK => ?_
  obtain ⟨v', w', hr, h2, h3, h4⟩ := Lib.run_append_own_string (P := Try.prog) (w := W) base 29 9 o.type 5 i0 Try.underlying29 Try.underlying9 hi hz0 hz1 hz2 v xs.length (xs.map bv) hown s (by unfold maxLen; omega) hk hbase
  unfold Oper.wpIn
  refine ⟨?_, ?_⟩
  · simp [Oper.about, ho, resolve, Target.leads, Sem.run_pure]
  · rw [Oper.semAt_plain F _ _ (by rw [ho]; intro c hc'; cases hc')]
    simp [execOp, ho, resolve, invoke, builtin, hs, hx, hr, Result.andThen]
    refine hK _ _ (h v' w' ?_ h3)
    unfold OwnG
    rw [List.length_append, List.map_append, size_data]
    exact h2

def textF (n : Nm) : List UInt8 := n.flatMap fun x => textL x ++ [46]
theorem textF_snoc (n : Nm) (x : List UInt8) : textF (n ++ [x]) = textF n ++ textL x ++ [46] := by simp [textF]
theorem textN_eq {n : Nm} (h : n ≠ []) : textN n = textF n := by unfold textN; rw [if_neg h]; rfl
theorem textF_le {xs : Nm} (h : NmOK xs) (pre : List (Fin xs.length)) : (textF (atN xs pre)).length ≤ pre.length * 4194305 := by
  induction pre with
  | nil => simp [textF, atN]
  | cons j r ih =>
    have h1 := h.get j.val j.isLt
    have h2 := textL_le xs[j]
    simp only [textF, atN, List.map_cons, List.flatMap_cons, List.length_append, List.length_cons, List.length_nil, Fin.getElem_fin] at ih h2 ⊢
    omega

section
attribute [local go_sem] Oper.semAt_some
end
end Go.Proofs.Ytckammgnmgkieaa

/-
  The document's names: NameText; the statements' own helpers of layer 2: Few, Is.
-/
namespace Go.Proofs.Ytckammgnmgkieaa
set_option maxRecDepth 20000
open Go.RowKit Go.Shelf

def fewN (xs : Nm) : Bool := decide (xs.length ≤ 140 ∧ ∀ x ∈ xs, x.length ≤ 100)
theorem fewN_ok {xs : Nm} (h : fewN xs = true) : NmOK xs := by
  have := of_decide_eq_true h
  exact ⟨by omega, fun x hx => by have := this.2 x hx; omega⟩

set_option maxHeartbeats 4000000 in
theorem law2_Few (v : Value) (xs : Nm) (w : World) (hA : StrsAt w v xs) (hm : xs.length ≤ maxLen) (hk : ∀ x ∈ xs, x.length ≤ maxLen) :
    Calls Try.prog 29 #[v] w fun e w' => e = .returned (.bool (fewN xs)) ∧ w' = w := by
  obtain ⟨a, c, rfl, _⟩ := id hA
  unfold maxLen at hm hk
  obtain ⟨n, hn⟩ : ∃ n, xs.length = n := ⟨_, rfl⟩
  have hcell := fun j hj => hA.cell (Below.refl _ w) j hj
  rw [hn] at hm ⊢
  have HN := Lib.hid hn
  clear hA hn
  by_cases hbig : 140 < (n : Int)
  · have H0 : Hid (fewN xs = false) := Lib.hid (decide_eq_false (fun h => by have := HN.out; omega))
    go_enter Try.func29, Try.ntmps29
    go_wp2
    go_ret
    exact ⟨by rw [H0.out]; rfl, rfl⟩
  go_enter Try.func29, Try.ntmps29
  go_wp2
  go_loopw [3] (fun i wr => ∃ k : Nat, i = .int .i64 k ∧ k ≤ n ∧ Hid (∀ x ∈ xs.take k, x.length ≤ 100) ∧ wr = w) (fun i _ => n - (intOf i).toNat)
  case atStart => exact ⟨0, rfl, Nat.zero_le _, Lib.hid (by simp), rfl⟩
  case round =>
    obtain ⟨k, rfl, hkn, HC, rfl⟩ := hrel
    by_cases hlt : k < n
    · have hkp : k < xs.length := by rw [HN.out]; exact hlt
      obtain ⟨g, off, rfl, hg, hc⟩ := hcell k hkp
      obtain ⟨s, hs0, hsz, hsv⟩ := str_of xs[k]
      rw [hsv] at hc
      have hxk := hk _ (List.getElem_mem hkp)
      rw [← hsz] at hxk
      by_cases hb : 100 < (s.size : Int)
      · have H0 : Hid (fewN xs = false) := Lib.hid (decide_eq_false (fun h => by have := h.2 _ (List.getElem_mem hkp); omega))
        clear hs0 hsz hsv hk
        go_wp2
        go_ret
        exact ⟨by rw [H0.out]; rfl, rfl⟩
      · have HC2 : Hid (∀ x ∈ xs.take (k + 1), x.length ≤ 100) := Lib.hid (by
          intro x hx; rw [List.take_succ_eq_append_getElem hkp] at hx
          rcases List.mem_append.1 hx with h | h
          · exact HC.out x h
          · obtain rfl := List.mem_singleton.1 h; omega)
        clear hs0 hsz hsv hk
        go_wp2
        go_roundw
        case rel => exact ⟨k + 1, by go_num, by omega, HC2, trivial⟩
        case measure => simp [intOf]; omega
    · obtain rfl : k = n := by omega
      have H0 : Hid (fewN xs = true) := Lib.hid (decide_eq_true ⟨by have := HN.out; omega, by have h := HC.out; rw [List.take_of_length_le (by rw [HN.out]; exact Nat.le_refl _)] at h; exact h⟩)
      clear hk
      go_wp2
      go_ret
      exact ⟨by rw [H0.out]; rfl, rfl⟩

end Go.Proofs.Ytckammgnmgkieaa

