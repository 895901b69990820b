/-
  cmp.Compare at uint32 and at string; cmp.Or at int.
-/
import Derived.Test.YtfcdajldpnomfaaGreatDoorMQ25
import Derived.Test.YtfcdajldpnomfaaGreatDoorMQ43
import Derived.Test.YtfcdajldpnomfaaGreatDoorMQ36
import Derived.Laws.AppendOwnNone
import Derived.Lib.Walk
import Derived.Lib.SliceRun
import Derived.Lib.PathFns
import Derived.Test.YtfcdajldpnomfaaGreatDoorMQ11
import Derived.Test.YtfcdajldpnomfaaGreatDoorMQ39
namespace Go.Proofs.YtfcdajldpnomfaaGreatDoor
set_option maxRecDepth 20000
open Go.RowKit Go.Shelf

set_option maxHeartbeats 400000 in
theorem nan_u32 (a : Int) (w : World) : Calls Tryz.prog 110 #[.int .u32 a] w fun e w' => e = .returned (.bool false) ∧ w = w' := by
  go_enter Tryz.func110, Tryz.ntmps110
  go_wp2
  go_ret
  exact ⟨ret_bool (by simp), rfl⟩
set_option maxHeartbeats 400000 in
theorem cmp_u32 (a b : Int) (w : World) : Calls Tryz.prog 72 #[.int .u32 a, .int .u32 b] w fun e w' => e = .returned (.int .i64 (cmpI a b)) ∧ w = w' := by
  go_enter Tryz.func72, Tryz.ntmps72
  go_wp2_with (go_at_call 110; refine (nan_u32 _ _).mono ?_; rintro e w' ⟨rfl, rfl⟩)
  all_goals go_ret
  all_goals refine ⟨ret_int ?_, rfl⟩
  · have h : a < b := by assumption
    show -1 = _; rw [cmpI, if_pos h]
  · have h : b ≤ a := by assumption
    have h2 : b < a := by assumption
    show 1 = _; rw [cmpI, if_neg (by omega), if_pos h2]
  · have h : b ≤ a := by assumption
    have h2 : a ≤ b := by assumption
    show 0 = _; rw [cmpI, if_neg (by omega), if_neg (by omega)]

set_option maxHeartbeats 400000 in
theorem nan_str (a : ByteArray) (w : World) : Calls Tryz.prog 112 #[.string a] w fun e w' => e = .returned (.bool false) ∧ w = w' := by
  go_enter Tryz.func112, Tryz.ntmps112
  go_wp2
  go_ret
  exact ⟨ret_bool (by simp), rfl⟩
set_option maxHeartbeats 1000000 in
theorem cmp_str (a b : ByteArray) (w : World) : Calls Tryz.prog 74 #[.string a, .string b] w fun e w' => e = .returned (.int .i64 (orderM a.data.toList b.data.toList)) ∧ w = w' := by
  have hA := toList_data a
  have hB := toList_data b
  have HA := Lib.hid hA; have HB := Lib.hid hB; clear hA hB
  cases h1 : Op.bytesLess a.toList b.toList with
  | true =>
    have r : orderM a.data.toList b.data.toList = -1 := by unfold orderM; rw [← HA.out, ← HB.out, if_pos h1]
    have R := Lib.hid r; clear r
    go_enter Tryz.func74, Tryz.ntmps74
    go_wp2_with (go_at_call 112; refine (nan_str _ _).mono ?_; rintro e w' ⟨rfl, rfl⟩)
    go_ret
    exact ⟨ret_int R.out.symm, rfl⟩
  | false =>
    have h1n : ¬ Op.bytesLess a.toList b.toList = true := by rw [h1]; simp
    by_cases h2 : (a.toList == b.toList) = true
    · have r : orderM a.data.toList b.data.toList = 0 := by unfold orderM; rw [← HA.out, ← HB.out, if_neg h1n, if_pos (by simpa using h2)]
      have R := Lib.hid r; clear r h1n
      go_enter Tryz.func74, Tryz.ntmps74
      go_wp2_with (go_at_call 112; refine (nan_str _ _).mono ?_; rintro e w' ⟨rfl, rfl⟩)
      go_ret
      exact ⟨ret_int R.out.symm, rfl⟩
    · have h2f : (a.toList == b.toList) = false := by simpa using h2
      have r : orderM a.data.toList b.data.toList = 1 := by unfold orderM; rw [← HA.out, ← HB.out, if_neg h1n, if_neg (by simpa using h2)]
      have R := Lib.hid r; clear r h1n h2
      go_enter Tryz.func74, Tryz.ntmps74
      go_wp2_with (go_at_call 112; refine (nan_str _ _).mono ?_; rintro e w' ⟨rfl, rfl⟩)
      go_ret
      exact ⟨ret_int R.out.symm, rfl⟩

def firstNZ : List Int → Int
  | [] => 0
  | x :: r => if x = 0 then firstNZ r else x
theorem firstNZ_step (l : List Int) (k : Nat) (h : k < l.length) : firstNZ (l.drop k) = if l[k] = 0 then firstNZ (l.drop (k + 1)) else l[k] := by
  rw [List.drop_eq_getElem_cons h]; rfl
set_option maxHeartbeats 2000000 in
theorem cmp_Or (g c : Nat) (l : List Int) (w : World) (hm : l.length ≤ 1048576) (hc : ∀ j (h : j < l.length), w.cell? ⟨g, j, none⟩ = some (.int .i64 l[j])) :
    Calls Tryz.prog 69 #[.slice (some ⟨g, 0, none⟩) l.length c] w fun e w' => e = .returned (.int .i64 (firstNZ l)) ∧ w = w' := by
  have HC := Lib.hid hc; clear hc
  go_enter Tryz.func69, Tryz.ntmps69
  go_wp2
  go_loopw [8] (fun i wr => ∃ k : Nat, i = .int .i64 k ∧ k ≤ l.length ∧ Hid (firstNZ (l.drop k) = firstNZ l) ∧ w = wr) (fun i _ => l.length - (intOf i).toNat)
  case atStart => exact ⟨0, rfl, Nat.zero_le _, Lib.hid rfl, rfl⟩
  case round =>
    obtain ⟨k, rfl, hk, HD, rfl⟩ := hrel
    by_cases hlt : k < l.length
    · have hcell := HC.out k hlt
      have hst := firstNZ_step l k hlt
      generalize hx : l[k] = x at *
      have HS := Lib.hid hst
      clear hst hx
      by_cases h0 : (x != 0) = true
      · have hn : x ≠ 0 := by simpa using h0
        have HN := Lib.hid hn; clear hn
        go_wp2
        go_ret
        exact ⟨ret_int (by rw [← HD.out, HS.out, if_neg HN.out]), rfl⟩
      · have hn : (x != 0) = false := by simpa using h0
        have hz : x = 0 := by simpa using hn
        have HZ := Lib.hid hz; clear hz h0
        go_wp2
        go_roundw
        case rel => exact ⟨k + 1, by go_num, by omega, Lib.hid (by rw [← HD.out, HS.out, if_pos HZ.out]), trivial⟩
        case measure => simp [intOf]; omega
    · obtain rfl : k = l.length := by omega
      have HE := Lib.hid (show firstNZ l = 0 by rw [← HD.out, List.drop_of_length_le (Nat.le_refl _)]; rfl)
      go_wp2
      go_ret
      exact ⟨ret_int HE.out.symm, rfl⟩
end Go.Proofs.YtfcdajldpnomfaaGreatDoor

/-
  Slices whose elements have k cells, wherever they lie; slices.Clone of them.
-/
namespace Go.Proofs.YtfcdajldpnomfaaGreatDoor
open Go.RowKit Go.Shelf
set_option maxRecDepth 20000
set_option linter.unusedVariables false
set_option linter.unusedSimpArgs false

/-- The slice value v reads as these elements, each by its cells. -/
def SlK (W : World) (v : Value) (css : List (List Value)) : Prop :=
  ∃ a c, v = .slice a css.length c ∧ css.length ≤ c ∧ (a = none → c = 0) ∧ (css = [] ∨ ∃ b off, a = some ⟨b, off, none⟩ ∧ b < W.heap.size ∧ ∀ j u, css.flatten[j]? = some u → W.cell? ⟨b, off + j, none⟩ = some u)
theorem SlK.below {W W' : World} {v : Value} {css : List (List Value)} (h : SlK W v css) (hb : Below W.heap.size W W') : SlK W' v css := by
  obtain ⟨a, c, e, h1, h2, h⟩ := h
  refine ⟨a, c, e, h1, h2, ?_⟩
  rcases h with h | ⟨b, off, ea, hlt, hc⟩
  · exact .inl h
  · exact .inr ⟨b, off, ea, Nat.lt_of_lt_of_le hlt hb.size, fun j u hj => (hb.cell (p := ⟨b, off + j, none⟩) hlt).trans (hc j u hj)⟩
theorem SlK.nil (W : World) : SlK W (.slice none 0 0) [] := ⟨none, 0, rfl, Nat.le_refl _, fun _ => rfl, .inl rfl⟩
theorem slK_one {W : World} {v : Value} {xs : List Value} (h : SlAt W v xs) : SlK W v (xs.map fun x => [x]) := by
  obtain ⟨a, c, e, h1, h2, h⟩ := h
  refine ⟨a, c, by rw [List.length_map]; exact e, by rw [List.length_map]; exact h1, h2, ?_⟩
  have hf : ∀ xs : List Value, (xs.map fun x => [x]).flatten = xs := fun xs => by
    induction xs with
    | nil => rfl
    | cons x r ih => rw [List.map_cons, List.flatten_cons, ih]; rfl
  rcases h with h | ⟨b, off, ea, hlt, hc⟩
  · subst h; exact .inl rfl
  · refine .inr ⟨b, off, ea, hlt, fun j u hj => ?_⟩
    rw [hf] at hj
    obtain ⟨hj1, hj2⟩ := List.getElem?_eq_some_iff.1 hj
    rw [← hj2]; exact hc j hj1
abbrev OwnC (k : Nat) (T : TypeId) (W : World) (base : Nat) (v : Value) (css : List (List Value)) : Prop := OwnK k T (fun cs : List Value => cs) W base v css
theorem flat_id (css : List (List Value)) : css.flatMap (fun cs => cs) = css.flatten := by simp [List.flatMap]
theorem flat_len {k : Nat} : ∀ (css : List (List Value)), (∀ cs ∈ css, cs.length = k) → css.flatten.length = css.length * k
  | [], _ => by simp
  | c :: r, h => by
    rw [List.flatten_cons, List.length_append, h c (by simp), flat_len r (fun x hx => h x (by simp [hx])), List.length_cons, Nat.succ_mul]; omega
theorem SlK.of_own {k : Nat} {T : TypeId} {W : World} {base : Nat} {v : Value} {css : List (List Value)} (h : OwnC k T W base v css) (hk : ∀ cs ∈ css, cs.length = k) : SlK W v css := by
  rcases h.2 with ⟨rfl, h0⟩ | ⟨g, cap, cur, rfl, hb, hg, hc, hm, hsz, htk⟩
  · obtain rfl := List.eq_nil_of_length_eq_zero h0
    exact SlK.nil W
  · refine ⟨_, _, rfl, hc, (fun e => by cases e), .inr ⟨g, 0, rfl, (Array.getElem?_eq_some_iff.1 hg).1, fun j u hj => ?_⟩⟩
    have hl := flat_len css hk
    have hj' : j < css.length * k := by rw [← hl]; exact (List.getElem?_eq_some_iff.1 hj).1
    have h3 : cur.toList[j]? = some u := by
      have : (cur.toList.take (css.length * k))[j]? = some u := by rw [htk, flat_id]; exact hj
      rw [List.getElem?_take, if_pos hj'] at this
      exact this
    simp only [World.cell?, hg, Nat.zero_add]
    simpa using h3
/-- append of a whole slice to one of the call's own. -/
theorem wpl_append_slk {S T : TypeId} {k bytes : Nat} {ops : Array Oper} {rest : List Oper} {o : Oper} {a : Act} {Q : Exit → Act → World → Prop} (W : World) (hgd : o.guard = none) (s x : Operand) (hE : ElemK k T S bytes) (hk0 : 0 < k)
    (ho : o.op = .call { callee := .builtin .append, args := #[s, x], argTypes := #[S, S] })
    (base : Nat) (v : Value) (xs : List (List Value)) (hs : a.eval s = v) (hown : OwnC k T W base v xs)
    (src : Value) (ys : List (List Value)) (hx : a.eval x = src) (hsrc : SlK W src ys) (hyk : ∀ cs ∈ ys, cs.length = k) (hy1 : ∀ cs ∈ ys, ∀ u ∈ cs, u.oneCell' = true)
    (hbase : base ≤ W.heap.size) (hk : xs.length + ys.length ≤ maxLen) (hk2 : (xs.length + ys.length) * bytes ≤ 140737488355328)
    (h : ∀ v' w', OwnC k T w' base v' (xs ++ ys) → W.grownBy w' v.ownBlock → wpList Tryz.prog ops Q rest (a.put o.dst v') w') :
    wpList Tryz.prog ops Q (o :: rest) a W := by
  obtain ⟨ht, i, z, hi, hz, hz1, hz2, hzc⟩ := hE
  obtain ⟨a0, c0, rfl, h1, h2, h3⟩ := hsrc
  have hlen := flat_len ys hyk
  cases a0 with
  | none =>
    have e3 := h2 rfl
    subst e3
    have e4 : ys = [] := List.eq_nil_of_length_eq_zero (by omega)
    subst e4
    refine wpList_append_own_none hgd s x S ho base _ i k ht hi v _ _ hs hown hx ?_
    exact h v W (by rw [List.append_nil]; exact hown) ⟨rfl, rfl, rfl, Nat.le_refl _, fun _ _ _ => rfl⟩
  | some ad =>
    have hcell : ∀ j u, ys.flatten[j]? = some u → W.cell? (ad.add j) = some u := by
      intro j u hj
      rcases h3 with h3 | ⟨b, off, ea, _, hc⟩
      · subst h3; simp at hj
      · cases ea; rw [Addr.add_lit]; exact hc j u hj
    refine wpList_append_own _ hgd s x S ho base _ i z k bytes ht hi hz hz1 hz2 hzc hk0 v xs.length (xs.flatMap fun cs => cs) hs hown ad ys.length c0 ys.flatten hx hlen hcell (by intro u hu; obtain ⟨y, hy, hu⟩ := List.mem_flatten.1 hu; exact hy1 y hy u hu) hk hk2 hbase ?_
    intro v' w' g1 g2 _
    refine h v' w' ?_ g2
    unfold OwnC OwnK
    rw [List.length_append, List.flatMap_append, flat_id ys]
    exact g1
theorem ownC_lit (k : Nat) (T : TypeId) (w : World) : OwnC k T (w.alloc (.cells #[] T)) w.heap.size (.slice (some ⟨w.heap.size, 0, none⟩) 0 0) [] := World.ownsRow_made w #[] 0 (Nat.le_refl _) (Nat.zero_le _) (by simp)

theorem elem_rec : ElemK 7 31 34 136 := ⟨Tryz.underlying34, _, _, rfl, rfl, rfl, rfl, rfl⟩
set_option maxHeartbeats 2000000 in
theorem clone_rec (v : Value) (css : List (List Value)) (w : World) (hA : SlK w v css) (hk : ∀ cs ∈ css, cs.length = 7) (h1 : ∀ cs ∈ css, ∀ u ∈ cs, u.oneCell' = true) (hl : css.length ≤ 1000000000000) :
    Calls Tryz.prog 97 #[v] w fun e w' => ∃ v', e = .returned v' ∧ OwnC 7 31 w' w.heap.size v' css ∧ Below w.heap.size w w' := by
  obtain ⟨a, c, rfl, hc1, hc2, hx⟩ := id hA
  cases a with
  | none =>
    have hnil : css = [] := List.eq_nil_of_length_eq_zero (by have := hc2 rfl; omega)
    subst hnil
    obtain rfl := hc2 rfl
    clear hc2 hx
    have q := fun w => Lib.run_eql_slice_nil (P := Tryz.prog) w 34 _ none 0 0 0 0 Tryz.underlying34
    go_enter Tryz.func97, Tryz.ntmps97
    go_wp2
    go_ret
    exact ⟨_, rfl, OwnK.nil _ _, Below.refl _ _⟩
  | some ad =>
    have hlit := ownC_lit 7 31 w
    have q := fun w => Lib.run_eql_slice_nil (P := Tryz.prog) w 34 _ (some ad) css.length c 0 0 Tryz.underlying34
    go_enter Tryz.func97, Tryz.ntmps97
    go_wp2_with (at_builtin; refine wpl_append_slk (w.alloc (.cells #[] 31)) rfl (.tmp 5) (.tmp 6) elem_rec (by decide) rfl w.heap.size _ [] rfl hlit _ css rfl (hA.below ((Below.refl _ w).alloc (Nat.le_refl _) _)) hk h1 (by simp) (by unfold maxLen; simp; omega) (by simp; omega) ?_; intro v' w' hown' hg')
    go_ret
    exact ⟨v', rfl, hown', ((Below.refl _ w).alloc (Nat.le_refl _) _).grown hg' (by simp) hlit.base_le⟩

theorem elem_u32 : ElemK 1 24 26 4 := ⟨Tryz.underlying26, _, _, rfl, rfl, rfl, rfl, rfl⟩
set_option maxHeartbeats 2000000 in
theorem clone_u32 (v : Value) (css : List (List Value)) (w : World) (hA : SlK w v css) (hk : ∀ cs ∈ css, cs.length = 1) (h1 : ∀ cs ∈ css, ∀ u ∈ cs, u.oneCell' = true) (hl : css.length ≤ 1000000000000) :
    Calls Tryz.prog 100 #[v] w fun e w' => ∃ v', e = .returned v' ∧ OwnC 1 24 w' w.heap.size v' css ∧ Below w.heap.size w w' := by
  obtain ⟨a, c, rfl, hc1, hc2, hx⟩ := id hA
  cases a with
  | none =>
    have hnil : css = [] := List.eq_nil_of_length_eq_zero (by have := hc2 rfl; omega)
    subst hnil
    obtain rfl := hc2 rfl
    clear hc2 hx
    have q := fun w => Lib.run_eql_slice_nil (P := Tryz.prog) w 26 _ none 0 0 0 0 Tryz.underlying26
    go_enter Tryz.func100, Tryz.ntmps100
    go_wp2
    go_ret
    exact ⟨_, rfl, OwnK.nil _ _, Below.refl _ _⟩
  | some ad =>
    have hlit := ownC_lit 1 24 w
    have q := fun w => Lib.run_eql_slice_nil (P := Tryz.prog) w 26 _ (some ad) css.length c 0 0 Tryz.underlying26
    go_enter Tryz.func100, Tryz.ntmps100
    go_wp2_with (at_builtin; refine wpl_append_slk (w.alloc (.cells #[] 24)) rfl (.tmp 5) (.tmp 6) elem_u32 (by decide) rfl w.heap.size _ [] rfl hlit _ css rfl (hA.below ((Below.refl _ w).alloc (Nat.le_refl _) _)) hk h1 (by simp) (by unfold maxLen; simp; omega) (by simp; omega) ?_; intro v' w' hown' hg')
    go_ret
    exact ⟨v', rfl, hown', ((Below.refl _ w).alloc (Nat.le_refl _) _).grown hg' (by simp) hlit.base_le⟩

theorem elem_str : ElemK 1 9 22 16 := ⟨Tryz.underlying22, _, _, rfl, rfl, rfl, rfl, rfl⟩
set_option maxHeartbeats 2000000 in
theorem clone_str (v : Value) (css : List (List Value)) (w : World) (hA : SlK w v css) (hk : ∀ cs ∈ css, cs.length = 1) (h1 : ∀ cs ∈ css, ∀ u ∈ cs, u.oneCell' = true) (hl : css.length ≤ 1000000000000) :
    Calls Tryz.prog 101 #[v] w fun e w' => ∃ v', e = .returned v' ∧ OwnC 1 9 w' w.heap.size v' css ∧ Below w.heap.size w w' := by
  obtain ⟨a, c, rfl, hc1, hc2, hx⟩ := id hA
  cases a with
  | none =>
    have hnil : css = [] := List.eq_nil_of_length_eq_zero (by have := hc2 rfl; omega)
    subst hnil
    obtain rfl := hc2 rfl
    clear hc2 hx
    have q := fun w => Lib.run_eql_slice_nil (P := Tryz.prog) w 22 _ none 0 0 0 0 Tryz.underlying22
    go_enter Tryz.func101, Tryz.ntmps101
    go_wp2
    go_ret
    exact ⟨_, rfl, OwnK.nil _ _, Below.refl _ _⟩
  | some ad =>
    have hlit := ownC_lit 1 9 w
    have q := fun w => Lib.run_eql_slice_nil (P := Tryz.prog) w 22 _ (some ad) css.length c 0 0 Tryz.underlying22
    go_enter Tryz.func101, Tryz.ntmps101
    go_wp2_with (at_builtin; refine wpl_append_slk (w.alloc (.cells #[] 9)) rfl (.tmp 5) (.tmp 6) elem_str (by decide) rfl w.heap.size _ [] rfl hlit _ css rfl (hA.below ((Below.refl _ w).alloc (Nat.le_refl _) _)) hk h1 (by simp) (by unfold maxLen; simp; omega) (by simp; omega) ?_; intro v' w' hown' hg')
    go_ret
    exact ⟨v', rfl, hown', ((Below.refl _ w).alloc (Nat.le_refl _) _).grown hg' (by simp) hlit.base_le⟩

theorem elem_byte : ElemK 1 5 27 1 := ⟨Tryz.underlying27, _, _, rfl, rfl, rfl, rfl, rfl⟩
set_option maxHeartbeats 2000000 in
theorem clone_byte (v : Value) (css : List (List Value)) (w : World) (hA : SlK w v css) (hk : ∀ cs ∈ css, cs.length = 1) (h1 : ∀ cs ∈ css, ∀ u ∈ cs, u.oneCell' = true) (hl : css.length ≤ 1000000000000) :
    Calls Tryz.prog 102 #[v] w fun e w' => ∃ v', e = .returned v' ∧ OwnC 1 5 w' w.heap.size v' css ∧ Below w.heap.size w w' := by
  obtain ⟨a, c, rfl, hc1, hc2, hx⟩ := id hA
  cases a with
  | none =>
    have hnil : css = [] := List.eq_nil_of_length_eq_zero (by have := hc2 rfl; omega)
    subst hnil
    obtain rfl := hc2 rfl
    clear hc2 hx
    have q := fun w => Lib.run_eql_slice_nil (P := Tryz.prog) w 27 _ none 0 0 0 0 Tryz.underlying27
    go_enter Tryz.func102, Tryz.ntmps102
    go_wp2
    go_ret
    exact ⟨_, rfl, OwnK.nil _ _, Below.refl _ _⟩
  | some ad =>
    have hlit := ownC_lit 1 5 w
    have q := fun w => Lib.run_eql_slice_nil (P := Tryz.prog) w 27 _ (some ad) css.length c 0 0 Tryz.underlying27
    go_enter Tryz.func102, Tryz.ntmps102
    go_wp2_with (at_builtin; refine wpl_append_slk (w.alloc (.cells #[] 5)) rfl (.tmp 5) (.tmp 6) elem_byte (by decide) rfl w.heap.size _ [] rfl hlit _ css rfl (hA.below ((Below.refl _ w).alloc (Nat.le_refl _) _)) hk h1 (by simp) (by unfold maxLen; simp; omega) (by simp; omega) ?_; intro v' w' hown' hg')
    go_ret
    exact ⟨v', rfl, hown', ((Below.refl _ w).alloc (Nat.le_refl _) _).grown hg' (by simp) hlit.base_le⟩
end Go.Proofs.YtfcdajldpnomfaaGreatDoor

/-
  The document's types: Types, typeName, Known, TypeText, ParseType.
-/
namespace Go.Proofs.YtfcdajldpnomfaaGreatDoor
set_option maxRecDepth 20000
open Go.RowKit Go.Shelf

theorem rowOfT_first {t : Int} {k : Nat} (hk : k < 9) (h : typeT k = t) (hn : ∀ j, j < k → typeT j ≠ t) : rowOfT t = some k := by
  unfold rowOfT; rw [List.find?_range_eq_some]
  exact ⟨decide_eq_true h, by simpa using hk, fun j hj => by simpa using hn j hj⟩
theorem rowOfT_never {t : Int} (h : ∀ j, j < 9 → typeT j ≠ t) : rowOfT t = none := by
  unfold rowOfT; rw [List.find?_eq_none]; intro j hj; simpa using h j (by simpa using hj)
theorem rowOfS_first {s : List UInt8} {k : Nat} (hk : k < 9) (h : typeS k = s) (hn : ∀ j, j < k → typeS j ≠ s) : rowOfS s = some k := by
  unfold rowOfS; rw [List.find?_range_eq_some]
  exact ⟨decide_eq_true h, by simpa using hk, fun j hj => by simpa using hn j hj⟩
theorem rowOfS_never {s : List UInt8} (h : ∀ j, j < 9 → typeS j ≠ s) : rowOfS s = none := by
  unfold rowOfS; rw [List.find?_eq_none]; intro j hj; simpa using h j (by simpa using hj)

/-- A row of integers in block g. -/
def TRow (g : Nat) (W : World) : Prop := g < W.heap.size ∧ ∀ j, j < 9 → W.cell? ⟨g, j, none⟩ = some (.int .i64 (typeT j))
theorem TRow.below {g : Nat} {W W' : World} (h : TRow g W) (hb : Below W.heap.size W W') : TRow g W' := ⟨Nat.lt_of_lt_of_le h.1 hb.size, fun j hj => (hb.cell (p := ⟨g, j, none⟩) h.1).trans (h.2 j hj)⟩
def TypesPost (w : World) (e : Ending) (w' : World) : Prop := ∃ g, e = .returned (.slice (some ⟨g, 0, none⟩) 9 9) ∧ TRow g w' ∧ Below w.heap.size w w'

set_option maxHeartbeats 400000 in
theorem ref_Types (w : World) : Calls Tryz.prog 130 #[] w (TypesPost w) := by
  go_enter Tryz.func130, Tryz.ntmps130
  go_wp2
  go_ret
  refine ⟨_, rfl, ⟨by simp, fun j hj => ?_⟩, (Below.refl _ _).alloc (Nat.le_refl _) _⟩
  have h := cells_new w ((List.range 9).map fun j => Value.int .i64 (typeT j)) 3 j (.int .i64 (typeT j)) (by simp [hj])
  have e : ((⟨w.heap.size, 0, none⟩ : Addr).add j) = ⟨w.heap.size, j, none⟩ := by unfold Addr.add; by_cases hj : j = 0 <;> simp [hj]
  rw [e] at h
  exact h

set_option maxHeartbeats 2000000 in
theorem ref_typeName (t : Int) (w : World) :
    Calls Tryz.prog 92 #[.int .i64 t] w fun e w' => e = .returned (.string ⟨(typeNameM t).toArray⟩) ∧ Below w.heap.size w w' := by
  go_enter Tryz.func92, Tryz.ntmps92
  go_wp2_with (go_at_call 130; refine (ref_Types _).mono ?_; rintro e w1 ⟨g, rfl, hT, hb1⟩)
  have hS : ∀ j, j < 9 → (w1.alloc (.cells #[.string ⟨#[65]⟩, .string ⟨#[78, 83]⟩, .string ⟨#[67, 78, 65, 77, 69]⟩, .string ⟨#[83, 79, 65]⟩, .string ⟨#[80, 84, 82]⟩, .string ⟨#[77, 88]⟩, .string ⟨#[84, 88, 84]⟩, .string ⟨#[65, 65, 65, 65]⟩, .string ⟨#[68, 78, 65, 77, 69]⟩] 9)).cell? ⟨w1.heap.size, j, none⟩ = some (strV (typeS j)) := by
    intro j hj
    have h := cells_new w1 ((List.range 9).map fun j => strV (typeS j)) 9 j (strV (typeS j)) (by simp [hj])
    have e : ((⟨w1.heap.size, 0, none⟩ : Addr).add j) = ⟨w1.heap.size, j, none⟩ := by unfold Addr.add; by_cases hj : j = 0 <;> simp [hj]
    rw [e] at h
    exact h
  have hT2 := hT.below ((Below.refl _ w1).alloc (Nat.le_refl _) (.cells #[.string ⟨#[65]⟩, .string ⟨#[78, 83]⟩, .string ⟨#[67, 78, 65, 77, 69]⟩, .string ⟨#[83, 79, 65]⟩, .string ⟨#[80, 84, 82]⟩, .string ⟨#[77, 88]⟩, .string ⟨#[84, 88, 84]⟩, .string ⟨#[65, 65, 65, 65]⟩, .string ⟨#[68, 78, 65, 77, 69]⟩] 9))
  have hb2 := hb1.alloc hb1.size (.cells #[.string ⟨#[65]⟩, .string ⟨#[78, 83]⟩, .string ⟨#[67, 78, 65, 77, 69]⟩, .string ⟨#[83, 79, 65]⟩, .string ⟨#[80, 84, 82]⟩, .string ⟨#[77, 88]⟩, .string ⟨#[84, 88, 84]⟩, .string ⟨#[65, 65, 65, 65]⟩, .string ⟨#[68, 78, 65, 77, 69]⟩] 9)
  generalize w1.alloc (.cells #[.string ⟨#[65]⟩, .string ⟨#[78, 83]⟩, .string ⟨#[67, 78, 65, 77, 69]⟩, .string ⟨#[83, 79, 65]⟩, .string ⟨#[80, 84, 82]⟩, .string ⟨#[77, 88]⟩, .string ⟨#[84, 88, 84]⟩, .string ⟨#[65, 65, 65, 65]⟩, .string ⟨#[68, 78, 65, 77, 69]⟩] 9) = w2 at *
  generalize w1.heap.size = g2 at *
  have HS := Lib.hid hS
  clear hS hT hb1
  go_loopw [5] (fun i wr => ∃ k : Nat, i = .int .i64 k ∧ k ≤ 9 ∧ Hid (∀ j, j < k → typeT j ≠ t) ∧ wr = w2) (fun i _ => 9 - (intOf i).toNat)
  case atStart => exact ⟨0, rfl, by omega, Lib.hid (by intro j h; omega), rfl⟩
  case round =>
    obtain ⟨k, rfl, hk, HN, rfl⟩ := hrel
    by_cases hlt : k < 9
    · have c1 := hT2.2 k hlt
      have c2 := HS.out k hlt
      have hb : typeT k = t → typeNameM t = typeS k := fun h => by unfold typeNameM; rw [rowOfT_first hlt h HN.out]
      have HB := Lib.hid hb
      have HN2 : Hid (typeT k ≠ t → ∀ j, j < k + 1 → typeT j ≠ t) := Lib.hid (fun h j hj => by
        by_cases e : j = k
        · rw [e]; exact h
        · exact HN.out j (by omega))
      unfold strV at c2
      obtain ⟨sk, hsk⟩ : ∃ sk, (⟨(typeS k).toArray⟩ : ByteArray) = sk := ⟨_, rfl⟩
      rw [hsk] at c2
      obtain ⟨x, hx⟩ : ∃ x, typeT k = x := ⟨_, rfl⟩
      rw [hx] at c1
      by_cases he : (x == t) = true
      · have H0 : Hid ((⟨(typeNameM t).toArray⟩ : ByteArray) = sk) := Lib.hid (by rw [HB.out (by rw [hx]; simpa using he), hsk])
        clear hb HB HN2 hsk hx HN
        go_wp2
        go_ret
        exact ⟨by rw [H0.out]; rfl, hb2⟩
      · have he0 : (x == t) = false := by simpa using he
        have HN3 := Lib.hid (HN2.out (by rw [hx]; simpa using he0))
        clear hb HB HN2 hsk hx HN he
        go_wp2
        go_roundw
        case rel => exact ⟨k + 1, by go_num, by omega, HN3, trivial⟩
        case measure => simp [intOf]; omega
    · obtain rfl : k = 9 := by omega
      have H0 : Hid (typeNameM t = []) := Lib.hid (by unfold typeNameM; rw [rowOfT_never HN.out])
      go_wp2
      go_ret
      exact ⟨by rw [H0.out]; rfl, hb2⟩

theorem name_known (t : Int) : knownM t = !(typeNameM t).isEmpty := by
  unfold knownM typeNameM
  cases h : rowOfT t with
  | none => rfl
  | some j =>
    have := (typeS_ne j (find_range h).1).1
    simp only [Option.isSome_some]
    cases hs : typeS j with
    | nil => exact absurd hs this
    | cons a b => rfl

set_option maxHeartbeats 1000000 in
theorem ref_Known (t : Int) (w : World) :
    Calls Tryz.prog 91 #[.int .i64 t] w fun e w' => e = .returned (.bool (knownM t)) ∧ Below w.heap.size w w' := by
  have hN := ref_typeName t w
  have hk : knownM t = !(⟨(typeNameM t).toArray⟩ : ByteArray).toList.isEmpty := by
    rw [name_known, toList_data]
  have HK := Lib.hid hk
  clear hk
  generalize (⟨(typeNameM t).toArray⟩ : ByteArray) = s at *
  go_enter Tryz.func91, Tryz.ntmps91
  go_wp2_with (go_at_call 92; refine hN.mono ?_; rintro e w1 ⟨rfl, hb1⟩)
  go_ret
  exact ⟨by rw [HK.out]; rfl, hb1⟩

set_option maxHeartbeats 1000000 in
theorem ref_TypeText (t : Nat) (w : World) (ht : t ≤ 4611686018427387904) :
    Calls Tryz.prog 43 #[.int .i64 (t : Int)] w fun e w' => e = .returned (.string ⟨(typeTextM t).toArray⟩) ∧ Below w.heap.size w w' := by
  have hK := fun W => ref_Known t W
  have hN := fun W => ref_typeName t W
  have hD := fun W => ref_Decimal t W ht
  cases hk : knownM t with
  | true =>
    rw [hk] at hK
    have H0 : Hid (typeTextM t = typeNameM t) := Lib.hid (by
      unfold knownM at hk; unfold typeTextM typeNameM
      cases h : rowOfT (t : Int) with
      | none => rw [h] at hk; cases hk
      | some j => rfl)
    clear hk hD
    obtain ⟨s, hs⟩ : ∃ s, (⟨(typeNameM (t : Int)).toArray⟩ : ByteArray) = s := ⟨_, rfl⟩
    rw [hs] at hN
    have HS := Lib.hid hs
    clear hs
    go_enter Tryz.func43, Tryz.ntmps43
    go_wp2_with (first | (go_at_call 91; refine (hK _).mono ?_; rintro e w1 ⟨rfl, hb1⟩) | (go_at_call 92; refine (hN _).mono ?_; rintro e w2 ⟨rfl, hb2⟩))
    go_ret
    exact ⟨by rw [H0.out, HS.out]; rfl, hb1.trans (hb2.mono hb1.size)⟩
  | false =>
    rw [hk] at hK
    have H0 : Hid (typeTextM t = [84, 89, 80, 69] ++ Lib.decDigits t) := Lib.hid (by
      unfold knownM at hk; unfold typeTextM
      cases h : rowOfT (t : Int) with
      | none => simp only [Lib.itoa_nonneg]
      | some j => rw [h] at hk; cases hk)
    have hl := dec_len t (by omega)
    have a1 := fun W => run_string_add_sum (P := Tryz.prog) W ⟨#[84, 89, 80, 69]⟩ ⟨(Lib.decDigits t).toArray⟩ (by rw [mk_size (Lib.decDigits t)]; show 4 + (Lib.decDigits t).length ≤ _; omega)
    have e1 : (⟨#[84, 89, 80, 69]⟩ : ByteArray) ++ ⟨(Lib.decDigits t).toArray⟩ = ⟨([84, 89, 80, 69] ++ Lib.decDigits t).toArray⟩ := mk_append [84, 89, 80, 69] _
    rw [e1] at a1
    clear e1 hk hN hl
    generalize (⟨(Lib.decDigits t).toArray⟩ : ByteArray) = dt at *
    go_enter Tryz.func43, Tryz.ntmps43
    go_wp2_with (first | (go_at_call 91; refine (hK _).mono ?_; rintro e w1 ⟨rfl, hb1⟩) | (go_at_call 42; refine (hD _).mono ?_; rintro e w2 ⟨rfl, hb2⟩))
    go_ret
    exact ⟨by rw [H0.out]; rfl, hb1.trans (hb2.mono hb1.size)⟩
end Go.Proofs.YtfcdajldpnomfaaGreatDoor

/-
  Package rtype's table looked up: by the number, by the name.
-/
namespace Go.Proofs.YtfcdajldpnomfaaGreatDoor
set_option maxRecDepth 20000
open Go.RowKit Go.Shelf

theorem fin_prefix {n : Nat} {p : List (Fin n)} {x : Fin n} (h : (p ++ [x]) <+: List.finRange n) : ∀ j : Fin n, j.val < x.val → j ∈ p := by
  have hl : p.length + 1 ≤ n := by have := h.length_le; simpa using this
  have hg : ∀ i (h1 : i < p.length + 1), (p ++ [x])[i]'(by simpa using h1) = ⟨i, by omega⟩ := fun i h1 => by
    have := h.getElem (i := i) (by simpa using h1)
    rw [this]; simp
  have hx : x.val = p.length := by
    have := hg p.length (by omega)
    rw [List.getElem_append_right (Nat.le_refl _)] at this
    simp at this; rw [this]
  intro j hj
  have h1 : j.val < p.length := by omega
  have := hg j.val (by omega)
  rw [List.getElem_append_left h1] at this
  rw [← show p[j.val] = j from this]; exact List.getElem_mem h1
theorem results_sb {fn : Func} {t u : Tmp} {S B : TypeId} (h : fn.results = #[.cell t S, .cell u B]) (hS : Tryz.prog.underlying S = some .string) (hB : Tryz.prog.underlying B = some .bool) (tmps : Array Value) (W : World) {a b : Nat} {v z : Value}
    (ht : tmps.getD t undef = .pointer (some ⟨a, 0, none⟩)) (hu : tmps.getD u undef = .pointer (some ⟨b, 0, none⟩)) (hc : W.cell? ⟨a, 0, none⟩ = some v) (hd : W.cell? ⟨b, 0, none⟩ = some z) : (results fn tmps).run Tryz.prog W = .ok (.tuple #[v, z]) W := by
  have ht' : tmps[t]?.getD undef = .pointer (some ⟨a, 0, none⟩) := by rw [← ht]; simp
  have hu' : tmps[u]?.getD undef = .pointer (some ⟨b, 0, none⟩) := by rw [← hu]; simp
  have h1 : ∀ w, Sem.run Tryz.prog (underlying S) w = .ok _ w := run_underlying hS
  have h2 : ∀ w, Sem.run Tryz.prog (underlying B) w = .ok _ w := run_underlying hB
  simp [results, h, ht', hu', loadVar, asAddr, go_sem, h1, h2, hc, hd, isAgg]
theorem results_ib {fn : Func} {t u : Tmp} {S B : TypeId} {k : IntKind} (h : fn.results = #[.cell t S, .cell u B]) (hS : Tryz.prog.underlying S = some (.int k)) (hB : Tryz.prog.underlying B = some .bool) (tmps : Array Value) (W : World) {a b : Nat} {v z : Value}
    (ht : tmps.getD t undef = .pointer (some ⟨a, 0, none⟩)) (hu : tmps.getD u undef = .pointer (some ⟨b, 0, none⟩)) (hc : W.cell? ⟨a, 0, none⟩ = some v) (hd : W.cell? ⟨b, 0, none⟩ = some z) : (results fn tmps).run Tryz.prog W = .ok (.tuple #[v, z]) W := by
  have ht' : tmps[t]?.getD undef = .pointer (some ⟨a, 0, none⟩) := by rw [← ht]; simp
  have hu' : tmps[u]?.getD undef = .pointer (some ⟨b, 0, none⟩) := by rw [← hu]; simp
  have h1 : ∀ w, Sem.run Tryz.prog (underlying S) w = .ok _ w := run_underlying hS
  have h2 : ∀ w, Sem.run Tryz.prog (underlying B) w = .ok _ w := run_underlying hB
  simp [results, h, ht', hu', loadVar, asAddr, go_sem, h1, h2, hc, hd, isAgg]
theorem rowOfT_at {t : Int} {x : Fin 9} {p : List (Fin 9)} (hp : (p ++ [x]) <+: List.finRange 9) (h : typeT x.val = t) (hn : ∀ j ∈ p, typeT j.val ≠ t) : rowOfT t = some x.val :=
  rowOfT_first x.isLt h (fun j hj => hn ⟨j, Nat.lt_trans hj x.isLt⟩ (fin_prefix hp ⟨j, Nat.lt_trans hj x.isLt⟩ hj))
theorem rowOfS_at {t : List UInt8} {x : Fin 9} {p : List (Fin 9)} (hp : (p ++ [x]) <+: List.finRange 9) (h : typeS x.val = t) (hn : ∀ j ∈ p, typeS j.val ≠ t) : rowOfS t = some x.val :=
  rowOfS_first x.isLt h (fun j hj => hn ⟨j, Nat.lt_trans hj x.isLt⟩ (fin_prefix hp ⟨j, Nat.lt_trans hj x.isLt⟩ hj))
def keyOfM (s : List UInt8) : Int × Bool := match rowOfS s with | some j => (typeT j, true) | none => (0, false)

section
attribute [local go_sem] Oper.semAt_some
set_option maxRecDepth 100000 in
set_option maxHeartbeats 4000000 in
theorem table_value (g : Nat) (t : Int) (w : World) (hN : NRow g w) :
    Calls Tryz.prog 81 #[.agg #[.slice (some ⟨g, 0, none⟩) 9 9], .int .i64 t] w fun e w' => e = .returned (.tuple #[.string ⟨(typeNameM t).toArray⟩, .bool (knownM t)]) ∧ Below w.heap.size w w' := by
  refine (callsIn_wide (n := 5)).1 ?_
  refine callsIn_of_wp_marks Tryz.func81 rfl trivial ?_ rfl
  simp only [Tryz.ntmps81, List.size_toArray, List.length_cons, List.length_nil, Nat.reduceAdd, Nat.reduceSub, Array.replicate_succ, Array.replicate_zero, List.push_toArray, List.append_toArray, List.nil_append, List.cons_append]
  gi_wp2_with (refine ⟨trivial, ?_⟩; gi_at_call 121; refine (callsIn_wide.2 (table_all _ _)).mono ?_; rintro e w' ⟨rfl, rfl⟩)
  obtain ⟨W0, hW0⟩ : ∃ W0, (((((w.alloc (.cells #[.slice (some ⟨g, 0, none⟩) 9 9] 111)).alloc (.cells #[.int .i64 t] 3)).alloc (.cells #[.string ⟨#[]⟩] 9)).alloc (.cells #[.bool false] 4)).alloc (.cells #[.slice (some ⟨g, 0, none⟩) 9 9] 111)) = W0 := ⟨_, rfl⟩
  have bK : Boxed W0 (w.heap.size + 1) 3 (.int .i64 t) := by
    have := Boxed.new (w.alloc (.cells #[.slice (some ⟨g, 0, none⟩) 9 9] 111)) 3 (.int .i64 t)
    rw [World.size_alloc] at this
    rw [← hW0]; exact ((this.alloc _).alloc _).alloc _
  have bR : Boxed W0 (w.heap.size + 1 + 1) 9 (.string ⟨#[]⟩) := by
    have := Boxed.new ((w.alloc (.cells #[.slice (some ⟨g, 0, none⟩) 9 9] 111)).alloc (.cells #[.int .i64 t] 3)) 9 (.string ⟨#[]⟩)
    rw [World.size_alloc, World.size_alloc] at this
    rw [← hW0]; exact (this.alloc _).alloc _
  have bF : Boxed W0 (w.heap.size + 1 + 1 + 1) 4 (.bool false) := by
    have := Boxed.new (((w.alloc (.cells #[.slice (some ⟨g, 0, none⟩) 9 9] 111)).alloc (.cells #[.int .i64 t] 3)).alloc (.cells #[.string ⟨#[]⟩] 9)) 4 (.bool false)
    rw [World.size_alloc, World.size_alloc, World.size_alloc] at this
    rw [← hW0]; exact this.alloc _
  have bT : Boxed W0 (w.heap.size + 1 + 1 + 1 + 1) 111 (.slice (some ⟨g, 0, none⟩) 9 9) := by
    have := Boxed.new ((((w.alloc (.cells #[.slice (some ⟨g, 0, none⟩) 9 9] 111)).alloc (.cells #[.int .i64 t] 3)).alloc (.cells #[.string ⟨#[]⟩] 9)).alloc (.cells #[.bool false] 4)) 111 (.slice (some ⟨g, 0, none⟩) 9 9)
    rw [World.size_alloc, World.size_alloc, World.size_alloc, World.size_alloc] at this
    rw [← hW0]; exact this
  have hsz : W0.heap.size = w.heap.size + 5 := by rw [← hW0]; simp
  have hB0 : Below w.heap.size w W0 := by rw [← hW0]; exact (((((Below.refl _ w).alloc (Nat.le_refl _) _).alloc (by simp) _).alloc (by simp; omega) _).alloc (by simp; omega) _).alloc (by simp; omega) _
  have hN0 := hN.below hB0
  have hgw := hN.1
  rw [hW0]
  have HZ := Lib.hid hsz; clear hsz hW0
  refine wpIn_rangeFunc_ownG rfl (by omega) (gf := 142) (lb := #[.pointer (some ⟨w.heap.size + 1 + 1 + 1 + 1, 0, none⟩)]) rfl trivial (enters_of Tryz.func142 (by kernel_rfl) rfl)
    (all_stops _ (by omega) (w.heap.size + 1 + 1 + 1 + 1) g W0 (by rw [HZ.out]; omega) bT.cell hN0) keepT_t (keepT_b (by rw [HZ.out]; omega) hN0.1) (Below.refl _ _) (fun _ => rfl)
    (fun pre W => Boxed W (w.heap.size + 1) 3 (.int .i64 t) ∧ Boxed W (w.heap.size + 1 + 1) 9 (.string ⟨#[]⟩) ∧ Boxed W (w.heap.size + 1 + 1 + 1) 4 (.bool false) ∧ Below w.heap.size w W ∧ ∀ j ∈ pre, typeT j.val ≠ t)
    (fun k pre W => k = .ret ∧ ∃ p x, pre = p ++ [x] ∧ Boxed W (w.heap.size + 1 + 1) 9 (strV (typeS x.val)) ∧ Boxed W (w.heap.size + 1 + 1 + 1) 4 (.bool true) ∧ Below w.heap.size w W ∧ typeT x.val = t ∧ ∀ j ∈ p, typeT j.val ≠ t)
    (OwnFrom.and (Own.from (boxed_own _ _ _) _) (OwnFrom.and (Own.from (boxed_own _ _ _) _) (OwnFrom.and (Own.from (boxed_own _ _ _) _) (OwnFrom.and (ownFrom_below (Nat.le_refl _) (by rw [HZ.out]; omega)) (ownFrom_pure _ _)))))
    ?hix
    ⟨bK, bR, bF, hB0, by simp⟩
    (fun j => { tmps := #[.agg #[.slice (some ⟨g, 0, none⟩) 9 9], .int .i64 t, .pointer (some ⟨w.heap.size, 0, none⟩), .pointer (some ⟨w.heap.size + 1, 0, none⟩), .pointer (some ⟨w.heap.size + 1 + 1, 0, none⟩), .pointer (some ⟨w.heap.size + 1 + 1 + 1, 0, none⟩), .int .i64 (typeT j.val), strV (typeS j.val), undef, .agg #[.slice (some ⟨g, 0, none⟩) 9 9], .func (.func 142) #[] #[.pointer (some ⟨w.heap.size + 1 + 1 + 1 + 1, 0, none⟩)], .int .i64 (typeT j.val), strV (typeS j.val), undef, undef, undef, undef, undef], defers := [] }) ?assign ?body ?done ?stop
  case hix =>
    intro k pre W W' row hs hg hr
    obtain ⟨h1, p, x, e, h2, h3, h4, h5, h6⟩ := hs
    have hO : ∀ {B : Nat} {t : TypeId} {v : Value}, Boxed W B t v → Boxed W' B t v := fun hb => Own.from (boxed_own _ _ (fun _ : Unit => _)) _ () W W' row hb hg hr
    exact ⟨h1, p, x, e, hO h2, hO h3, ownFrom_below (β := Unit) (Nat.le_refl _) (by rw [HZ.out]; omega) () W W' row h4 hg hr, h5, h6⟩
  case assign =>
    intro l x W K hK
    unfold rowV strV
    unfold strV at hK
    gi_wp2
    exact hK
  case body =>
    rintro l pre x W ⟨hK, hR, hF, hB, hC⟩ hlt
    have ck := hK.cell
    have cr := hR.cell; have fr := hR.frozen
    have cf := hF.cell; have ff := hF.frozen
    obtain ⟨sx, hsx, hsz, hsv⟩ := str_of (typeS x.val)
    obtain ⟨tx, htx⟩ : ∃ tx, typeT x.val = tx := ⟨_, rfl⟩
    rw [htx, hsv]
    have hxk : x.val < 9 := x.isLt
    by_cases he : (tx == t) = true
    · have hx : typeT x.val = t := by rw [htx]; simpa using he
      have HX := Lib.hid hx
      have HSV := Lib.hid hsv
      clear hsx hsz hsv htx hx
      gi_wp2
      refine ⟨((KeepsOthers.setCell _ _ _).trans (KeepsOthers.setCell _ _ _)).from _, rfl, pre, x, rfl, ?_, ?_, ?_, HX.out, hC⟩
      · rw [HSV.out]; exact (hR.set _).other (by omega) _
      · exact (hF.other (by omega) _).set _
      · exact (hB.setCell (p := ⟨w.heap.size + 1 + 1, 0, none⟩) (by simp; omega) _).setCell (p := ⟨w.heap.size + 1 + 1 + 1, 0, none⟩) (by simp; omega) _
    · have he0 : (tx == t) = false := by simpa using he
      have hx : typeT x.val ≠ t := by rw [htx]; simpa using he0
      have HX := Lib.hid hx
      clear hsx hsz hsv htx hx he
      gi_wp2
      refine ⟨(KeepsOthers.refl _).from _, KeepT.refl _ _ _, hK, hR, hF, hB, ?_⟩
      intro j hj
      rcases List.mem_append.1 hj with hj | hj
      · exact hC j hj
      · obtain rfl := List.mem_singleton.1 hj; exact HX.out
  case done =>
    rintro D ys W hD rfl ⟨hK, hR, hF, hB, hC⟩ hK2
    have cr := hR.cell; have fr := hR.frozen
    have cf := hF.cell; have ff := hF.frozen
    have hD1 : w.heap.size + 1 + 1 ≠ D := by have := HZ.out; omega
    have hD2 : w.heap.size + 1 + 1 + 1 ≠ D := by have := HZ.out; omega
    have hno : rowOfT t = none := rowOfT_never (fun j hj => hC ⟨j, hj⟩ (List.mem_finRange _))
    have HNO := Lib.hid hno; clear hno hC
    gi_wp2
    refine ⟨by simp, .inl ⟨_, _, rfl, run_takeDeferred (heap_setOther (heap_setOther hK2 hD1.symm _) hD2.symm _), ?_⟩⟩
    refine ⟨_, results_sb rfl Tryz.underlying9 Tryz.underlying4 _ _ rfl rfl (out_cell ((hR.set _).other (by omega) _) hD1 _) (out_cell ((hF.other (by omega) _).set _) hD2 _), ?_, ?_⟩
    · unfold typeNameM knownM; rw [HNO.out]; rfl
    · exact below_putO ((hB.setCell (p := ⟨w.heap.size + 1 + 1, 0, none⟩) (by simp; omega) _).setCell (p := ⟨w.heap.size + 1 + 1 + 1, 0, none⟩) (by simp; omega) _) (by have := HZ.out; omega) (Nat.le_refl _)
  case stop =>
    rintro D c pre W hD hp ⟨rfl, p, x, rfl, hR, hF, hB, hx, hC⟩ hK2
    have hD1 : w.heap.size + 1 + 1 ≠ D := by have := HZ.out; omega
    have hD2 : w.heap.size + 1 + 1 + 1 ≠ D := by have := HZ.out; omega
    have hsome : rowOfT t = some x.val := rowOfT_at hp hx hC
    have HS := Lib.hid hsome; clear hsome hC hx
    gi_wp2
    refine ⟨by simp, .inl ⟨_, _, rfl, run_takeDeferred hK2, ?_⟩⟩
    refine ⟨_, results_sb rfl Tryz.underlying9 Tryz.underlying4 _ _ rfl rfl (out_cell hR hD1 _) (out_cell hF hD2 _), ?_, ?_⟩
    · unfold typeNameM knownM; rw [HS.out]; rfl
    · exact below_putO hB (by have := HZ.out; omega) (Nat.le_refl _)

end
end Go.Proofs.YtfcdajldpnomfaaGreatDoor

/-
  The document's ParseType.
-/
namespace Go.Proofs.YtfcdajldpnomfaaGreatDoor
set_option maxRecDepth 20000
open Go.RowKit Go.Shelf

theorem take_type (s : List UInt8) : ((foldL s).take 4 = [116, 121, 112, 101]) ↔ ((greatL s).take 4 = [84, 89, 80, 69]) := by
  constructor
  · intro h
    have := congrArg greatL h
    rw [show greatL [116, 121, 112, 101] = [84, 89, 80, 69] by decide] at this
    rw [← this, ← greatL_fold s]; simp [greatL, List.map_take]
  · intro h
    have := congrArg foldL h
    rw [show foldL [84, 89, 80, 69] = [116, 121, 112, 101] by decide] at this
    rw [← this, ← foldL_great s]; simp [foldL, List.map_take]
theorem numM_er (l : List UInt8) (most : Nat) : (numM l most).2 = 0 ∨ (numM l most).2 = 2 ∨ (numM l most).2 = 7 := by
  unfold numM; split
  · split <;> simp
  · simp
/-- Behind the names: a number. -/
def endType (l : List UInt8) : Int × Int := if (numM l 65535).2 = 2 then (0, 6) else if (numM l 65535).2 ≠ 0 ∨ (numM l 65535).1 = 0 then (0, 7) else ((numM l 65535).1, 0)
theorem parseType_none {s : List UInt8} (h : rowOfS (greatL s) = none) : parseTypeM s = if (greatL s).take 4 = [84, 89, 80, 69] then endType (s.drop 4) else (0, 6) := by unfold parseTypeM endType; rw [h]
theorem parseType_some {s : List UInt8} {j : Nat} (h : rowOfS (greatL s) = some j) : parseTypeM s = (typeT j, 0) := by unfold parseTypeM; rw [h]
def ParseTPost (l : List UInt8) (w : World) (e : Ending) (w' : World) : Prop := e = .returned (.tuple #[.int .i64 (parseTypeM l).1, .int .i64 (parseTypeM l).2]) ∧ Below w.heap.size w w'
theorem ptype_fin {l : List UInt8} {w w' : World} {e : Ending} (v er : Int) (h : parseTypeM l = (v, er)) (he : e = .returned (.tuple #[.int .i64 v, .int .i64 er])) (hb : Below w.heap.size w w') : ParseTPost l w e w' := by
  unfold ParseTPost; rw [h]; exact ⟨he, hb⟩
theorem typeName_at (j : Nat) (hj : j < 9) : typeNameM (typeT j) = typeS j := by unfold typeNameM; rw [rowOfT_typeT j hj]

end Go.Proofs.YtfcdajldpnomfaaGreatDoor

