/-
  The document's labels, said a second time (package toponymref6): CheckLabel, Digit, order, FoldLabel, CompareLabel, special, escaped, LabelText: the same functions on octets.
-/
import Derived.Test.YtnpnfajgphpabaaMQ13
import Derived.Lib.ConvBytes
import Derived.Lib.IndexBytes
import Derived.Laws.Concat
import Derived.Test.YtnpnfajgphpabaaMQ30
import Derived.Test.YtnpnfajgphpabaaMQ39
import Derived.Test.YtnpnfajgphpabaaMQ43
namespace Go.Proofs.Ytnpnfajgphpabaa
set_option linter.unusedVariables false
set_option linter.unusedSimpArgs false
set_option maxRecDepth 20000
open Go.RowKit Go.Shelf

def orderM (a b : List UInt8) : Int := if Op.bytesLess a b then -1 else if a = b then 0 else 1

set_option maxHeartbeats 400000 in
theorem ref_order (a b : ByteArray) (w : World) :
    Calls Try.prog 39 #[.string a, .string b] w fun e w' => e = .returned (.int .i64 (orderM a.data.toList b.data.toList)) ∧ w = w' := by
  have hA := toList_data a
  have hB := toList_data b
  have HA := Lib.hid hA; have HB := Lib.hid hB; clear hA hB
  by_cases h1 : Op.bytesLess a.toList b.toList = true
  · have r : orderM a.data.toList b.data.toList = -1 := by unfold orderM; rw [← HA.out, ← HB.out, if_pos h1]
    have R := Lib.hid r; clear r
    go_enter Try.func39, Try.ntmps39
    go_wp2
    go_ret
    exact ⟨ret_int R.out.symm, rfl⟩
  · have h1f : Op.bytesLess a.toList b.toList = false := by simpa using h1
    by_cases h2 : (a.toList == b.toList) = true
    · have r : orderM a.data.toList b.data.toList = 0 := by unfold orderM; rw [← HA.out, ← HB.out, if_neg h1, if_pos (by simpa using h2)]
      have R := Lib.hid r; clear r h1
      go_enter Try.func39, Try.ntmps39
      go_wp2
      go_ret
      exact ⟨ret_int R.out.symm, rfl⟩
    · have h2f : (a.toList == b.toList) = false := by simpa using h2
      have r : orderM a.data.toList b.data.toList = 1 := by unfold orderM; rw [← HA.out, ← HB.out, if_neg h1, if_neg (by simpa using h2)]
      have R := Lib.hid r; clear r h1 h2
      go_enter Try.func39, Try.ntmps39
      go_wp2
      go_ret
      exact ⟨ret_int R.out.symm, rfl⟩

def memB (c : UInt8) (l : List UInt8) : Bool := decide (c ∈ l)

theorem special_is (c : UInt8) : memB c (⟨#[46, 92, 34, 40, 41, 59, 64, 36]⟩ : ByteArray).data.toList = specialU c := by
  unfold specialU memB
  congr 1
  apply propext
  simp only [List.mem_cons, List.not_mem_nil, or_false]
  have h : ∀ n : UInt8, c = n ↔ c.toNat = n.toNat := fun n => UInt8.toNat_inj.symm
  simp only [h]
  rfl

theorem esc_str (c : UInt8) : (⟨(octetEsc c).toArray⟩ : ByteArray) = ⟨#[92]⟩ ++ ⟨#[48 + c / 100, 48 + c / 10 % 10, 48 + c % 10]⟩ := by
  rw [ByteArray.mk_append_mk]; rfl

theorem foldAt (s : ByteArray) (k j : Nat) (hj : j < s.size) (x : UInt8) (hx : ((s.data.toList.take k).map smallU ++ s.data.toList.drop k)[j]? = some x) :
    (j < k → x = smallU s[j]) ∧ (k ≤ j → x = s[j]) := by
  have hl : s.data.toList.length = s.size := rfl
  have hg : s.data.toList[j]? = some s[j] := Lib.data_getElem? s j hj
  constructor
  · intro h
    rw [List.getElem?_append_left (by simp; omega), List.getElem?_map, List.getElem?_take, if_pos h, hg] at hx
    exact (Option.some.inj hx).symm
  · intro h
    by_cases hk : k ≤ s.size
    · rw [List.getElem?_append_right (by simp; omega), List.getElem?_drop] at hx
      have e : k + (j - ((s.data.toList.take k).map smallU).length) = j := by simp; omega
      rw [e, hg] at hx
      exact (Option.some.inj hx).symm
    · omega

/-- The row of bytes that FoldLabel turns, when k of them are folded. -/
def FoldRow (s : ByteArray) (g : Nat) (k : Nat) (W : World) : Prop :=
  ∀ j (hj : j < s.size), W.cell? ⟨g, j, none⟩ = some (bv (if j < k then smallU s[j] else s[j])) ∧ W.frozen? ⟨g, j, none⟩ = false

set_option maxHeartbeats 2000000 in
theorem ref_FoldLabel (s : ByteArray) (w : World) (hs : s.size ≤ 35184372088000) :
    Calls Try.prog 35 #[.string s] w fun e w' => e = .returned (.string ⟨(foldL s.data.toList).toArray⟩) ∧ Below w.heap.size w w' := by
  have hconv := Lib.run_convert_string_bytes (P := Try.prog) w 9 100 5 s Try.underlying9 Try.underlying100 Try.underlying5
  have hold := Lib.bytesWorld_at_old w 5 s
  have hsz := Lib.bytesWorld_size w 5 s
  have hcell := Lib.bytesWorld_cell w 5 s
  have hnew := Lib.bytesWorld_at_new w 5 s
  have hcs : s.size ≤ (Lib.bytesCells w 5 s).size := by unfold Lib.bytesCells; simp
  have hbel : Below w.heap.size w (Lib.bytesWorld w 5 s) := ⟨rfl, rfl, rfl, by rw [hsz]; omega, fun k hk => hold k hk⟩
  have hrow : FoldRow s w.heap.size 0 (Lib.bytesWorld w 5 s) := by
    intro j hj
    refine ⟨?_, ?_⟩
    · rw [hcell j hj, if_neg (by omega)]
      have : s.data.toList.getD j 0 = s[j] := by rw [List.getD_eq_getElem?_getD, Lib.data_getElem? s j hj]; rfl
      rw [this]; rfl
    · unfold World.frozen?
      rw [hnew]
      simp; omega
  generalize Lib.bytesWorld w 5 s = wc at *
  generalize grownCap w s.size 0 5 = cap at *
  clear hold hsz hcell hnew hcs
  go_enter Try.func35, Try.ntmps35
  go_wp2
  go_loopw [4] (fun i wr => ∃ k : Nat, i = .int .i64 k ∧ k ≤ s.size ∧ FoldRow s w.heap.size k wr ∧ Below w.heap.size w wr) (fun i _ => s.size - (intOf i).toNat)
  case atStart => exact ⟨0, rfl, Nat.zero_le _, hrow, hbel⟩
  case round =>
    obtain ⟨k, rfl, hk, hr, hb⟩ := hrel
    by_cases hlt : k < s.size
    · obtain ⟨hck, hfk⟩ := hr k hlt
      rw [if_neg (by omega)] at hck
      unfold bv at hck
      have hc255 : (s[k].toNat : Int) ≤ 255 := by have := s[k].toNat_lt; omega
      by_cases hup : 65 ≤ (s[k].toNat : Int) ∧ (s[k].toNat : Int) ≤ 90
      · obtain ⟨hu1, hu2⟩ := hup
        have hv : (s[k].toNat : Int) + 32 = ((smallU s[k]).toNat : Int) := by have := smallU_hi s[k] hu1 hu2; omega
        have hnext : FoldRow s w.heap.size (k + 1) (wr.setCell ⟨w.heap.size, k, none⟩ (.int .u8 ((s[k].toNat : Int) + 32))) := by
          intro j hj
          by_cases hjk : j = k
          · subst hjk
            refine ⟨?_, ?_⟩
            · rw [if_pos (by omega), World.cell?_setCell_same' _ _ _ (by rw [hck]; rfl), hv]; rfl
            · rw [World.frozen?_setCell]; exact hfk
          · refine ⟨?_, ?_⟩
            · have hne : (⟨w.heap.size, k, none⟩ : Addr) ≠ ⟨w.heap.size, j, none⟩ := by intro e; injection e with _ e2 _; omega
              rw [World.cell?_setCell_other (h := hne), (hr j hj).1]
              by_cases h1 : j < k
              · rw [if_pos h1, if_pos (by omega)]
              · rw [if_neg h1, if_neg (by omega)]
            · rw [World.frozen?_setCell]; exact (hr j hj).2
        have hb2 : Below w.heap.size w (wr.setCell ⟨w.heap.size, k, none⟩ (.int .u8 ((s[k].toNat : Int) + 32))) := hb.setCell (p := ⟨w.heap.size, k, none⟩) (Nat.le_refl _) _
        clear hv hr hb hrow hbel
        go_wp2
        go_roundw
        case rel => exact ⟨k + 1, by go_num, by omega, hnext, hb2⟩
        case measure => simp [intOf]; omega
      · have hnext : FoldRow s w.heap.size (k + 1) wr := by
          intro j hj
          refine ⟨?_, (hr j hj).2⟩
          rw [(hr j hj).1]
          by_cases h1 : j < k
          · rw [if_pos h1, if_pos (by omega)]
          · rw [if_neg h1]
            by_cases h2 : j = k
            · subst h2
              rw [if_pos (by omega)]
              have : smallU s[j] = s[j] := by unfold smallU; rw [if_neg (by omega)]
              rw [this]
            · rw [if_neg (by omega)]
        clear hr hrow hbel
        by_cases hu1 : 65 ≤ (s[k].toNat : Int)
        all_goals
          go_wp2
          try (exfalso; omega)
          try (go_roundw
               case rel => exact ⟨k + 1, by go_num, by omega, hnext, hb⟩
               case measure => simp [intOf]; omega)
    · obtain rfl : k = s.size := by omega
      have hback : (convert 100 9 (.slice (some ⟨w.heap.size, 0, none⟩) s.size cap)).run Try.prog wr = .ok (.string ⟨(foldL s.data.toList).toArray⟩) wr := by
        have h := run_convert_bytes_back wr 100 9 5 ⟨w.heap.size, 0, none⟩ cap (foldL s.data.toList) Try.underlying100 Try.underlying5 Try.underlying9 (fun j hj => by
          have hj2 : j < s.size := by simpa [foldL] using hj
          have e : ((⟨w.heap.size, 0, none⟩ : Addr).add j) = ⟨w.heap.size, j, none⟩ := by unfold Addr.add; by_cases hj : j = 0 <;> simp [hj]
          rw [e, (hr j hj2).1, if_pos hj2]
          have : (foldL s.data.toList)[j] = smallU s[j] := by simp [foldL]; rfl
          rw [this]; rfl)
        have hl : (foldL s.data.toList).length = s.size := by simp [foldL]
        rw [hl] at h; exact h
      clear hr hrow hbel
      go_wp2
      go_ret
      exact ⟨rfl, hb⟩

/-! ### order and the comparing of folded labels -/

theorem bytesLess_cons (x y : UInt8) (a b : List UInt8) : Op.bytesLess (x :: a) (y :: b) = (decide (x < y) || (x == y && Op.bytesLess a b)) := rfl

theorem order_compare : ∀ (a b : List UInt8), orderM (foldL a) (foldL b) = compareM a b
  | [], [] => rfl
  | [], _ :: _ => rfl
  | _ :: _, [] => rfl
  | x :: a, y :: b => by
    have ih := order_compare a b
    unfold orderM at ih ⊢
    simp only [foldL, List.map_cons, bytesLess_cons] at ih ⊢
    by_cases h : smallU x = smallU y
    · have h1 : ¬ smallU x < smallU y := by rw [h]; exact UInt8.lt_irrefl _
      simp only [compareM, h, if_true]
      rw [← ih]
      simp only [UInt8.lt_irrefl, decide_false, Bool.false_or, beq_self_eq_true, Bool.true_and, List.cons.injEq, true_and]
      congr
    · simp only [compareM, h, if_false, List.cons.injEq, false_and]
      unfold cmpI
      have hn : (smallU x).toNat ≠ (smallU y).toNat := fun e => h (UInt8.toNat_inj.1 e)
      by_cases hlt : smallU x < smallU y
      · have : ((smallU x).toNat : Int) < (smallU y).toNat := by rw [UInt8.lt_iff_toNat_lt] at hlt; omega
        simp [hlt, this]
      · have h2 : ¬ ((smallU x).toNat : Int) < (smallU y).toNat := by rw [UInt8.lt_iff_toNat_lt] at hlt; omega
        have h3 : ((smallU y).toNat : Int) < (smallU x).toNat := by omega
        have h4 : (smallU x == smallU y) = false := by simpa using h
        simp [hlt, h2, h3, h4]

set_option maxHeartbeats 1000000 in
theorem ref_CompareLabel (a b : ByteArray) (w : World) (ha : a.size ≤ 35184372088000) (hb : b.size ≤ 35184372088000) :
    Calls Try.prog 20 #[.string a, .string b] w fun e w' => e = .returned (.int .i64 (compareM a.data.toList b.data.toList)) ∧ Below w.heap.size w w' := by
  have r : orderM (foldL a.data.toList) (foldL b.data.toList) = compareM a.data.toList b.data.toList := order_compare _ _
  have R := Lib.hid r; clear r
  have hA := fun W => ref_FoldLabel a W ha
  have hB := fun W => ref_FoldLabel b W hb
  go_enter Try.func20, Try.ntmps20
  go_wp2_with fail
  refine (hA _).mono ?_
  rintro e w1 ⟨rfl, b1⟩
  go_wp2_with fail
  refine (hB _).mono ?_
  rintro e w2 ⟨rfl, b2⟩
  go_wp2_with fail
  refine (ref_order _ _ _).mono ?_
  rintro e w3 ⟨rfl, rfl⟩
  go_wp2_with fail
  go_ret
  exact ⟨ret_int R.out, b1.trans (b2.mono b1.size)⟩

/-! ### LabelText -/
theorem ba_ext {a b : ByteArray} (h : a.data.toList = b.data.toList) : a = b := by
  obtain ⟨⟨a⟩⟩ := a; obtain ⟨⟨b⟩⟩ := b; simp at h; rw [h]
theorem mk_append (a b : List UInt8) : (⟨a.toArray⟩ : ByteArray) ++ ⟨b.toArray⟩ = ⟨(a ++ b).toArray⟩ := by
  rw [ByteArray.mk_append_mk]
theorem extract_one (s : ByteArray) (k : Nat) (h : k < s.size) : s.extract k (k + 1) = ⟨#[s[k]]⟩ := by
  apply ba_ext
  have h1 : (s.extract k (k + 1)).data.toList = (s.data.toList.take (k + 1)).drop k := by simp [ByteArray.data_extract, List.drop_take]
  rw [h1, take_snoc_get s k h, List.drop_left' (by simp; omega)]

end Go.Proofs.Ytnpnfajgphpabaa

/-
  Plain facts on labels: the order, letters great and small, words and back.
-/
namespace Go.Proofs.Ytnpnfajgphpabaa
set_option linter.unusedVariables false
set_option linter.unusedSimpArgs false
set_option maxRecDepth 20000
open Go.RowKit Go.Shelf

theorem smallU_idem (c : UInt8) : smallU (smallU c) = smallU c := by
  unfold smallU
  by_cases h : 65 ≤ c.toNat ∧ c.toNat ≤ 90
  · rw [if_pos h, if_neg]
    rw [UInt8.toNat_add]; simp; omega
  · rw [if_neg h, if_neg h]
theorem cmpI_cases (a b : Int) : (cmpI a b = -1 ∧ a < b) ∨ (cmpI a b = 0 ∧ a = b) ∨ (cmpI a b = 1 ∧ b < a) := by
  unfold cmpI
  by_cases h : a < b
  · left; rw [if_pos h]; exact ⟨rfl, h⟩
  · by_cases h2 : b < a
    · right; right; rw [if_neg h, if_pos h2]; exact ⟨rfl, h2⟩
    · right; left; rw [if_neg h, if_neg h2]; exact ⟨rfl, by omega⟩
theorem compareM_range : ∀ a b : List UInt8, compareM a b = -1 ∨ compareM a b = 0 ∨ compareM a b = 1
  | [], [] => by simp [compareM]
  | [], _ :: _ => by simp [compareM]
  | _ :: _, [] => by simp [compareM]
  | x :: a, y :: b => by
    by_cases h : smallU x = smallU y
    · simp only [compareM, h, if_true]; exact compareM_range a b
    · simp only [compareM, h, if_false]; have := cmpI_cases (smallU x).toNat (smallU y).toNat; omega
theorem compareM_swap : ∀ a b : List UInt8, compareM b a = - compareM a b
  | [], [] => by simp [compareM]
  | [], _ :: _ => by simp [compareM]
  | _ :: _, [] => by simp [compareM]
  | x :: a, y :: b => by
    by_cases h : smallU x = smallU y
    · simp only [compareM, h, if_true]; exact compareM_swap a b
    · simp only [compareM, h, if_false, Ne.symm h]
      have h1 := cmpI_cases (smallU x).toNat (smallU y).toNat
      have h2 := cmpI_cases (smallU y).toNat (smallU x).toNat
      omega
theorem compareM_zero : ∀ a b : List UInt8, compareM a b = 0 ↔ foldL a = foldL b
  | [], [] => by simp [compareM, foldL]
  | [], _ :: _ => by simp [compareM, foldL]
  | _ :: _, [] => by simp [compareM, foldL]
  | x :: a, y :: b => by
    have ih := compareM_zero a b
    by_cases h : smallU x = smallU y
    · simp only [compareM, h, if_true, ih, foldL, List.map_cons, List.cons.injEq, true_and]
    · have hn : (smallU x).toNat ≠ (smallU y).toNat := fun e => h (UInt8.toNat_inj.1 e)
      have h1 := cmpI_cases (smallU x).toNat (smallU y).toNat
      simp only [compareM, h, if_false, foldL, List.map_cons, List.cons.injEq, false_and, iff_false]
      omega
theorem compareM_foldl : ∀ a b : List UInt8, compareM (foldL a) b = compareM a b
  | [], [] => rfl
  | [], _ :: _ => rfl
  | _ :: _, [] => rfl
  | x :: a, y :: b => by
    have ih := compareM_foldl a b
    simp only [foldL, List.map_cons, compareM, smallU_idem] at ih ⊢
    rw [ih]
theorem compareM_trans : ∀ a b c : List UInt8, compareM a b ≤ 0 → compareM b c ≤ 0 → compareM a c ≤ 0
  | [], _, [] => by simp [compareM]
  | [], _, _ :: _ => by simp [compareM]
  | _ :: _, [], _ => by simp [compareM]
  | _ :: _, _ :: _, [] => by intro _ h; simp [compareM] at h
  | x :: a, y :: b, z :: c => by
    intro h1 h2
    have c1 := cmpI_cases (smallU x).toNat (smallU y).toNat
    have c2 := cmpI_cases (smallU y).toNat (smallU z).toNat
    have c3 := cmpI_cases (smallU x).toNat (smallU z).toNat
    simp only [compareM] at h1 h2 ⊢
    by_cases e1 : smallU x = smallU y
    · rw [if_pos e1] at h1
      by_cases e2 : smallU y = smallU z
      · rw [if_pos e2] at h2
        rw [if_pos (e1.trans e2)]
        exact compareM_trans a b c h1 h2
      · rw [if_neg e2] at h2
        rw [if_neg (by rw [e1]; exact e2), e1]; exact h2
    · rw [if_neg e1] at h1
      have n1 : (smallU x).toNat ≠ (smallU y).toNat := fun e => e1 (UInt8.toNat_inj.1 e)
      by_cases e2 : smallU y = smallU z
      · rw [if_neg (by rw [← e2]; exact e1), ← e2]; exact h1
      · rw [if_neg e2] at h2
        have n2 : (smallU y).toNat ≠ (smallU z).toNat := fun e => e2 (UInt8.toNat_inj.1 e)
        by_cases e3 : smallU x = smallU z
        · rw [e3] at n1 c1 h1; omega
        · rw [if_neg e3]; omega
theorem sameM_eq (a b : List UInt8) : sameM a b = decide (compareM a b = 0) := by
  unfold sameM; congr 1; apply propext
  constructor
  · exact fun h => h.2
  · intro h
    have := congrArg List.length ((compareM_zero a b).1 h)
    simp only [foldL, List.length_map] at this
    exact ⟨this, h⟩
theorem sameM_fold (a : List UInt8) : sameM a (foldL a) = true := by
  rw [sameM_eq]; apply decide_eq_true
  rw [compareM_zero]; unfold foldL; simp [smallU_idem]

theorem textL_append (a b : List UInt8) : textL (a ++ b) = textL a ++ textL b := by simp [textL]
theorem textL_cons (c : UInt8) (b : List UInt8) : textL (c :: b) = octetW c ++ textL b := by simp [textL]
theorem octetW_ne (c : UInt8) : octetW c ≠ [] := by
  unfold octetW; split
  · simp
  · split <;> simp
theorem textL_nil_iff {l : List UInt8} (h : textL l = []) : l = [] := by
  cases l with
  | nil => rfl
  | cons c l => rw [textL_cons] at h; exact absurd (List.append_eq_nil_iff.1 h).1 (octetW_ne c)

/-- A byte of a text that is known as a list. -/
theorem byte_at (t : ByteArray) (l : List UInt8) (ht : t.data.toList = l) (k : Nat) (hk : k < t.size) (x : UInt8) (h : l[k]? = some x) : t[k] = x := by
  subst ht
  have := Lib.data_getElem? t k hk
  rw [h] at this; exact (Option.some.inj this).symm

/-- What the round at k finds: the head octet's words. -/
theorem safe_split (t : ByteArray) (l pre rest : List UInt8) (ht : t.data.toList = textL l) (hl : l = pre ++ rest) (hk : (textL pre).length < t.size) :
    ∃ c r, rest = c :: r ∧ l = (pre ++ [c]) ++ r ∧ (textL (pre ++ [c])).length = (textL pre).length + (octetW c).length ∧ (textL pre).length + (octetW c).length ≤ t.size ∧
      ∀ j x, (octetW c)[j]? = some x → ∀ h : (textL pre).length + j < t.size, t[(textL pre).length + j] = x := by
  have hsz : t.size = (textL l).length := by rw [← size_data, ht]
  cases rest with
  | nil => simp at hl; subst hl; omega
  | cons c r =>
    have e : textL l = textL pre ++ (octetW c ++ textL r) := by rw [hl, textL_append, textL_cons]
    refine ⟨c, r, rfl, by simp [hl], by rw [textL_snoc]; simp, ?_, ?_⟩
    · rw [hsz, e]; simp
    · intro j x hj h
      refine byte_at t _ ht _ h x ?_
      rw [e, List.getElem?_append_right (by omega), Nat.add_sub_cancel_left]
      have hlt : j < (octetW c).length := (List.getElem?_eq_some_iff.1 hj).1
      rw [List.getElem?_append_left hlt, hj]

theorem esc_first (c : UInt8) : (((48 + c / 100 : UInt8)).toNat : Int) = 48 + (c.toNat : Int) / 100 := by
  have := c.toNat_lt
  rw [UInt8.toNat_add, UInt8.toNat_div]
  simp only [UInt8.reduceToNat]
  omega
theorem u8_eqT {x : UInt8} {n : Nat} (h : x.toNat = n) : ((x.toNat : Int) == (n : Int)) = true := by rw [h]; simp
theorem u8_eqF {x : UInt8} {n : Nat} (h : x.toNat ≠ n) : ((x.toNat : Int) == (n : Int)) = false := by
  simp; omega

theorem readM_octetW (c : UInt8) (r : List UInt8) : readM (octetW c ++ r) = (c, (octetW c).length, 0) := by
  have hc := c.toNat_lt
  by_cases hsp : specialU c = true
  · have s1 : c.toNat = 46 ∨ c.toNat = 92 ∨ c.toNat = 34 ∨ c.toNat = 40 ∨ c.toNat = 41 ∨ c.toNat = 59 ∨ c.toNat = 64 ∨ c.toNat = 36 := of_decide_eq_true hsp
    have hd : digitU c = false := decide_eq_false (by omega)
    rw [octetW_special hsp]
    simp [readM, hd]
  · have hsp0 : specialU c = false := by simpa using hsp
    have s1 : ¬ (c.toNat = 46 ∨ c.toNat = 92 ∨ c.toNat = 34 ∨ c.toNat = 40 ∨ c.toNat = 41 ∨ c.toNat = 59 ∨ c.toNat = 64 ∨ c.toNat = 36) := of_decide_eq_false hsp0
    by_cases hpl : 33 ≤ (c.toNat : Int) ∧ (c.toNat : Int) ≤ 126
    · rw [octetW_plain hsp0 hpl.1 hpl.2]
      have e1 : c ≠ 46 := by intro e; subst e; simp at s1
      have e2 : c ≠ 92 := by intro e; subst e; simp at s1
      simp [readM, e1, e2]
    · rw [octetW_esc hsp0 (by omega)]
      have e1 : (48 + c / 100 : UInt8).toNat = 48 + c.toNat / 100 := by rw [UInt8.toNat_add, UInt8.toNat_div]; simp only [UInt8.reduceToNat]; omega
      have e2 : (48 + c / 10 % 10 : UInt8).toNat = 48 + c.toNat / 10 % 10 := by rw [UInt8.toNat_add, UInt8.toNat_mod, UInt8.toNat_div]; simp only [UInt8.reduceToNat]; omega
      have e3 : (48 + c % 10 : UInt8).toNat = 48 + c.toNat % 10 := by rw [UInt8.toNat_add, UInt8.toNat_mod]; simp only [UInt8.reduceToNat]; omega
      have d1 : digitU (48 + c / 100) = true := decide_eq_true (by omega)
      have d2 : digitU (48 + c / 10 % 10) = true := decide_eq_true (by omega)
      have d3 : digitU (48 + c % 10) = true := decide_eq_true (by omega)
      have hn : (48 + c.toNat / 100 - 48) * 100 + (48 + c.toNat / 10 % 10 - 48) * 10 + (48 + c.toNat % 10 - 48) = c.toNat := by omega
      simp only [octetEsc, List.cons_append, List.nil_append, readM, d1, d2, d3, e1, e2, e3, hn]
      rw [if_neg (by decide), if_neg (by decide), if_neg (by decide), if_pos ⟨trivial, trivial⟩, if_neg (by omega)]
      simp

theorem scan_text : ∀ l : List UInt8, scan (textL l) = (l, 0)
  | [] => rfl
  | c :: l => by
    have ih := scan_text l
    have hr := readM_octetW c (textL l)
    rw [textL_cons, scan_ok (by simp [octetW_ne]) (by rw [hr]), hr]
    simp only [List.drop_left', ih, join, if_true]
    rfl
theorem parse_text (l : List UInt8) : parseM (textL l) = (if checkLabelM l = 0 then (l, 0) else ([], checkLabelM l)) := by
  unfold parseM; rw [scan_text]; simp

theorem str_of (l : List UInt8) : ∃ s : ByteArray, s.data.toList = l ∧ s.size = l.length ∧ strV l = .string s := ⟨⟨l.toArray⟩, by simp, by show l.toArray.size = _; simp, rfl⟩
theorem mk_size (l : List UInt8) : (⟨l.toArray⟩ : ByteArray).size = l.length := by show l.toArray.size = _; simp
theorem check_ok {l : List UInt8} (h1 : l.length ≠ 0) (h2 : l.length ≤ 63) : checkLabelM l = 0 := by
  unfold checkLabelM; rw [if_neg (by intro e; simp [e] at h1), if_neg (by omega)]

end Go.Proofs.Ytnpnfajgphpabaa

/-
  Names as lists of labels: what the functions of package name answer, as plain functions on lists; facts on them.
-/
namespace Go.Proofs.Ytnpnfajgphpabaa
set_option linter.unusedVariables false
set_option linter.unusedSimpArgs false
set_option maxRecDepth 20000
open Go.RowKit Go.Shelf

abbrev Nm := List (List UInt8)
def lenN (n : Nm) : Nat := 1 + (n.map fun x => 1 + x.length).sum
def checkL : Nm → Int
  | [] => 0
  | x :: r => if checkLabelM x = 0 then checkL r else checkLabelM x
def checkN (n : Nm) : Int := if checkL n = 0 then (if 255 < lenN n then 3 else 0) else checkL n
def textN (n : Nm) : List UInt8 := if n = [] then [46] else n.flatMap fun x => textL x ++ [46]
def foldN (n : Nm) : Nm := n.map foldL
def sameN (a b : Nm) : Bool := decide (foldN a = foldN b)
def underN (n z : Nm) : Bool := decide (z.length ≤ n.length) && sameN (n.drop (n.length - z.length)) z
def cmpR : Nm → Nm → Int
  | [], [] => 0
  | [], _ :: _ => -1
  | _ :: _, [] => 1
  | x :: r, y :: t => if compareM x y = 0 then cmpR r t else compareM x y
def compareN (a b : Nm) : Int := cmpR a.reverse b.reverse
def sharedR : Nm → Nm → Nat
  | x :: r, y :: t => if compareM x y = 0 then sharedR r t + 1 else 0
  | _, _ => 0
def commonN (a b : Nm) : Nm := a.drop (a.length - sharedR a.reverse b.reverse)
def parentN (n : Nm) : Nm := n.drop 1
def swapN (n f t : Nm) : Nm × Int :=
  if underN n f then (if checkN (n.take (n.length - f.length) ++ t) = 0 then (n.take (n.length - f.length) ++ t, 0) else ([], 7)) else ([], 12)
def wildN (n : Nm) : Bool := decide (n.head? = some [42])

theorem checkLabelM_cases (l : List UInt8) : checkLabelM l = 0 ∨ checkLabelM l = 8 ∨ checkLabelM l = 3 := by
  unfold checkLabelM; split
  · exact .inr (.inl rfl)
  · split
    · exact .inr (.inr rfl)
    · exact .inl rfl
theorem lenN_cons (x : List UInt8) (n : Nm) : lenN (x :: n) = lenN n + 1 + x.length := by simp [lenN]; omega
theorem lenN_snoc (n : Nm) (x : List UInt8) : lenN (n ++ [x]) = lenN n + 1 + x.length := by simp [lenN]; omega
theorem lenN_append (a b : Nm) : lenN (a ++ b) + 1 = lenN a + lenN b := by simp [lenN]; omega
theorem checkL_append (a b : Nm) : checkL (a ++ b) = if checkL a = 0 then checkL b else checkL a := by
  induction a with
  | nil => simp [checkL]
  | cons x a ih =>
    simp only [List.cons_append, checkL]
    split
    · exact ih
    · rfl
theorem checkL_snoc (a : Nm) (x : List UInt8) : checkL (a ++ [x]) = if checkL a = 0 then checkLabelM x else checkL a := by
  rw [checkL_append]; simp only [checkL]
  split
  · split
    · rename_i h; exact h.symm
    · rfl
  · rfl
/-- The first label that may not be tells. -/
theorem checkL_stop {a p : Nm} (h : p <+: a) (hp : checkL p ≠ 0) : checkL a = checkL p := by
  obtain ⟨t, rfl⟩ := h; rw [checkL_append, if_neg hp]
theorem checkN_of_stop {a p : Nm} (h : p <+: a) (hp : checkL p ≠ 0) : checkN a = checkL p := by
  unfold checkN; rw [checkL_stop h hp, if_neg hp]

theorem foldN_len (n : Nm) : (foldN n).length = n.length := by simp [foldN]
theorem sameN_iff (a b : Nm) : sameN a b = true ↔ foldN a = foldN b := by simp [sameN]
theorem sameM_iff (a b : List UInt8) : sameM a b = true ↔ foldL a = foldL b := by
  rw [sameM_eq, decide_eq_true_iff]; exact compareM_zero a b
theorem sameN_len {a b : Nm} (h : a.length ≠ b.length) : sameN a b = false := by
  unfold sameN; apply decide_eq_false; intro e; have := congrArg List.length e; simp [foldN] at this; exact h this
theorem sameN_of_get {a b : Nm} (h : a.length = b.length) (hs : ∀ j (h1 : j < a.length) (h2 : j < b.length), sameM a[j] b[j] = true) : sameN a b = true := by
  rw [sameN_iff]
  apply List.ext_getElem (by simp [foldN, h])
  intro j h1 h2
  simp only [foldN, List.getElem_map]
  exact (sameM_iff _ _).1 (hs j (by simpa [foldN] using h1) (by simpa [foldN] using h2))
theorem sameN_not_get {a b : Nm} (j : Nat) (h1 : j < a.length) (h2 : j < b.length) (hs : sameM a[j] b[j] = false) : sameN a b = false := by
  cases h : sameN a b with
  | false => rfl
  | true =>
    rw [sameN_iff] at h
    have : foldL a[j] = foldL b[j] := by
      have h3 : (foldN a)[j]'(by simp [foldN, h1]) = (foldN b)[j]'(by simp [foldN, h2]) := by simp only [h]
      simpa [foldN] using h3
    rw [(sameM_iff _ _).2 this] at hs; cases hs
theorem sameN_refl (a : Nm) : sameN a a = true := (sameN_iff _ _).2 rfl
theorem sameN_symm (a b : Nm) : sameN a b = sameN b a := by unfold sameN; exact decide_eq_decide.2 ⟨Eq.symm, Eq.symm⟩
theorem sameN_trans {a b c : Nm} (h1 : sameN a b = true) (h2 : sameN b c = true) : sameN a c = true := (sameN_iff _ _).2 (((sameN_iff _ _).1 h1).trans ((sameN_iff _ _).1 h2))
theorem foldL_idem (l : List UInt8) : foldL (foldL l) = foldL l := by
  unfold foldL; rw [List.map_map]; apply List.map_congr_left; intro c _; exact smallU_idem c
theorem sameN_fold (a : Nm) : sameN a (foldN a) = true := by
  rw [sameN_iff]; unfold foldN; rw [List.map_map]; apply List.map_congr_left; intro l _; exact (foldL_idem l).symm

/-! ### the order -/
theorem cmpR_range : ∀ a b : Nm, cmpR a b = -1 ∨ cmpR a b = 0 ∨ cmpR a b = 1
  | [], [] => .inr (.inl rfl)
  | [], _ :: _ => .inl rfl
  | _ :: _, [] => .inr (.inr rfl)
  | x :: r, y :: t => by
    simp only [cmpR]; split
    · exact cmpR_range r t
    · exact compareM_range x y
theorem cmpR_swap : ∀ a b : Nm, cmpR b a = - cmpR a b
  | [], [] => rfl
  | [], _ :: _ => rfl
  | _ :: _, [] => rfl
  | x :: r, y :: t => by
    simp only [cmpR]
    have h := compareM_swap x y
    by_cases e : compareM x y = 0
    · rw [if_pos e, if_pos (by omega)]; exact cmpR_swap r t
    · rw [if_neg e, if_neg (by omega)]; exact h
theorem cmpR_zero : ∀ a b : Nm, cmpR a b = 0 ↔ foldN a = foldN b
  | [], [] => by simp [cmpR, foldN]
  | [], _ :: _ => by simp [cmpR, foldN]
  | _ :: _, [] => by simp [cmpR, foldN]
  | x :: r, y :: t => by
    have ih := cmpR_zero r t
    have h := compareM_zero x y
    simp only [cmpR, foldN, List.map_cons, List.cons.injEq] at ih ⊢
    by_cases e : compareM x y = 0
    · rw [if_pos e, ih]; exact ⟨fun q => ⟨h.1 e, q⟩, fun q => q.2⟩
    · rw [if_neg e]; exact ⟨fun q => absurd q e, fun q => absurd (h.2 q.1) e⟩
theorem compareM_zero_left {x y z : List UInt8} (h : compareM x y = 0) : compareM y z = compareM x z := by
  have e := (compareM_zero x y).1 h
  rw [← compareM_foldl x z, ← compareM_foldl y z, e]
theorem cmpR_trans : ∀ a b c : Nm, cmpR a b ≤ 0 → cmpR b c ≤ 0 → cmpR a c ≤ 0
  | [], _, [] => by intro _ _; simp [cmpR]
  | [], _, _ :: _ => by intro _ _; simp [cmpR]
  | _ :: _, [], _ => by intro h _; simp [cmpR] at h
  | _ :: _, _ :: _, [] => by intro _ h; simp [cmpR] at h
  | x :: r, y :: t, z :: u => by
    have ih := cmpR_trans r t u
    simp only [cmpR]
    intro h1 h2
    by_cases e1 : compareM x y = 0
    · rw [if_pos e1] at h1
      rw [← compareM_zero_left (z := z) e1]
      by_cases e2 : compareM y z = 0
      · rw [if_pos e2] at h2 ⊢; exact ih h1 h2
      · rw [if_neg e2] at h2 ⊢; exact h2
    · rw [if_neg e1] at h1
      by_cases e2 : compareM y z = 0
      · have e3 : compareM x z = compareM x y := by
          have s1 := compareM_swap x z; have s2 := compareM_swap x y
          have := compareM_zero_left (x := y) (y := z) (z := x) e2
          omega
        rw [e3, if_neg e1]; exact h1
      · rw [if_neg e2] at h2
        have h3 := compareM_trans x y z h1 h2
        by_cases e3 : compareM x z = 0
        · exfalso
          have s1 := compareM_swap x y
          have := compareM_zero_left (x := x) (y := z) (z := y) e3
          have s2 := compareM_swap y z
          have r1 := compareM_range x y; have r2 := compareM_range y z
          omega
        · rw [if_neg e3]; exact h3
theorem foldN_reverse (a : Nm) : foldN a.reverse = (foldN a).reverse := by simp [foldN]
theorem compareN_zero (a b : Nm) : compareN a b = 0 ↔ sameN a b = true := by
  unfold compareN; rw [cmpR_zero, foldN_reverse, foldN_reverse, sameN_iff]
  exact ⟨fun h => List.reverse_inj.1 h, fun h => by rw [h]⟩
theorem compareN_swap (a b : Nm) : compareN b a = - compareN a b := cmpR_swap _ _
theorem compareN_range (a b : Nm) : compareN a b = -1 ∨ compareN a b = 0 ∨ compareN a b = 1 := cmpR_range _ _
theorem compareN_trans (a b c : Nm) (h1 : compareN a b ≤ 0) (h2 : compareN b c ≤ 0) : compareN a c ≤ 0 := cmpR_trans _ _ _ h1 h2

/-! ### below -/
theorem underN_iff (n z : Nm) : underN n z = true ↔ ∃ p, foldN n = p ++ foldN z := by
  unfold underN
  simp only [Bool.and_eq_true, decide_eq_true_eq, sameN_iff]
  constructor
  · rintro ⟨h, e⟩
    refine ⟨(foldN n).take (n.length - z.length), ?_⟩
    rw [← e]; simp [foldN, List.map_drop]
  · rintro ⟨p, e⟩
    have hl : n.length = p.length + z.length := by have := congrArg List.length e; simpa [foldN] using this
    refine ⟨by omega, ?_⟩
    have : foldN (n.drop (n.length - z.length)) = (foldN n).drop (n.length - z.length) := by simp [foldN, List.map_drop]
    rw [this, e, show n.length - z.length = p.length by omega, List.drop_left]
theorem underN_trans {a b c : Nm} (h1 : underN a b = true) (h2 : underN b c = true) : underN a c = true := by
  rw [underN_iff] at *
  obtain ⟨p, e1⟩ := h1; obtain ⟨q, e2⟩ := h2
  exact ⟨p ++ q, by rw [e1, e2, List.append_assoc]⟩
theorem underN_nil (a : Nm) : underN a [] = true := (underN_iff _ _).2 ⟨foldN a, by simp [foldN]⟩
theorem cmpR_ahead : ∀ (a b p : Nm), foldN a = foldN b ++ p → 0 ≤ cmpR a b
  | [], [], _ => by intro _; simp [cmpR]
  | [], _ :: _, _ => by intro h; simp [foldN] at h
  | _ :: _, [], _ => by intro _; simp [cmpR]
  | x :: r, y :: t, p => by
    intro h
    simp only [foldN, List.map_cons, List.cons_append, List.cons.injEq] at h
    simp only [cmpR]
    rw [if_pos ((compareM_zero x y).2 h.1)]
    exact cmpR_ahead r t p h.2
theorem compareN_under {a b : Nm} (h : underN a b = true) : 0 ≤ compareN a b := by
  obtain ⟨p, e⟩ := (underN_iff _ _).1 h
  unfold compareN
  refine cmpR_ahead _ _ p.reverse ?_
  rw [foldN_reverse, e, foldN_reverse, List.reverse_append]
theorem underN_len {a b : Nm} (h : underN a b = true) : b.length ≤ a.length := by
  obtain ⟨p, e⟩ := (underN_iff _ _).1 h
  have := congrArg List.length e; simp [foldN] at this; omega

end Go.Proofs.Ytnpnfajgphpabaa

