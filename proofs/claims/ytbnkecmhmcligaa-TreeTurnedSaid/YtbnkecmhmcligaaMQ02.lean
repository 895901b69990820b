/-
  The document's labels, said a second time (package toponymref6): CheckLabel, Digit, order, FoldLabel, CompareLabel, special, escaped, LabelText: the same functions on octets.
-/
import Derived.Test.YtbnkecmhmcligaaMQ11
import Derived.Lib.ConvBytes
import Derived.Lib.IndexBytes
import Derived.Laws.Concat
namespace Go.Proofs.Ytbnkecmhmcligaa
set_option linter.unusedVariables false
set_option linter.unusedSimpArgs false
set_option maxRecDepth 20000
open Go.RowKit Go.Shelf

def orderM (a b : List UInt8) : Int := if Op.bytesLess a b then -1 else if a = b then 0 else 1

def memB (c : UInt8) (l : List UInt8) : Bool := decide (c ∈ l)

theorem special_is (c : UInt8) : memB c (⟨#[46, 92, 34, 40, 41, 59, 64, 36]⟩ : ByteArray).data.toList = specialU c := by
  unfold specialU memB
  congr 1
  apply propext
  simp only [List.mem_cons, List.not_mem_nil, or_false]
  have h : ∀ n : UInt8, c = n ↔ c.toNat = n.toNat := fun n => UInt8.toNat_inj.symm
  simp only [h]
  rfl

theorem esc_str (c : UInt8) : (⟨(octetEsc c).toArray⟩ : ByteArray) = ⟨#[92]⟩ ++ ⟨#[48 + c / 100, 48 + c / 10 % 10, 48 + c % 10]⟩ := by
  rw [ByteArray.mk_append_mk]; rfl

theorem foldAt (s : ByteArray) (k j : Nat) (hj : j < s.size) (x : UInt8) (hx : ((s.data.toList.take k).map smallU ++ s.data.toList.drop k)[j]? = some x) :
    (j < k → x = smallU s[j]) ∧ (k ≤ j → x = s[j]) := by
  have hl : s.data.toList.length = s.size := rfl
  have hg : s.data.toList[j]? = some s[j] := Lib.data_getElem? s j hj
  constructor
  · intro h
    rw [List.getElem?_append_left (by simp; omega), List.getElem?_map, List.getElem?_take, if_pos h, hg] at hx
    exact (Option.some.inj hx).symm
  · intro h
    by_cases hk : k ≤ s.size
    · rw [List.getElem?_append_right (by simp; omega), List.getElem?_drop] at hx
      have e : k + (j - ((s.data.toList.take k).map smallU).length) = j := by simp; omega
      rw [e, hg] at hx
      exact (Option.some.inj hx).symm
    · omega

/-- The row of bytes that FoldLabel turns, when k of them are folded. -/
def FoldRow (s : ByteArray) (g : Nat) (k : Nat) (W : World) : Prop :=
  ∀ j (hj : j < s.size), W.cell? ⟨g, j, none⟩ = some (bv (if j < k then smallU s[j] else s[j])) ∧ W.frozen? ⟨g, j, none⟩ = false

set_option maxHeartbeats 2000000 in
theorem ref_FoldLabel (s : ByteArray) (w : World) (hs : s.size ≤ 35184372088000) :
    Calls Try.prog 23 #[.string s] w fun e w' => e = .returned (.string ⟨(foldL s.data.toList).toArray⟩) ∧ Below w.heap.size w w' := by
  have hconv := Lib.run_convert_string_bytes (P := Try.prog) w 9 76 5 s Try.underlying9 Try.underlying76 Try.underlying5
  have hold := Lib.bytesWorld_at_old w 5 s
  have hsz := Lib.bytesWorld_size w 5 s
  have hcell := Lib.bytesWorld_cell w 5 s
  have hnew := Lib.bytesWorld_at_new w 5 s
  have hcs : s.size ≤ (Lib.bytesCells w 5 s).size := by unfold Lib.bytesCells; simp
  have hbel : Below w.heap.size w (Lib.bytesWorld w 5 s) := ⟨rfl, rfl, rfl, by rw [hsz]; omega, fun k hk => hold k hk⟩
  have hrow : FoldRow s w.heap.size 0 (Lib.bytesWorld w 5 s) := by
    intro j hj
    refine ⟨?_, ?_⟩
    · rw [hcell j hj, if_neg (by omega)]
      have : s.data.toList.getD j 0 = s[j] := by rw [List.getD_eq_getElem?_getD, Lib.data_getElem? s j hj]; rfl
      rw [this]; rfl
    · unfold World.frozen?
      rw [hnew]
      simp; omega
  generalize Lib.bytesWorld w 5 s = wc at *
  generalize grownCap w s.size 0 5 = cap at *
  clear hold hsz hcell hnew hcs
  go_enter Try.func23, Try.ntmps23
  go_wp2
  go_loopw [4] (fun i wr => ∃ k : Nat, i = .int .i64 k ∧ k ≤ s.size ∧ FoldRow s w.heap.size k wr ∧ Below w.heap.size w wr) (fun i _ => s.size - (intOf i).toNat)
  case atStart => exact ⟨0, rfl, Nat.zero_le _, hrow, hbel⟩
  case round =>
    obtain ⟨k, rfl, hk, hr, hb⟩ := hrel
    by_cases hlt : k < s.size
    · obtain ⟨hck, hfk⟩ := hr k hlt
      rw [if_neg (by omega)] at hck
      unfold bv at hck
      have hc255 : (s[k].toNat : Int) ≤ 255 := by have := s[k].toNat_lt; omega
      by_cases hup : 65 ≤ (s[k].toNat : Int) ∧ (s[k].toNat : Int) ≤ 90
      · obtain ⟨hu1, hu2⟩ := hup
        have hv : (s[k].toNat : Int) + 32 = ((smallU s[k]).toNat : Int) := by have := smallU_hi s[k] hu1 hu2; omega
        have hnext : FoldRow s w.heap.size (k + 1) (wr.setCell ⟨w.heap.size, k, none⟩ (.int .u8 ((s[k].toNat : Int) + 32))) := by
          intro j hj
          by_cases hjk : j = k
          · subst hjk
            refine ⟨?_, ?_⟩
            · rw [if_pos (by omega), World.cell?_setCell_same' _ _ _ (by rw [hck]; rfl), hv]; rfl
            · rw [World.frozen?_setCell]; exact hfk
          · refine ⟨?_, ?_⟩
            · have hne : (⟨w.heap.size, k, none⟩ : Addr) ≠ ⟨w.heap.size, j, none⟩ := by intro e; injection e with _ e2 _; omega
              rw [World.cell?_setCell_other (h := hne), (hr j hj).1]
              by_cases h1 : j < k
              · rw [if_pos h1, if_pos (by omega)]
              · rw [if_neg h1, if_neg (by omega)]
            · rw [World.frozen?_setCell]; exact (hr j hj).2
        have hb2 : Below w.heap.size w (wr.setCell ⟨w.heap.size, k, none⟩ (.int .u8 ((s[k].toNat : Int) + 32))) := hb.setCell (p := ⟨w.heap.size, k, none⟩) (Nat.le_refl _) _
        clear hv hr hb hrow hbel
        go_wp2
        go_roundw
        case rel => exact ⟨k + 1, by go_num, by omega, hnext, hb2⟩
        case measure => simp [intOf]; omega
      · have hnext : FoldRow s w.heap.size (k + 1) wr := by
          intro j hj
          refine ⟨?_, (hr j hj).2⟩
          rw [(hr j hj).1]
          by_cases h1 : j < k
          · rw [if_pos h1, if_pos (by omega)]
          · rw [if_neg h1]
            by_cases h2 : j = k
            · subst h2
              rw [if_pos (by omega)]
              have : smallU s[j] = s[j] := by unfold smallU; rw [if_neg (by omega)]
              rw [this]
            · rw [if_neg (by omega)]
        clear hr hrow hbel
        by_cases hu1 : 65 ≤ (s[k].toNat : Int)
        all_goals
          go_wp2
          try (exfalso; omega)
          try (go_roundw
               case rel => exact ⟨k + 1, by go_num, by omega, hnext, hb⟩
               case measure => simp [intOf]; omega)
    · obtain rfl : k = s.size := by omega
      have hback : (convert 76 9 (.slice (some ⟨w.heap.size, 0, none⟩) s.size cap)).run Try.prog wr = .ok (.string ⟨(foldL s.data.toList).toArray⟩) wr := by
        have h := run_convert_bytes_back wr 76 9 5 ⟨w.heap.size, 0, none⟩ cap (foldL s.data.toList) Try.underlying76 Try.underlying5 Try.underlying9 (fun j hj => by
          have hj2 : j < s.size := by simpa [foldL] using hj
          have e : ((⟨w.heap.size, 0, none⟩ : Addr).add j) = ⟨w.heap.size, j, none⟩ := by unfold Addr.add; by_cases hj : j = 0 <;> simp [hj]
          rw [e, (hr j hj2).1, if_pos hj2]
          have : (foldL s.data.toList)[j] = smallU s[j] := by simp [foldL]; rfl
          rw [this]; rfl)
        have hl : (foldL s.data.toList).length = s.size := by simp [foldL]
        rw [hl] at h; exact h
      clear hr hrow hbel
      go_wp2
      go_ret
      exact ⟨rfl, hb⟩

/-! ### order and the comparing of folded labels -/

theorem bytesLess_cons (x y : UInt8) (a b : List UInt8) : Op.bytesLess (x :: a) (y :: b) = (decide (x < y) || (x == y && Op.bytesLess a b)) := rfl

theorem order_compare : ∀ (a b : List UInt8), orderM (foldL a) (foldL b) = compareM a b
  | [], [] => rfl
  | [], _ :: _ => rfl
  | _ :: _, [] => rfl
  | x :: a, y :: b => by
    have ih := order_compare a b
    unfold orderM at ih ⊢
    simp only [foldL, List.map_cons, bytesLess_cons] at ih ⊢
    by_cases h : smallU x = smallU y
    · have h1 : ¬ smallU x < smallU y := by rw [h]; exact UInt8.lt_irrefl _
      simp only [compareM, h, if_true]
      rw [← ih]
      simp only [UInt8.lt_irrefl, decide_false, Bool.false_or, beq_self_eq_true, Bool.true_and, List.cons.injEq, true_and]
      congr
    · simp only [compareM, h, if_false, List.cons.injEq, false_and]
      unfold cmpI
      have hn : (smallU x).toNat ≠ (smallU y).toNat := fun e => h (UInt8.toNat_inj.1 e)
      by_cases hlt : smallU x < smallU y
      · have : ((smallU x).toNat : Int) < (smallU y).toNat := by rw [UInt8.lt_iff_toNat_lt] at hlt; omega
        simp [hlt, this]
      · have h2 : ¬ ((smallU x).toNat : Int) < (smallU y).toNat := by rw [UInt8.lt_iff_toNat_lt] at hlt; omega
        have h3 : ((smallU y).toNat : Int) < (smallU x).toNat := by omega
        have h4 : (smallU x == smallU y) = false := by simpa using h
        simp [hlt, h2, h3, h4]

/-! ### LabelText -/
theorem ba_ext {a b : ByteArray} (h : a.data.toList = b.data.toList) : a = b := by
  obtain ⟨⟨a⟩⟩ := a; obtain ⟨⟨b⟩⟩ := b; simp at h; rw [h]
theorem mk_append (a b : List UInt8) : (⟨a.toArray⟩ : ByteArray) ++ ⟨b.toArray⟩ = ⟨(a ++ b).toArray⟩ := by
  rw [ByteArray.mk_append_mk]
theorem extract_one (s : ByteArray) (k : Nat) (h : k < s.size) : s.extract k (k + 1) = ⟨#[s[k]]⟩ := by
  apply ba_ext
  have h1 : (s.extract k (k + 1)).data.toList = (s.data.toList.take (k + 1)).drop k := by simp [ByteArray.data_extract, List.drop_take]
  rw [h1, take_snoc_get s k h, List.drop_left' (by simp; omega)]

end Go.Proofs.Ytbnkecmhmcligaa

