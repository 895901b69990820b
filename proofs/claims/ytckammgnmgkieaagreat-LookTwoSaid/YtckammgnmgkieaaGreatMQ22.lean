/-
  The document's labels, said a second time (package toponymref6): CheckLabel, Digit, order, FoldLabel, CompareLabel, special, escaped, LabelText: the same functions on octets.
-/
import Derived.Test.YtckammgnmgkieaaGreatMQ32
import Derived.Lib.ConvBytes
import Derived.Lib.IndexBytes
import Derived.Laws.Concat
namespace Go.Proofs.YtckammgnmgkieaaGreat
set_option maxRecDepth 20000
open Go.RowKit Go.Shelf

set_option maxHeartbeats 400000 in
theorem ref_CheckLabel (s : ByteArray) (w : World) (hs : s.size ≤ maxLen) :
    Calls Tryz.prog 124 #[.string s] w fun e w' => e = .returned (.int .i64 (checkLabelM s.data.toList)) ∧ w = w' := by
  unfold maxLen at hs
  go_enter Tryz.func124, Tryz.ntmps124
  go_wp2
  all_goals go_ret
  all_goals refine ⟨ret_int ?_, rfl⟩
  · have := isEmpty_true (by assumption); show 8 = _; simp [checkLabelM, this]
  · have h1 := isEmpty_false (by assumption); have h2 : 63 < (s.size : Int) := by assumption
    have h3 : 63 < s.data.toList.length := by rw [show s.data.toList.length = s.size from rfl]; omega
    show 3 = _; rw [checkLabelM, if_neg h1, if_pos h3]
  · have h1 := isEmpty_false (by assumption); have h2 : (s.size : Int) ≤ 63 := by assumption
    have h3 : ¬ 63 < s.data.toList.length := by rw [show s.data.toList.length = s.size from rfl]; omega
    show 0 = _; rw [checkLabelM, if_neg h1, if_neg h3]

def orderM (a b : List UInt8) : Int := if Op.bytesLess a b then -1 else if a = b then 0 else 1

def FoldRow (s : ByteArray) (g : Nat) (k : Nat) (W : World) : Prop :=
  ∀ j (hj : j < s.size), W.cell? ⟨g, j, none⟩ = some (bv (if j < k then smallU s[j] else s[j])) ∧ W.frozen? ⟨g, j, none⟩ = false

set_option maxHeartbeats 2000000 in
theorem ref_FoldLabel (s : ByteArray) (w : World) (hs : s.size ≤ 35184372088000) :
    Calls Tryz.prog 105 #[.string s] w fun e w' => e = .returned (.string ⟨(foldL s.data.toList).toArray⟩) ∧ Below w.heap.size w w' := by
  have hconv := Lib.run_convert_string_bytes (P := Tryz.prog) w 9 99 5 s Tryz.underlying9 Tryz.underlying99 Tryz.underlying5
  have hold := Lib.bytesWorld_at_old w 5 s
  have hsz := Lib.bytesWorld_size w 5 s
  have hcell := Lib.bytesWorld_cell w 5 s
  have hnew := Lib.bytesWorld_at_new w 5 s
  have hcs : s.size ≤ (Lib.bytesCells w 5 s).size := by unfold Lib.bytesCells; simp
  have hbel : Below w.heap.size w (Lib.bytesWorld w 5 s) := ⟨rfl, rfl, rfl, by rw [hsz]; omega, fun k hk => hold k hk⟩
  have hrow : FoldRow s w.heap.size 0 (Lib.bytesWorld w 5 s) := by
    intro j hj
    refine ⟨?_, ?_⟩
    · rw [hcell j hj, if_neg (by omega)]
      have : s.data.toList.getD j 0 = s[j] := by rw [List.getD_eq_getElem?_getD, Lib.data_getElem? s j hj]; rfl
      rw [this]; rfl
    · unfold World.frozen?
      rw [hnew]
      simp; omega
  generalize Lib.bytesWorld w 5 s = wc at *
  generalize grownCap w s.size 0 5 = cap at *
  clear hold hsz hcell hnew hcs
  go_enter Tryz.func105, Tryz.ntmps105
  go_wp2
  go_loopw [4] (fun i wr => ∃ k : Nat, i = .int .i64 k ∧ k ≤ s.size ∧ FoldRow s w.heap.size k wr ∧ Below w.heap.size w wr) (fun i _ => s.size - (intOf i).toNat)
  case atStart => exact ⟨0, rfl, Nat.zero_le _, hrow, hbel⟩
  case round =>
    obtain ⟨k, rfl, hk, hr, hb⟩ := hrel
    by_cases hlt : k < s.size
    · obtain ⟨hck, hfk⟩ := hr k hlt
      rw [if_neg (by omega)] at hck
      unfold bv at hck
      have hc255 : (s[k].toNat : Int) ≤ 255 := by have := s[k].toNat_lt; omega
      by_cases hup : 65 ≤ (s[k].toNat : Int) ∧ (s[k].toNat : Int) ≤ 90
      · obtain ⟨hu1, hu2⟩ := hup
        have hv : (s[k].toNat : Int) + 32 = ((smallU s[k]).toNat : Int) := by have := smallU_hi s[k] hu1 hu2; omega
        have hnext : FoldRow s w.heap.size (k + 1) (wr.setCell ⟨w.heap.size, k, none⟩ (.int .u8 ((s[k].toNat : Int) + 32))) := by
          intro j hj
          by_cases hjk : j = k
          · subst hjk
            refine ⟨?_, ?_⟩
            · rw [if_pos (by omega), World.cell?_setCell_same' _ _ _ (by rw [hck]; rfl), hv]; rfl
            · rw [World.frozen?_setCell]; exact hfk
          · refine ⟨?_, ?_⟩
            · have hne : (⟨w.heap.size, k, none⟩ : Addr) ≠ ⟨w.heap.size, j, none⟩ := by intro e; injection e with _ e2 _; omega
              rw [World.cell?_setCell_other (h := hne), (hr j hj).1]
              by_cases h1 : j < k
              · rw [if_pos h1, if_pos (by omega)]
              · rw [if_neg h1, if_neg (by omega)]
            · rw [World.frozen?_setCell]; exact (hr j hj).2
        have hb2 : Below w.heap.size w (wr.setCell ⟨w.heap.size, k, none⟩ (.int .u8 ((s[k].toNat : Int) + 32))) := hb.setCell (p := ⟨w.heap.size, k, none⟩) (Nat.le_refl _) _
        clear hv hr hb hrow hbel
        go_wp2
        go_roundw
        case rel => exact ⟨k + 1, by go_num, by omega, hnext, hb2⟩
        case measure => simp [intOf]; omega
      · have hnext : FoldRow s w.heap.size (k + 1) wr := by
          intro j hj
          refine ⟨?_, (hr j hj).2⟩
          rw [(hr j hj).1]
          by_cases h1 : j < k
          · rw [if_pos h1, if_pos (by omega)]
          · rw [if_neg h1]
            by_cases h2 : j = k
            · subst h2
              rw [if_pos (by omega)]
              have : smallU s[j] = s[j] := by unfold smallU; rw [if_neg (by omega)]
              rw [this]
            · rw [if_neg (by omega)]
        clear hr hrow hbel
        by_cases hu1 : 65 ≤ (s[k].toNat : Int)
        all_goals
          go_wp2
          try (exfalso; omega)
          try (go_roundw
               case rel => exact ⟨k + 1, by go_num, by omega, hnext, hb⟩
               case measure => simp [intOf]; omega)
    · obtain rfl : k = s.size := by omega
      have hback : (convert 99 9 (.slice (some ⟨w.heap.size, 0, none⟩) s.size cap)).run Tryz.prog wr = .ok (.string ⟨(foldL s.data.toList).toArray⟩) wr := by
        have h := run_convert_bytes_back wr 99 9 5 ⟨w.heap.size, 0, none⟩ cap (foldL s.data.toList) Tryz.underlying99 Tryz.underlying5 Tryz.underlying9 (fun j hj => by
          have hj2 : j < s.size := by simpa [foldL] using hj
          have e : ((⟨w.heap.size, 0, none⟩ : Addr).add j) = ⟨w.heap.size, j, none⟩ := by unfold Addr.add; by_cases hj : j = 0 <;> simp [hj]
          rw [e, (hr j hj2).1, if_pos hj2]
          have : (foldL s.data.toList)[j] = smallU s[j] := by simp [foldL]; rfl
          rw [this]; rfl)
        have hl : (foldL s.data.toList).length = s.size := by simp [foldL]
        rw [hl] at h; exact h
      clear hr hrow hbel
      go_wp2
      go_ret
      exact ⟨rfl, hb⟩

theorem ba_ext {a b : ByteArray} (h : a.data.toList = b.data.toList) : a = b := by
  obtain ⟨⟨a⟩⟩ := a; obtain ⟨⟨b⟩⟩ := b; simp at h; rw [h]
end Go.Proofs.YtckammgnmgkieaaGreat

