/-
  rdata.quoted, rdata.readAddress.
-/
import Derived.Test.YtkjmghnbcnbdbaaGreatDoorMQ18
import Derived.Test.YtkjmghnbcnbdbaaGreatDoorMQ13
import Derived.Lib.AppendIntMem
import Derived.Lib.ItoaMem
import Derived.Test.YtkjmghnbcnbdbaaGreatDoorMQ23
import Derived.Test.YtkjmghnbcnbdbaaGreatDoorMQ22
import Derived.IntWalk
import Derived.Test.YtkjmghnbcnbdbaaGreatDoorMQ35
import Derived.Test.YtkjmghnbcnbdbaaGreatDoorMQ25
namespace Go.Proofs.YtkjmghnbcnbdbaaGreatDoor
open Go.RowKit Go.Shelf

/-! ### quoted -/
def quoteF (l : List UInt8) : List UInt8 := l.flatMap quoteW
theorem quoteF_snoc (l : List UInt8) (c : UInt8) : quoteF (l ++ [c]) = quoteF l ++ quoteW c := by simp [quoteF]
theorem quoteW_sign {c : UInt8} (h : ((c.toNat : Int) == 34) = true ∨ ((c.toNat : Int) == 92) = true) : quoteW c = [92, c] := by
  unfold quoteW
  rw [if_pos]
  rcases h with h | h
  · exact .inl (u8_is (n := 34) (by omega) h)
  · exact .inr (u8_is (n := 92) (by omega) h)
theorem quoteW_esc {c : UInt8} (h1 : ((c.toNat : Int) == 34) = false) (h2 : ((c.toNat : Int) == 92) = false) (h : (c.toNat : Int) < 32 ∨ 126 < (c.toNat : Int)) : quoteW c = octetEsc c := by
  have n1 : c ≠ 34 := u8_isnt (n := 34) (by omega) h1
  have n2 : c ≠ 92 := u8_isnt (n := 92) (by omega) h2
  unfold quoteW
  rw [if_neg (by rintro (h | h) <;> contradiction), if_pos (by omega)]
theorem quoteW_plain {c : UInt8} (h1 : ((c.toNat : Int) == 34) = false) (h2 : ((c.toNat : Int) == 92) = false) (h3 : 32 ≤ (c.toNat : Int)) (h4 : (c.toNat : Int) ≤ 126) : quoteW c = [c] := by
  have n1 : c ≠ 34 := u8_isnt (n := 34) (by omega) h1
  have n2 : c ≠ 92 := u8_isnt (n := 92) (by omega) h2
  unfold quoteW
  rw [if_neg (by rintro (h | h) <;> contradiction), if_neg (by omega)]
theorem quoteW_le (c : UInt8) : (quoteW c).length ≤ 4 := by
  unfold quoteW; split
  · simp
  · split <;> simp [octetEsc]
theorem quoteF_le (l : List UInt8) : (quoteF l).length ≤ 4 * l.length := by
  induction l with
  | nil => simp [quoteF]
  | cons c r ih => have := quoteW_le c; simp only [quoteF, List.flatMap_cons, List.length_append, List.length_cons] at ih ⊢; omega

theorem lit_u8 (w : World) (l : List UInt8) (h : l.length ≤ 140737488355328) : OwnG 5 bv (w.alloc (.cells (l.map bv).toArray 5)) w.heap.size (.slice (some ⟨w.heap.size, 0, none⟩) l.length l.length) l :=
  OwnG.lit (T := 5) (enc := bv) w w.heap.size (Nat.le_refl _) l (by unfold maxLen; omega)

set_option maxRecDepth 100000 in
set_option maxHeartbeats 4000000 in
theorem rdata_quoted (s : ByteArray) (w : World) (hs : s.size ≤ 1099511627776) :
    Calls Tryz.prog 68 #[.string s] w fun e w' => e = .returned (.string ⟨(quotedM s.data.toList).toArray⟩) ∧ Below w.heap.size w w' := by
  have hown0 := lit_u8 w [34] (by simp)
  have hB0 : Below w.heap.size w (w.alloc (.cells ([(34 : UInt8)].map bv).toArray 5)) := (Below.refl _ w).alloc (Nat.le_refl _) _
  have hq : quotedM s.data.toList = [34] ++ quoteF (s.data.toList.take s.size) ++ [34] := by rw [List.take_of_length_le (by rw [size_data]; exact Nat.le_refl _)]; simp [quotedM, quoteF]
  have HQ := Lib.hid hq; clear hq
  go_enter Tryz.func68, Tryz.ntmps68
  go_wp2_with fail
  go_loopw [3, 9] (fun v i wr => ∃ k : Nat, i = .int .i64 k ∧ k ≤ s.size ∧ OwnG 5 bv wr w.heap.size v ([34] ++ quoteF (s.data.toList.take k)) ∧ Below w.heap.size w wr) (fun _ i _ => s.size - (intOf i).toNat)
  case atStart => exact ⟨0, rfl, Nat.zero_le _, hown0, hB0⟩
  case round =>
    obtain ⟨k, rfl, hk, hown, hB⟩ := hrel
    have hBz := hB.size
    obtain ⟨av, cv, rfl⟩ := hown.shape
    generalize hdl : ([34] ++ quoteF (s.data.toList.take k)).length = dl at *
    have HDL := Lib.hid hdl; clear hdl
    have hql := quoteF_le (s.data.toList.take k)
    have htl : (s.data.toList.take k).length ≤ k := List.length_take_le _ _
    by_cases hlt : k < s.size
    · have hsn := take_snoc_get s k hlt
      have hcc : (s[k].toNat : Int) ≤ 255 := by have := s[k].toNat_lt; omega
      have hc0 : (0 : Int) ≤ (s[k].toNat : Int) := by omega
      have HSN := Lib.hid (show quoteF (s.data.toList.take (k + 1)) = quoteF (s.data.toList.take k) ++ quoteW s[k] by rw [hsn, quoteF_snoc])
      have hlen := Lib.hid (show ([34] ++ quoteF (s.data.toList.take k)).length ≤ 4398046511200 by simp; omega)
      clear hsn hql htl
      generalize quoteF (s.data.toList.take k) = xs at *
      have hesc := Lib.hid (esc_cells s[k])
      by_cases c1 : ((s[k].toNat : Int) == 34) = true ∨ ((s[k].toNat : Int) == 92) = true
      · have HW := Lib.hid (quoteW_sign c1)
        have c3 : ((s[k].toNat : Int) == 34) = true ∨ (((s[k].toNat : Int) == 34) = false ∧ ((s[k].toNat : Int) == 92) = true) := by
          cases h : ((s[k].toNat : Int) == 34) with
          | true => exact .inl rfl
          | false => rw [h] at c1; exact .inr ⟨rfl, by simpa using c1⟩
        clear c1
        rcases c3 with c1 | ⟨c1, c2⟩
        all_goals
          go_wp2_with (at_builtin; refine wpl_append_g wr rfl (.tmp 26) (.tmp 28) elemU8 rfl bv_one1 w.heap.size (.slice av dl cv) ([34] ++ xs) rfl hown [.int .u8 92, .int .u8 (s[k].toNat : Int)] [92, s[k]] rfl 2 2 rfl rfl hBz (by have := hlen.out; unfold maxLen; simp at this ⊢; omega) (by have := hlen.out; simp at this ⊢; omega) ?_; intro v2 w2 hown2 hg2; have hB2 := hB.grown hg2 hBz hown.base_le)
          go_roundw
          case rel => exact ⟨k + 1, by go_num, by omega, by rw [HSN.out, HW.out, ← List.append_assoc]; exact hown2, hB2⟩
          case measure => simp [intOf]; omega
      · have c2 : ((s[k].toNat : Int) == 34) = false := by
          cases h : ((s[k].toNat : Int) == 34) with
          | true => exact absurd (.inl h) c1
          | false => rfl
        have c3 : ((s[k].toNat : Int) == 92) = false := by
          cases h : ((s[k].toNat : Int) == 92) with
          | true => exact absurd (.inr h) c1
          | false => rfl
        clear c1
        by_cases c4 : (s[k].toNat : Int) < 32 ∨ 126 < (s[k].toNat : Int)
        · have HW := Lib.hid (quoteW_esc c2 c3 c4)
          have c5 : (s[k].toNat : Int) < 32 ∨ (¬ (s[k].toNat : Int) < 32 ∧ 126 < (s[k].toNat : Int)) := by omega
          clear c4
          rcases c5 with c4 | ⟨c4, c5⟩
          all_goals
            go_wp2_with (at_builtin; refine wpl_append_g wr rfl (.tmp 37) (.tmp 48) elemU8 rfl bv_one1 w.heap.size (.slice av dl cv) ([34] ++ xs) rfl hown _ (octetEsc s[k]) hesc.out 4 4 rfl rfl hBz (by have := hlen.out; unfold maxLen; simp [octetEsc] at this ⊢; omega) (by have := hlen.out; simp [octetEsc] at this ⊢; omega) ?_; intro v2 w2 hown2 hg2; have hB2 := hB.grown hg2 hBz hown.base_le)
            go_roundw
            case rel => exact ⟨k + 1, by go_num, by omega, by rw [HSN.out, HW.out, ← List.append_assoc]; exact hown2, hB2⟩
            case measure => simp [intOf]; omega
        · have c5 : ¬ (s[k].toNat : Int) < 32 := by omega
          have c6 : ¬ 126 < (s[k].toNat : Int) := by omega
          have HW := Lib.hid (quoteW_plain c2 c3 (by omega) (by omega))
          clear c4
          go_wp2_with (at_builtin; refine wpl_append_g wr rfl (.tmp 15) (.tmp 17) elemU8 rfl bv_one1 w.heap.size (.slice av dl cv) ([34] ++ xs) rfl hown [.int .u8 (s[k].toNat : Int)] [s[k]] rfl 1 1 rfl rfl hBz (by have := hlen.out; unfold maxLen; simp at this ⊢; omega) (by have := hlen.out; simp at this ⊢; omega) ?_; intro v2 w2 hown2 hg2; have hB2 := hB.grown hg2 hBz hown.base_le)
          go_roundw
          case rel => exact ⟨k + 1, by go_num, by omega, by rw [HSN.out, HW.out, ← List.append_assoc]; exact hown2, hB2⟩
          case measure => simp [intOf]; omega
    · obtain rfl : k = s.size := by omega
      have hlen := Lib.hid (show ([34] ++ quoteF (s.data.toList.take s.size)).length ≤ 4398046511200 by simp at hql htl ⊢; omega)
      clear hql htl
      generalize quoteF (s.data.toList.take s.size) = xs at *
      go_wp2_with (at_builtin; refine wpl_append_g wr rfl (.tmp 51) (.tmp 52) elemU8 rfl bv_one1 w.heap.size (.slice av dl cv) ([34] ++ xs) rfl hown [.int .u8 34] [34] rfl 1 1 rfl rfl hBz (by have := hlen.out; unfold maxLen; simp at this ⊢; omega) (by have := hlen.out; simp at this ⊢; omega) ?_; intro v2 w2 hown2 hg2; have hB2 := hB.grown hg2 hBz hown.base_le; have hcv := OwnU8.string hown2)
      go_ret
      exact ⟨by rw [HQ.out]; rfl, hB2⟩
end Go.Proofs.YtkjmghnbcnbdbaaGreatDoor

/-
  The library's FormatUint at base 10.
-/
namespace Go.Proofs.YtkjmghnbcnbdbaaGreatDoor
open Go.RowKit Go.Shelf Go.Sort

set_option maxRecDepth 100000 in
set_option maxHeartbeats 8000000 in
theorem istrconv_FormatUint10 (u : Nat) (hu64 : u < 18446744073709551616) (w : World) (hT : Tab w) :
    Calls Tryz.prog 92 #[.int .u64 u, .int .i64 10] w fun e w' => e = .returned (.string ⟨(Lib.decDigits u).toArray⟩) ∧ Below w.heap.size w w' := by
  have hu0 : (0 : Int) ≤ (u : Int) := by omega
  by_cases hs : (u : Int) < 100
  · go_enter Tryz.func92, Tryz.ntmps92
    go_wp2_with (go_at_call 115; refine (Tryz.internal_strconv_small u (by omega) _).mono ?_; rintro e w2 ⟨rfl, rfl⟩)
    go_ret
    exact ⟨rfl, Below.refl _ _⟩
  · have hu1 : 1 ≤ u := by omega
    have hnd20 : Lib.nDigits u ≤ 20 := by have := Lib.numDigits_eq u hu1 hu64; split at this <;> omega
    have hal : Tryz.prog.arrayLen 152 = 24 := by simp [Program.arrayLen, Tryz.underlying152]
    have hsl1 : ∀ W, (Instr.sliceAt 152 (.pointer (some ⟨w.heap.size, 0, none⟩)) none (some (.int .i64 (Lib.nDigits u : Int))) none).run Tryz.prog W = .ok (.slice (some ⟨w.heap.size, 0, none⟩) (Lib.nDigits u) 24) W := fun W => by
      rw [run_sliceAt_array_h W 152 ⟨w.heap.size, 0, none⟩ (by simp [Program.arrayLen, Program.elem, Tryz.underlying152]) .i64 (Lib.nDigits u : Int) (by omega) (by rw [hal]; omega)]
      go_simp
      try omega
    have hH0 := Lib.holds_zero0 w 152 (Lib.nDigits u) (by omega)
    have hfmt := Tryz.internal_strconv_formatBase10 w.heap.size 0 24 u (Array.replicate (Lib.nDigits u) 0) (w.alloc (.cells Lib.zeros24 152)) hH0 (by rw [Array.size_replicate]; exact Lib.lt_pow_nDigits u) hu64 (by rw [Array.size_replicate]; omega)
    rw [Array.size_replicate] at hfmt
    have HH0 := Lib.hid hH0
    have htab : Tab (w.alloc (.cells Lib.zeros24 152)) := hT.below ((Below.refl _ w).alloc (Nat.le_refl _) _)
    clear hH0 hal
    go_enter Tryz.func92, Tryz.ntmps92
    go_wp2_with (go_at_call 116; refine (Tryz.internal_strconv_numDigits u hu1 hu64 _ htab).mono ?_; rintro e w2 ⟨rfl, rfl⟩)
    go_at_call 117
    refine hfmt.mono ?_
    rintro e w' ⟨rfl, k, v', dk, rfl, hF⟩
    have hcv : (convert 25 9 (.slice (some ⟨w.heap.size, 0, none⟩) (Lib.nDigits u) 24)).run Tryz.prog ((putRow (fun (b : UInt8) => Value.int .u8 (b.toNat : Int)) (w.alloc (.cells Lib.zeros24 152)) w.heap.size 0 dk).drewN k) = .ok (.string ⟨(Lib.decDigits u).toArray⟩) ((putRow (fun (b : UInt8) => Value.int .u8 (b.toNat : Int)) (w.alloc (.cells Lib.zeros24 152)) w.heap.size 0 dk).drewN k) := by
      have h := run_convert_bytes_back (P := Tryz.prog) ((putRow (fun (b : UInt8) => Value.int .u8 (b.toNat : Int)) (w.alloc (.cells Lib.zeros24 152)) w.heap.size 0 dk).drewN k) 25 9 5 ⟨w.heap.size, 0, none⟩ 24 (Lib.decDigits u) Tryz.underlying25 Tryz.underlying5 Tryz.underlying9 (fun j hj => by
        rw [Lib.row_is_numeral hF j hj, Lib.add_plain, World.cell?_drewN]
        exact cell?_putRow (fun (b : UInt8) => Value.int .u8 (b.toNat : Int)) _ w.heap.size 0 _ dk HH0.out (by rw [hF.size, Array.size_replicate]) j (by rw [hF.size]; rw [Lib.decDigits_length] at hj; exact hj))
      rw [Lib.decDigits_length] at h
      exact h
    go_wp2
    go_ret
    obtain ⟨os, eo⟩ := Lib.fin_at w (.cells Lib.zeros24 152) dk k 0
    refine ⟨rfl, ?_⟩
    rw [eo]
    exact Lib.below_grow _ w (Nat.le_refl _) k os

set_option maxHeartbeats 2000000 in
theorem strconv_FormatUint10 (u : Nat) (hu64 : u < 18446744073709551616) (w : World) (hT : Tab w) :
    Calls Tryz.prog 63 #[.int .u64 u, .int .i64 10] w fun e w' => e = .returned (.string ⟨(Lib.decDigits u).toArray⟩) ∧ Below w.heap.size w w' := by
  have h := istrconv_FormatUint10 u hu64 w hT
  go_enter Tryz.func63, Tryz.ntmps63
  go_wp2_with (go_at_call 92; refine h.mono ?_; rintro e w2 ⟨rfl, hb⟩)
  go_ret
  exact ⟨rfl, hb⟩
end Go.Proofs.YtkjmghnbcnbdbaaGreatDoor

/-
  The document's names (package toponymref6): Under, Common.
-/
namespace Go.Proofs.YtkjmghnbcnbdbaaGreatDoor
set_option maxRecDepth 20000
open Go.RowKit Go.Shelf

theorem strs_cap {W : World} {a : Option Addr} {n c c' : Nat} {xs : Nm} (h : StrsAt W (.slice a n c) xs) : StrsAt W (.slice a n c') xs := by
  obtain ⟨a1, c1, e, hx⟩ := h
  cases e
  exact ⟨_, _, rfl, hx⟩
/-- What is left of a slice from d on, as the walk has it. -/
theorem nm_drop {W : World} {a : Option Addr} {c d : Nat} {xs : Nm} (h : NmAt W (.slice a xs.length c) xs) (hd : d ≤ xs.length) :
    (a = none ∧ xs = [] ∧ d = 0 ∧ c = 0) ∨ (∃ ad, a = some ad ∧ xs = [] ∧ d = 0) ∨ ∃ g off, a = some ⟨g, off, none⟩ ∧ NmAt W (.slice (if c = d then some ⟨g, off, none⟩ else some ⟨g, off + d, none⟩) (xs.length - d) (c - d)) (xs.drop d) := by
  obtain ⟨hA, a', n', c', e, hcap, hno⟩ := h
  cases e
  cases a with
  | none =>
    have h0 := hno rfl
    subst h0
    have hx : xs = [] := List.eq_nil_of_length_eq_zero (by omega)
    subst hx
    exact .inl ⟨rfl, rfl, by simpa using hd, rfl⟩
  | some ad =>
    by_cases hx : xs = []
    · subst hx; exact .inr (.inl ⟨ad, rfl, rfl, by simpa using hd⟩)
    · right; right
      obtain ⟨a1, c1, e1, h1⟩ := id hA
      cases e1
      rcases h1 with e | ⟨g, off, e, hg, hc⟩
      · exact absurd e hx
      · cases e
        exact ⟨g, off, rfl, strs_drop hA hcap d hd _, drop_ok hcap⟩

theorem common_first {xs ys : Nm} {k : Nat} (hk : k ≤ xs.length) (h : underN ys (xs.drop k) = true) (hn : ∀ j, j < k → underN ys (xs.drop j) = false) : commonN xs ys = xs.drop k := by
  have hl := sharedR_le xs.reverse ys.reverse
  simp only [List.length_reverse] at hl
  have h1 := common_deepest xs ys (xs.length - k) (by omega) (by rw [show xs.length - (xs.length - k) = k by omega]; exact h)
  rw [common_len] at h1
  have h2 := common_under_b xs ys
  unfold commonN at h2 ⊢
  by_cases hlt : xs.length - sharedR xs.reverse ys.reverse < k
  · rw [hn _ hlt] at h2; cases h2
  · congr 1; omega
def CommonPost (xs ys : Nm) (w : World) (e : Ending) (w' : World) : Prop := ∃ v', e = .returned v' ∧ NmAt w' v' (commonN xs ys) ∧ Below w.heap.size w w'

end Go.Proofs.YtkjmghnbcnbdbaaGreatDoor

/-
  The document's names (package toponymref6): Compare.
-/
namespace Go.Proofs.YtkjmghnbcnbdbaaGreatDoor
set_option maxRecDepth 20000
open Go.RowKit Go.Shelf

theorem rev_cons {xs : Nm} {k p : Nat} (h : xs.length = p + k + 1) (hp : p < xs.length) : xs.reverse.drop k = xs[p] :: xs.reverse.drop (k + 1) := by
  rw [List.drop_eq_getElem_cons (by simp; omega)]
  congr 1
  simp only [List.getElem_reverse]
  congr 1; omega
theorem cmpR_end (p q : Nm) (h : p = [] ∨ q = []) : cmpR p q = cmpI ((p.length : Int) - q.length) 0 := by
  cases p with
  | nil =>
    cases q with
    | nil => rfl
    | cons y t => simp only [cmpR]; unfold cmpI; rw [if_pos (by simp only [List.length_nil, List.length_cons]; omega)]
  | cons x r =>
    cases q with
    | nil => simp only [cmpR]; unfold cmpI; rw [if_neg (by simp only [List.length_nil, List.length_cons]; omega), if_pos (by simp only [List.length_nil, List.length_cons]; omega)]
    | cons y t => rcases h with h | h <;> cases h

set_option maxHeartbeats 8000000 in
theorem ref_Compare (v u : Value) (xs ys : Nm) (w : World) (hA : StrsAt w v xs) (hU : StrsAt w u ys) (hk : NmOK xs) (hk2 : NmOK ys) :
    Calls Tryz.prog 40 #[v, u] w fun e w' => e = .returned (.int .i64 (compareN xs ys)) ∧ Below w.heap.size w w' := by
  obtain ⟨a, c, rfl, _⟩ := id hA
  obtain ⟨a2, c2, rfl, _⟩ := id hU
  have hm := hk.1
  have hm2 := hk2.1
  have hcell := fun W' (hb : Below w.heap.size w W') j hj => hA.cell hb j hj
  have hcell2 := fun W' (hb : Below w.heap.size w W') j hj => hU.cell hb j hj
  have hSg := fun (d : Int) W => ref_sign d W
  have hE := Lib.hid (show compareN xs ys = cmpR (xs.reverse.drop 0) (ys.reverse.drop 0) from rfl)
  generalize compareN xs ys = r at *
  obtain ⟨n, hn⟩ : ∃ n, xs.length = n := ⟨_, rfl⟩
  obtain ⟨m, hn2⟩ : ∃ m, ys.length = m := ⟨_, rfl⟩
  rw [hn] at hm ⊢
  rw [hn2] at hm2 ⊢
  have HN := Lib.hid hn; have HN2 := Lib.hid hn2
  clear hA hU hn hn2
  go_enter Tryz.func40, Tryz.ntmps40
  go_wp2
  go_loopw [5] (fun i wr => ∃ k : Nat, i = .int .i64 ((k : Int) + 1) ∧ k ≤ n ∧ k ≤ m ∧ Hid (r = cmpR (xs.reverse.drop k) (ys.reverse.drop k)) ∧ Below w.heap.size w wr) (fun i _ => n + 1 - (intOf i).toNat)
  case atStart => exact ⟨0, rfl, Nat.zero_le _, Nat.zero_le _, hE, Below.refl _ _⟩
  case round =>
    obtain ⟨k, rfl, hkn, hkm, HC, hB⟩ := hrel
    by_cases hlt : k < n ∧ k < m
    · obtain ⟨h1, h2⟩ := hlt
      obtain ⟨p, hp⟩ : ∃ p, n = p + k + 1 := ⟨n - k - 1, by omega⟩
      obtain ⟨q, hq⟩ : ∃ q, m = q + k + 1 := ⟨m - k - 1, by omega⟩
      have hkp : p < xs.length := by rw [HN.out]; omega
      have hkq : q < ys.length := by rw [HN2.out]; omega
      obtain ⟨g, off, rfl, hg, hc⟩ := hcell wr hB p hkp
      obtain ⟨g2, off2, rfl, hg2, hc2⟩ := hcell2 wr hB q hkq
      obtain ⟨s, hs0, hsz, hsv⟩ := str_of xs[p]
      obtain ⟨t, ht0, htz, htv⟩ := str_of ys[q]
      rw [hsv] at hc
      rw [htv] at hc2
      have hs1 := hk.get p hkp
      have ht1 := hk2.get q hkq
      have hF := fun W => ref_CompareLabel s t W (by omega) (by omega)
      have hBz := hB.size
      have hS0 : wr.cell? ⟨g, off + p, none⟩ = some (.string s) ∧ wr.cell? ⟨g2, off2 + q, none⟩ = some (.string t) ∧ Below w.heap.size w wr := ⟨hc, hc2, hB⟩
      have hr : Hid (r = if compareM xs[p] ys[q] = 0 then cmpR (xs.reverse.drop (k + 1)) (ys.reverse.drop (k + 1)) else compareM xs[p] ys[q]) := Lib.hid (by
        rw [HC.out, rev_cons (p := p) (by rw [HN.out]; exact hp) hkp, rev_cons (p := q) (by rw [HN2.out]; exact hq) hkq]; rfl)
      rw [hs0, ht0] at hF
      clear hs0 hsz hsv ht0 htz htv hs1 ht1 hcell hcell2 hk hk2 hc hc2 hB HC
      generalize compareM xs[p] ys[q] = x at *
      have w1 : IntKind.i64.wrap ((n : Int) - ((k : Int) + 1)) = (p : Int) := by rw [IntWalk.i64_in _ (by omega)]; omega
      have w2 : IntKind.i64.wrap ((m : Int) - ((k : Int) + 1)) = (q : Int) := by rw [IntWalk.i64_in _ (by omega)]; omega
      have p0 : (0 : Int) ≤ (p : Int) := by omega
      have p1 : (p : Int) < (n : Int) := by omega
      have q0 : (0 : Int) ≤ (q : Int) := by omega
      have q1 : (q : Int) < (m : Int) := by omega
      have HP := Lib.hid hp; have HQ := Lib.hid hq
      have W1 := Lib.hid w1; have W2 := Lib.hid w2
      clear hp hq w1 w2
      have KS := Lib.hid (fun (W W' : World) (h : W.cell? ⟨g, off + p, none⟩ = some (.string s) ∧ W.cell? ⟨g2, off2 + q, none⟩ = some (.string t) ∧ Below w.heap.size w W) (hb : Below W.heap.size W W') => keepS2 h hb hg hg2 (Nat.le_refl _))
      by_cases hx : (x != 0) = true
      · go_wp2
        have e1 := W1.out; have e2 := W2.out
        go_region_held3 (fun W' => W'.cell? ⟨g, off + p, none⟩ = some (.string s) ∧ W'.cell? ⟨g2, off2 + q, none⟩ = some (.string t) ∧ Below w.heap.size w W') (first | assumption | exact ⟨hS0.1, hS0.2.1, below_drewQ hS0.2.2 1⟩) (first | ((with_reducible refine (hF _).mono ?_); rintro e w2 ⟨rfl, hb2⟩; have hS2 := KS.out _ _ (by assumption) hb2))
        clear e1 e2
        have HR : Hid (r = x) := Lib.hid (by rw [hr.out, if_neg (by simpa using hx)])
        go_wp2
        go_ret
        exact ⟨by rw [HR.out]; rfl, hS2.2.2⟩
      · have hx0 : (x != 0) = false := by simpa using hx
        have HR : Hid (r = cmpR (xs.reverse.drop (k + 1)) (ys.reverse.drop (k + 1))) := Lib.hid (by rw [hr.out, if_pos (by simpa using hx0)])
        clear hx hr
        go_wp2
        have e1 := W1.out; have e2 := W2.out
        go_region_held3 (fun W' => W'.cell? ⟨g, off + p, none⟩ = some (.string s) ∧ W'.cell? ⟨g2, off2 + q, none⟩ = some (.string t) ∧ Below w.heap.size w W') (first | assumption | exact ⟨hS0.1, hS0.2.1, below_drewQ hS0.2.2 1⟩) (first | ((with_reducible refine (hF _).mono ?_); rintro e w2 ⟨rfl, hb2⟩; have hS2 := KS.out _ _ (by assumption) hb2))
        clear e1 e2
        go_wp2
        go_roundw
        case rel => exact ⟨k + 1, by go_num, by omega, by omega, HR, hS2.2.2⟩
        case measure => simp [intOf]; omega
    · have hd : Hid (r = cmpI ((n : Int) - m) 0) := Lib.hid (by
        have hl : (xs.reverse.drop k).length = n - k := by have := HN.out; simp; omega
        have hl2 : (ys.reverse.drop k).length = m - k := by have := HN2.out; simp; omega
        rw [HC.out, cmpR_end _ _ (by
          by_cases e : k < n
          · right; exact List.eq_nil_of_length_eq_zero (by omega)
          · left; exact List.eq_nil_of_length_eq_zero (by omega)), hl, hl2]
        congr 1; omega)
      have hb : (n : Int) < (k : Int) + 1 ∨ ((k : Int) + 1 ≤ n ∧ (m : Int) < (k : Int) + 1) := by omega
      rcases hb with hb | ⟨hb1, hb⟩
      all_goals
        go_wp2_with (go_at_call 41; refine (hSg _ _).mono ?_; rintro e w2 ⟨rfl, rfl⟩)
        go_ret
        exact ⟨by rw [hd.out]; rfl, hB⟩
end Go.Proofs.YtkjmghnbcnbdbaaGreatDoor

/-
  The document's names (package toponymref6): Swap.
-/
namespace Go.Proofs.YtkjmghnbcnbdbaaGreatDoor
set_option maxRecDepth 20000
open Go.RowKit Go.Shelf

theorem elemS : ElemT 9 24 16 := ⟨Tryz.underlying24, _, _, rfl, rfl, rfl, rfl, rfl⟩

end Go.Proofs.YtkjmghnbcnbdbaaGreatDoor

/-
  The document's names (package toponymref6): ParseName.
-/
namespace Go.Proofs.YtkjmghnbcnbdbaaGreatDoor
set_option maxRecDepth 20000
open Go.RowKit Go.Shelf

def partsK (ps : Nm) (k : Nat) : Nm := if k = ps.length then partsN ps else ps.take k
def wholeK (ps : Nm) (k : Nat) : Bool := decide (k = ps.length) && wholeN ps
theorem partsK_lt {ps : Nm} {k : Nat} (h : k < ps.length) : partsK ps k = ps.take k := by unfold partsK; rw [if_neg (by omega)]
theorem partsK_end (ps : Nm) : partsK ps ps.length = partsN ps := by unfold partsK; rw [if_pos rfl]
/-- The last piece, empty. -/
theorem partsK_dot {ps : Nm} {k : Nat} (h : ps.length = k + 1) (h2 : ps[k]'(by omega) = []) : partsK ps (k + 1) = ps.take k ∧ wholeK ps (k + 1) = true := by
  have hw : wholeN ps = true := by rw [wholeN_eq h]; exact decide_eq_true h2
  unfold partsK wholeK partsN
  rw [if_pos h.symm, hw, if_pos rfl, List.dropLast_eq_take, h]
  simp
/-- A piece that is not the last one, or not empty. -/
theorem partsK_next {ps : Nm} {k : Nat} (h : k < ps.length) (h2 : ¬ (ps.length = k + 1 ∧ ps[k] = [])) : partsK ps (k + 1) = ps.take k ++ [ps[k]] ∧ wholeK ps (k + 1) = false ∧ ps.take k ++ [ps[k]] <+: partsN ps := by
  have ht : ps.take k ++ [ps[k]] = ps.take (k + 1) := (List.take_succ_eq_append_getElem h).symm
  rw [ht]
  by_cases e : ps.length = k + 1
  · have hw : wholeN ps = false := by rw [wholeN_eq e]; exact decide_eq_false (fun q => h2 ⟨e, q⟩)
    have hp : partsN ps = ps := by unfold partsN; rw [hw]; rfl
    have hk : ps.take (k + 1) = ps := List.take_of_length_le (by omega)
    unfold partsK wholeK
    rw [if_pos e.symm, hw, hp, hk, Bool.and_false]
    exact ⟨rfl, rfl, List.prefix_rfl⟩
  · refine ⟨partsK_lt (by omega), by unfold wholeK; rw [decide_eq_false (by omega)]; rfl, ?_⟩
    unfold partsN
    split
    · rw [List.dropLast_eq_take]
      exact List.take_prefix_take_left (by omega)
    · exact List.take_prefix _ _

end Go.Proofs.YtkjmghnbcnbdbaaGreatDoor

/-
  The document's names in the same spelling as package name's (XNamX); the statements' helpers.
-/
namespace Go.Proofs.YtkjmghnbcnbdbaaGreatDoor
set_option maxRecDepth 20000
open Go.RowKit Go.Shelf

theorem kn_RCompare (v u : Value) (n z : Nm) (r : Int) (h : compareN n z = r) (w : World) (hA : NmAt w v n) (hU : NmAt w u z) (h1 : NmOK n) (h2 : NmOK z) :
    Calls Tryz.prog 40 #[v, u] w fun e w' => e = .returned (.int .i64 r) ∧ Below w.heap.size w w' := by
  subst h; exact ref_Compare v u n z w hA.1 hU.1 h1 h2
theorem kn_RText (v : Value) (n : Nm) (t : List UInt8) (h : textN n = t) (w : World) (hA : NmAt w v n) (h1 : NmOK n) :
    Calls Tryz.prog 38 #[v] w fun e w' => e = .returned (.string ⟨t.toArray⟩) ∧ Below w.heap.size w w' := by
  subst h; exact ref_NameText v n w hA.1 h1
theorem kn_RLen (v : Value) (n : Nm) (r : Int) (h : (lenN n : Int) = r) (w : World) (hA : NmAt w v n) (h1 : NmOK n) :
    Calls Tryz.prog 59 #[v] w fun e w' => e = .returned (.int .i64 r) ∧ Below w.heap.size w w' := by
  subst h; refine (ref_Len v n w hA.1 h1).mono ?_
  rintro e w' ⟨rfl, rfl⟩; exact ⟨rfl, Below.refl _ _⟩
theorem kn_RCheck (v : Value) (n : Nm) (r : Int) (h : checkN n = r) (w : World) (hA : NmAt w v n) (h1 : NmOK n) :
    Calls Tryz.prog 24 #[v] w fun e w' => e = .returned (.int .i64 r) ∧ Below w.heap.size w w' := by
  subst h; refine (ref_CheckName v n w hA.1 h1).mono ?_
  rintro e w' ⟨rfl, rfl⟩; exact ⟨rfl, Below.refl _ _⟩
/-- An argument of a law, a name or labels. -/
def NmArg (W : World) (v : Value) (xs : Nm) : Prop := NmAt W v xs ∧ xs.length ≤ maxLen ∧ ∀ x ∈ xs, x.length ≤ maxLen
theorem nmArg_nil (W : World) : NmArg W (.slice none 0 0) [] := ⟨nm_nil W, Nat.zero_le _, by simp⟩
theorem nmArg_row {W : World} {x : Addr} {l c : Nat} {zs : List ByteArray} (hl : l ≤ c) (hm : c ≤ maxLen) (hz : zs.length = c)
    (hcell : ∀ i, i < zs.length → W.cell? (x.add i) = some (.string (zs.getD i ByteArray.empty))) (hws : ∀ s ∈ zs, s.size ≤ maxLen) :
    NmArg W (.slice (some x) l c) ((zs.take l).map (·.data.toList)) := by
  have h := strsArg_row hl hm hz hcell hws
  exact ⟨⟨h.1, _, _, _, rfl, hl, fun e => by cases e⟩, h.2⟩
theorem kn_Few (v : Value) (n : Nm) (r : Bool) (h : fewN n = r) (w0 w : World) (hA : NmArg w0 v n) (hA2 : NmAt w v n) :
    Calls Tryz.prog 22 #[v] w fun e w' => e = .returned (.bool r) ∧ Below w.heap.size w w' := by
  subst h; refine (law2_Few v n w hA2.1 hA.2.1 hA.2.2).mono ?_
  rintro e w' ⟨rfl, rfl⟩; exact ⟨rfl, Below.refl _ _⟩
theorem kn_Good (v : Value) (n : Nm) (r : Bool) (h : goodN n = r) (w0 w : World) (hA : NmArg w0 v n) (hA2 : NmAt w v n) :
    Calls Tryz.prog 17 #[v] w fun e w' => e = .returned (.bool r) ∧ Below w.heap.size w w' := by
  subst h; refine (law2_Good v n w hA2.1 hA.2.1 hA.2.2).mono ?_
  rintro e w' ⟨rfl, rfl⟩; exact ⟨rfl, Below.refl _ _⟩
theorem kn_Is (v u : Value) (n z : Nm) (r : Bool) (h : decide (n = z) = r) (w : World) (hA : NmAt w v n) (hU : NmAt w u z) (h1 : NmOK n) :
    Calls Tryz.prog 55 #[v, u] w fun e w' => e = .returned (.bool r) ∧ Below w.heap.size w w' := by
  subst h; exact law2_Is v u n z w hA.1 hU.1 (by have := h1.1; omega)

end Go.Proofs.YtkjmghnbcnbdbaaGreatDoor

/-
  The law's Few for data.
-/
namespace Go.Proofs.YtkjmghnbcnbdbaaGreatDoor
open Go.RowKit Go.Shelf

def fewD (d : Dat) : Bool := decide (d.names.length ≤ 8 ∧ d.nums.length ≤ 12 ∧ d.texts.length ≤ 40 ∧ d.raw.length ≤ 1100) && (decide (∀ n ∈ d.names, fewN n = true) && decide (∀ x ∈ d.texts, x.length ≤ 300))
/-- An argument of a law. -/
def DatArg (W : World) (v : Value) (d : Dat) : Prop := DatAt W v d ∧ (-(2 ^ 63) ≤ d.ty ∧ d.ty < 2 ^ 63) ∧ (∀ n ∈ d.names, n.length ≤ maxLen ∧ ∀ x ∈ n, x.length ≤ maxLen) ∧ (∀ n ∈ d.nums, n < 2 ^ 32) ∧ (∀ x ∈ d.texts, x.length ≤ maxLen)

theorem fewD_ok {W : World} {v : Value} {d : Dat} (h : DatArg W v d) (hf : fewD d = true) : DatOK d := by
  simp only [fewD, Bool.and_eq_true, decide_eq_true_eq] at hf
  obtain ⟨⟨f1, f2, f3, f4⟩, f5, f6⟩ := hf
  exact ⟨h.2.1, by omega, fun n hn => fewN_ok (f5 n hn), by omega, h.2.2.2.1, ⟨by omega, fun x hx => by have := f6 x hx; omega⟩, by omega⟩
end Go.Proofs.YtkjmghnbcnbdbaaGreatDoor

