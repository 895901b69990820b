/-
  The document's reading of escapes (package toponymref6): Octets, ParseLabel: what label.Parse reads.
-/
import Derived.Test.YtfcdajldpnomfaaGreatDoorMQ31
import Derived.Test.YtfcdajldpnomfaaGreatDoorMQ24
import Derived.Test.YtfcdajldpnomfaaGreatDoorMQ43
import Derived.RegionTactic
import Derived.ChangeAlike
import Derived.Sort.QuietTacIn
import Derived.Sort.BigQuietIn
namespace Go.Proofs.YtfcdajldpnomfaaGreatDoor
set_option maxRecDepth 20000
open Go.RowKit Go.Shelf

section
variable (s : ByteArray) (k : Nat)
theorem rd_dot (h : k < s.size) (h1 : ((s[k].toNat : Int) == 46) = true) : readM (s.data.toList.drop k) = (0, 0, 2) := by
  rw [drop_cons_get s k h]; have : s[k] = 46 := u8_is (n := 46) (by omega) h1
  simp [readM, this]
theorem rd_plain (h : k < s.size) (h1 : ((s[k].toNat : Int) == 46) = false) (h2 : ((s[k].toNat : Int) != 92) = true) : readM (s.data.toList.drop k) = (s[k], 1, 0) := by
  rw [drop_cons_get s k h]; have e1 : s[k] ≠ 46 := u8_isnt (n := 46) (by omega) h1
  have e2 : s[k] ≠ 92 := u8_isnt (n := 92) (by omega) (by simpa using h2)
  simp [readM, e1, e2]
theorem rd_one (h : k < s.size) (h2 : ((s[k].toNat : Int) != 92) = false) (h3 : s.size ≤ k + 1) : readM (s.data.toList.drop k) = (0, 0, 2) := by
  rw [drop_cons_get s k h, u8_92 h2, List.drop_eq_nil_of_le (by rw [size_data]; omega)]; simp [readM]
theorem rd_sign (h : k + 1 < s.size) (h2 : ((s[k].toNat : Int) != 92) = false) (h3 : digitU s[k + 1] = false) : readM (s.data.toList.drop k) = (s[k + 1], 2, 0) := by
  rw [drop_cons_get s k (by omega), drop_cons_get s (k + 1) h, u8_92 h2]; simp [readM, h3]
theorem rd_short (h : k + 1 < s.size) (h2 : ((s[k].toNat : Int) != 92) = false) (h3 : digitU s[k + 1] = true) (h4 : s.size ≤ k + 3) : readM (s.data.toList.drop k) = (0, 0, 2) := by
  rw [drop_cons_get s k (by omega), drop_cons_get s (k + 1) h, u8_92 h2]
  have hl : (s.data.toList.drop (k + 1 + 1)).length < 2 := by rw [List.length_drop, size_data]; omega
  match hd : s.data.toList.drop (k + 1 + 1), hl with
  | [], _ => simp [readM, h3]
  | [_], _ => simp [readM, h3]
theorem drop4 (h : k + 3 < s.size) : s.data.toList.drop k = s[k] :: s[k + 1] :: s[k + 2] :: s[k + 3] :: s.data.toList.drop (k + 4) := by
  rw [drop_cons_get s k (by omega), drop_cons_get s (k + 1) (by omega), drop_cons_get s (k + 2) (by omega), drop_cons_get s (k + 3) (by omega)]
theorem rd_bad (h : k + 3 < s.size) (h2 : ((s[k].toNat : Int) != 92) = false) (h3 : digitU s[k + 1] = true) (h4 : ¬ (digitU s[k + 2] = true ∧ digitU s[k + 3] = true)) : readM (s.data.toList.drop k) = (0, 0, 2) := by
  rw [drop4 s k h, u8_92 h2]; simp only [readM, h3]; simp [h4]
theorem rd_over (h : k + 3 < s.size) (h2 : ((s[k].toNat : Int) != 92) = false) (h3 : digitU s[k + 1] = true) (h4 : digitU s[k + 2] = true) (h5 : digitU s[k + 3] = true)
    (h6 : 255 < ((s[k + 1].toNat : Int) - 48) * 100 + ((s[k + 2].toNat : Int) - 48) * 10 + ((s[k + 3].toNat : Int) - 48)) : readM (s.data.toList.drop k) = (0, 0, 7) := by
  have b1 := digit_bounds h3; have b2 := digit_bounds h4; have b3 := digit_bounds h5
  rw [drop4 s k h, u8_92 h2]; simp only [readM, h3, h4, h5]
  rw [if_pos (by omega : 255 < (s[k + 1].toNat - 48) * 100 + (s[k + 2].toNat - 48) * 10 + (s[k + 3].toNat - 48))]; simp
theorem rd_ok (h : k + 3 < s.size) (h2 : ((s[k].toNat : Int) != 92) = false) (h3 : digitU s[k + 1] = true) (h4 : digitU s[k + 2] = true) (h5 : digitU s[k + 3] = true)
    (h6 : ((s[k + 1].toNat : Int) - 48) * 100 + ((s[k + 2].toNat : Int) - 48) * 10 + ((s[k + 3].toNat : Int) - 48) ≤ 255) :
    ∃ c : UInt8, readM (s.data.toList.drop k) = (c, 4, 0) ∧ (c.toNat : Int) = ((s[k + 1].toNat : Int) - 48) * 100 + ((s[k + 2].toNat : Int) - 48) * 10 + ((s[k + 3].toNat : Int) - 48) := by
  have b1 := digit_bounds h3; have b2 := digit_bounds h4; have b3 := digit_bounds h5
  refine ⟨UInt8.ofNat ((s[k + 1].toNat - 48) * 100 + (s[k + 2].toNat - 48) * 10 + (s[k + 3].toNat - 48)), ?_, ?_⟩
  · rw [drop4 s k h, u8_92 h2]; simp only [readM, h3, h4, h5]
    rw [if_neg (by omega : ¬ 255 < (s[k + 1].toNat - 48) * 100 + (s[k + 2].toNat - 48) * 10 + (s[k + 3].toNat - 48))]; simp
  · rw [UInt8.toNat_ofNat']; omega
end

def OctPost (s : ByteArray) (w : World) (e : Ending) (w' : World) : Prop :=
  e = .returned (.tuple #[.string ⟨(scan s.data.toList).1.toArray⟩, .int .i64 (scan s.data.toList).2]) ∧ Below w.heap.size w w'
theorem oct_fin {s : ByteArray} {w w' : World} {e : Ending} (l : List UInt8) (er : Int) (h : scan s.data.toList = (l, er)) (he : e = .returned (.tuple #[.string ⟨l.toArray⟩, .int .i64 er])) (hw : Below w.heap.size w w') : OctPost s w e w' := by
  unfold OctPost; rw [h]; exact ⟨he, hw⟩
theorem drop_ne (s : ByteArray) (k : Nat) (h : k < s.size) : s.data.toList.drop k ≠ [] := by
  intro e; have := congrArg List.length e; rw [List.length_drop, size_data] at this; simp at this; omega
theorem oct_err {s : ByteArray} {k : Nat} {xs : List UInt8} {er : Int} {c : UInt8} {z : Nat} (hJ : scan s.data.toList = join xs (scan (s.data.toList.drop k))) (hk : k < s.size) (hr : readM (s.data.toList.drop k) = (c, z, er)) (he : er ≠ 0) :
    scan s.data.toList = ([], er) := by
  rw [hJ, scan_err (drop_ne s k hk) (by rw [hr]; exact he), hr]; unfold join; rw [if_neg he]
theorem oct_next {s : ByteArray} {k : Nat} {xs : List UInt8} {c : UInt8} {z : Nat} (hJ : scan s.data.toList = join xs (scan (s.data.toList.drop k))) (hk : k < s.size) (hr : readM (s.data.toList.drop k) = (c, z, 0)) :
    scan s.data.toList = join (xs ++ [c]) (scan (s.data.toList.drop (k + z))) := by
  rw [hJ, scan_ok (drop_ne s k hk) (by rw [hr]), hr, join_join, List.drop_drop]

theorem scanM_len : ∀ (n : Nat) (l : List UInt8), l.length ≤ n → (scan l).1.length ≤ l.length := by
  intro n
  induction n with
  | zero => intro l h; obtain rfl : l = [] := List.eq_nil_of_length_eq_zero (by omega); simp [scan_nil]
  | succ n ih =>
    intro l h
    by_cases h0 : l = []
    · subst h0; simp [scan_nil]
    by_cases h1 : (readM l).2.2 = 0
    · have hs := readM_size h0 h1
      rw [scan_ok h0 h1]
      unfold join
      have h2 := ih (l.drop (readM l).2.1) (by rw [List.length_drop]; omega)
      rw [List.length_drop] at h2
      split
      · simp; omega
      · simp
    · rw [scan_err h0 h1]; simp

end Go.Proofs.YtfcdajldpnomfaaGreatDoor

/-
  The document's parting of a text (package toponymref6): Split: the parts that label.Split tells.
-/
namespace Go.Proofs.YtfcdajldpnomfaaGreatDoor
set_option maxRecDepth 20000
open Go.RowKit Go.Shelf

def RSplitPost (s : ByteArray) (w : World) (e : Ending) (w' : World) : Prop :=
  ∃ v, e = .returned (.tuple #[v, .int .i64 (splitM s.data.toList).2]) ∧ OwnG 9 strV w' w.heap.size v (splitM s.data.toList).1 ∧ Below w.heap.size w w'
theorem rsplit_fin {s : ByteArray} {w w' : World} {e : Ending} {v : Value} (l : List (List UInt8)) (er : Int) (h : splitM s.data.toList = (l, er)) (he : e = .returned (.tuple #[v, .int .i64 er])) (ho : OwnG 9 strV w' w.heap.size v l) (hw : Below w.heap.size w w') : RSplitPost s w e w' := by
  unfold RSplitPost; rw [h]; exact ⟨v, he, ho, hw⟩

theorem set_last (done : List (List UInt8)) (cur y : List UInt8) : (done ++ [cur]).set done.length y = done ++ [y] := by
  rw [List.set_append_right _ _ (Nat.le_refl _)]; simp
theorem get_last (done : List (List UInt8)) (cur : List UInt8) (h : done.length < (done ++ [cur]).length) : (done ++ [cur])[done.length] = cur := by simp
theorem extract_two (s : ByteArray) (k : Nat) (h : k + 1 < s.size) : s.extract k (k + 2) = ⟨#[s[k], s[k + 1]]⟩ := by
  apply ba_ext
  have h1 : (s.extract k (k + 2)).data.toList = (s.data.toList.take (k + 2)).drop k := by simp [ByteArray.data_extract, List.drop_take]
  rw [h1, take_snoc_get s (k + 1) h, take_snoc_get s k (by omega), List.append_assoc, List.drop_left' (by simp; omega)]; rfl

end Go.Proofs.YtfcdajldpnomfaaGreatDoor

/-
  The document's names (package toponymref6): Len, CheckName, Fold.
-/
namespace Go.Proofs.YtfcdajldpnomfaaGreatDoor
set_option maxRecDepth 20000
open Go.RowKit Go.Shelf

theorem lenN_take_le {xs : Nm} (h : NmOK xs) (k : Nat) (hk : k ≤ xs.length) : lenN (xs.take k) ≤ 1 + k * 1048577 := by
  induction k with
  | zero => simp [lenN]
  | succ k ih =>
    have h1 := h.get k (by omega)
    rw [List.take_succ_eq_append_getElem (by omega), lenN_snoc]
    have := ih (by omega)
    omega

set_option maxHeartbeats 4000000 in
theorem ref_Len (v : Value) (xs : Nm) (w : World) (hA : StrsAt w v xs) (hk : NmOK xs) :
    Calls Tryz.prog 56 #[v] w fun e w' => e = .returned (.int .i64 (lenN xs : Int)) ∧ w' = w := by
  obtain ⟨a, c, rfl, _⟩ := id hA
  have hl := hk.1
  obtain ⟨n, hn⟩ : ∃ n, xs.length = n := ⟨_, rfl⟩
  have hcell := fun j hj => hA.cell (Below.refl _ w) j hj
  rw [hn] at hl ⊢
  have HN := Lib.hid hn
  clear hA hn
  go_enter Tryz.func56, Tryz.ntmps56
  go_wp2
  go_loopw [3, 4] (fun u i wr => ∃ k : Nat, i = .int .i64 k ∧ k ≤ n ∧ u = .int .i64 (lenN (xs.take k) : Int) ∧ wr = w) (fun _ i _ => n - (intOf i).toNat)
  case atStart => exact ⟨0, rfl, Nat.zero_le _, rfl, rfl⟩
  case round =>
    obtain ⟨k, rfl, hkn, rfl, rfl⟩ := hrel
    by_cases hlt : k < n
    · have hkp : k < xs.length := by rw [HN.out]; exact hlt
      obtain ⟨g, off, rfl, hg, hc⟩ := hcell k hkp
      obtain ⟨s, hs0, hsz, hsv⟩ := str_of xs[k]
      rw [hsv] at hc
      have hxk := hk.get k hkp
      have hb := lenN_take_le hk k (by omega)
      have hr : lenN (xs.take (k + 1)) = lenN (xs.take k) + 1 + s.size := by rw [List.take_succ_eq_append_getElem hkp, lenN_snoc, hsz]
      have HR := Lib.hid hr
      rw [← hsz] at hxk
      clear hs0 hsz hsv hr
      generalize lenN (xs.take k) = q at *
      go_wp2
      go_roundw
      case rel => exact ⟨k + 1, by go_num, by omega, by rw [HR.out]; simp, trivial⟩
      case measure => simp [intOf]; omega
    · obtain rfl : k = n := by omega
      have hr : lenN (xs.take k) = lenN xs := by rw [List.take_of_length_le (by rw [HN.out]; exact Nat.le_refl _)]
      rw [hr]
      go_wp2
      go_ret
      exact ⟨rfl, rfl⟩

set_option maxHeartbeats 4000000 in
theorem ref_CheckName (v : Value) (xs : Nm) (w : World) (hA : StrsAt w v xs) (hk : NmOK xs) :
    Calls Tryz.prog 26 #[v] w fun e w' => e = .returned (.int .i64 (checkN xs)) ∧ w' = w := by
  obtain ⟨a, c, rfl, _⟩ := id hA
  have hL := ref_Len _ xs w hA hk
  have hl := hk.1
  obtain ⟨n, hn⟩ : ∃ n, xs.length = n := ⟨_, rfl⟩
  have hcell := fun j hj => hA.cell (Below.refl _ w) j hj
  rw [hn] at hl hL ⊢
  have HN := Lib.hid hn
  clear hA hn
  go_enter Tryz.func26, Tryz.ntmps26
  go_wp2
  go_loopw [3] (fun i wr => ∃ k : Nat, i = .int .i64 k ∧ k ≤ n ∧ Hid (checkL (xs.take k) = 0) ∧ wr = w) (fun i _ => n - (intOf i).toNat)
  case atStart => exact ⟨0, rfl, Nat.zero_le _, Lib.hid rfl, rfl⟩
  case round =>
    obtain ⟨k, rfl, hkn, HC, rfl⟩ := hrel
    by_cases hlt : k < n
    · have hkp : k < xs.length := by rw [HN.out]; exact hlt
      obtain ⟨g, off, rfl, hg, hc⟩ := hcell k hkp
      obtain ⟨s, hs0, hsz, hsv⟩ := str_of xs[k]
      rw [hsv] at hc
      have hxk := hk.get k hkp
      have hCk := fun W => ref_CheckLabel s W (by unfold maxLen; omega)
      rw [hs0] at hCk
      have hr : checkL (xs.take (k + 1)) = checkLabelM xs[k] := by rw [List.take_succ_eq_append_getElem hkp, checkL_snoc, if_pos HC.out]
      clear hs0 hsz hsv hxk
      generalize checkLabelM xs[k] = q at *
      by_cases hq : (q != 0) = true
      · have H0 : Hid (checkN xs = q) := Lib.hid (by rw [← hr]; exact checkN_of_stop (List.take_prefix _ _) (by rw [hr]; simpa using hq))
        clear hr
        go_wp2_with (go_at_call 55; refine (hCk _).mono ?_; rintro e w2 ⟨rfl, rfl⟩)
        go_ret
        exact ⟨by rw [H0.out]; rfl, rfl⟩
      · have hq1 : (q != 0) = false := by simpa using hq
        have HR := Lib.hid hr; have HQ := Lib.hid hq1
        clear hr hq
        go_wp2_with (go_at_call 55; refine (hCk _).mono ?_; rintro e w2 ⟨rfl, rfl⟩)
        go_roundw
        case rel => exact ⟨k + 1, by go_num, by omega, Lib.hid (by rw [HR.out]; simpa using HQ.out), trivial⟩
        case measure => simp [intOf]; omega
    · obtain rfl : k = n := by omega
      have hr : xs.take k = xs := List.take_of_length_le (by rw [HN.out]; exact Nat.le_refl _)
      rw [hr] at HC
      have hd : checkN xs = if 255 < (lenN xs : Int) then 3 else 0 := by
        unfold checkN; rw [if_pos HC.out]
        by_cases h : 255 < lenN xs
        · rw [if_pos h, if_pos (by omega)]
        · rw [if_neg h, if_neg (by omega)]
      have HD := Lib.hid hd
      clear hr hd
      generalize lenN xs = q at *
      go_wp2_with (go_at_call 56; refine hL.mono ?_; rintro e w2 ⟨rfl, rfl⟩)
      · go_ret
        exact ⟨by rw [HD.out, if_pos (by assumption)]; rfl, rfl⟩
      · go_ret
        exact ⟨by rw [HD.out, if_neg (by omega)]; rfl, rfl⟩

end Go.Proofs.YtfcdajldpnomfaaGreatDoor

/-
  The document's names (package toponymref6): Parent, Child, Wild, sign.
-/
namespace Go.Proofs.YtfcdajldpnomfaaGreatDoor
set_option maxRecDepth 20000
open Go.RowKit Go.Shelf

/-- A slice of strings, for reading. -/
def NmAt (W : World) (v : Value) (xs : Nm) : Prop := StrsAt W v xs ∧ SlOK v
theorem NmAt.below {W W' : World} {v : Value} {xs : Nm} (h : NmAt W v xs) (hb : Below W.heap.size W W') : NmAt W' v xs := ⟨h.1.below hb, h.2⟩
theorem OwnG.nmAt {W : World} {base : Nat} {v : Value} {xs : Nm} (h : OwnG 9 strV W base v xs) : NmAt W v xs := ⟨StrsAt.of_own h, h.slOK⟩

set_option maxHeartbeats 2000000 in
theorem ref_sign (n : Int) (w : World) : Calls Tryz.prog 59 #[.int .i64 n] w fun e w' => e = .returned (.int .i64 (cmpI n 0)) ∧ w' = w := by
  unfold cmpI
  by_cases h1 : n < 0
  · rw [if_pos h1]
    go_enter Tryz.func59, Tryz.ntmps59
    go_wp2
    go_ret
    exact ⟨rfl, rfl⟩
  · rw [if_neg h1]
    by_cases h2 : 0 < n
    · rw [if_pos h2]
      go_enter Tryz.func59, Tryz.ntmps59
      go_wp2
      go_ret
      exact ⟨rfl, rfl⟩
    · rw [if_neg h2]
      go_enter Tryz.func59, Tryz.ntmps59
      go_wp2
      go_ret
      exact ⟨rfl, rfl⟩

end Go.Proofs.YtfcdajldpnomfaaGreatDoor

/-
  A drawn region of reads and calls, over any class of worlds, inside a fence.
-/
namespace Go.Proofs.YtfcdajldpnomfaaGreatDoor
open Go.RowKit Go.Shelf

theorem wpIn_region_cls {F : Fence} {n : Nat} {P : Program} {id : Nat} {Q : Exit → Act → World → Prop} {a : Act} {w : World} {l : List Oper} (C : World → Prop) (hro : F.round = none) (hm : P.follows .mixedOrders = true) (hB : Region.lexB .any l.toArray = true) (hC : C w.drew)
    (h : wpQuietIn F n P l.toArray (fun w' => ∃ p : WIn C, w' = p.w) (fun a' => ∀ w', (∃ p : WIn C, w' = p.w) → Q .normal a' w') l a) : (Code.region id l.toArray true).wpIn F n P Q a w :=
  wpIn_region_quiet (C := fun w' => ∃ p : WIn C, w' = p.w) hro hm hB ⟨⟨w.drew, hC⟩, rfl⟩ (by simpa using h)
theorem CallsIn.cls {F : Fence} {r : Nat} {C : World → Prop} {P : Program} {f : FuncId} {args : Array Value} {w : World} {v : Value}
    (h : CallsIn F r P f args w fun e w' => e = .returned v ∧ C w') : CallsIn F r P f args w fun e w'' => e = .returned v ∧ ∃ q : WIn C, w'' = q.w :=
  h.mono fun _ w' ⟨he, hc⟩ => ⟨he, ⟨w', hc⟩, rfl⟩
end Go.Proofs.YtfcdajldpnomfaaGreatDoor

