/-
  Contracts of label.Same and label.readOctet.
-/
import Derived.Test.YtkjmghnbcnbdbaaGreatDoorMQ39
import Derived.Lib.IndexBytes
namespace Go.Proofs.YtkjmghnbcnbdbaaGreatDoor
set_option maxRecDepth 20000
open Go.RowKit Go.Shelf

def sameM (a b : List UInt8) : Bool := decide (a.length = b.length ∧ compareM a b = 0)

/-- What an octet is written with, read: the octet, how many bytes, the error. -/
def readM : List UInt8 → UInt8 × Nat × Int
  | [] => (0, 0, 2)
  | x :: r =>
    if x = 46 then (0, 0, 2) else if x ≠ 92 then (x, 1, 0) else
    match r with
    | [] => (0, 0, 2)
    | y :: r2 =>
      if digitU y = false then (y, 2, 0) else
      match r2 with
      | z :: u :: _ =>
        if digitU z = true ∧ digitU u = true then
          if 255 < (y.toNat - 48) * 100 + (z.toNat - 48) * 10 + (u.toNat - 48) then (0, 0, 7) else (UInt8.ofNat ((y.toNat - 48) * 100 + (z.toNat - 48) * 10 + (u.toNat - 48)), 4, 0)
        else (0, 0, 2)
      | _ => (0, 0, 2)

def ReadPost (s : ByteArray) (w : World) (e : Ending) (w' : World) : Prop :=
  e = .returned (.tuple #[bv (readM s.data.toList).1, .int .i64 (readM s.data.toList).2.1, .int .i64 (readM s.data.toList).2.2]) ∧ ∃ n, w' = w.drewN n
theorem read_fin {s : ByteArray} {w w' : World} {e : Ending} (c : UInt8) (k : Nat) (er : Int) (h : readM s.data.toList = (c, k, er)) (he : e = .returned (.tuple #[bv c, .int .i64 k, .int .i64 er])) (hw : ∃ n, w' = w.drewN n) : ReadPost s w e w' := by
  unfold ReadPost; rw [h]; exact ⟨he, hw⟩

theorem data0 (s : ByteArray) (h : 0 < s.size) : s.data.toList = s[0] :: s.data.toList.drop 1 := by
  have := drop_cons_get s 0 h; simpa using this
theorem data1 (s : ByteArray) (h : 1 < s.size) : s.data.toList = s[0] :: s[1] :: s.data.toList.drop 2 := by
  rw [data0 s (by omega), drop_cons_get s 1 h]; simp
theorem data3 (s : ByteArray) (h : 3 < s.size) : s.data.toList = s[0] :: s[1] :: s[2] :: s[3] :: s.data.toList.drop 4 := by
  rw [data1 s (by omega), drop_cons_get s 2 (by omega), drop_cons_get s 3 (by omega)]; simp
theorem u8_is {x : UInt8} {n : Nat} (hn : n < 256) (h : ((x.toNat : Int) == (n : Int)) = true) : x = UInt8.ofNat n := by
  apply UInt8.toNat_inj.1
  have : (x.toNat : Int) = n := by simpa using h
  rw [UInt8.toNat_ofNat']; omega
theorem u8_isnt {x : UInt8} {n : Nat} (hn : n < 256) (h : ((x.toNat : Int) == (n : Int)) = false) : x ≠ UInt8.ofNat n := by
  intro e; subst e
  rw [UInt8.toNat_ofNat'] at h
  have : n % 2 ^ 8 = n := by omega
  rw [this] at h; simp at h
theorem digit_bounds {c : UInt8} (h : digitU c = true) : 48 ≤ c.toNat ∧ c.toNat ≤ 57 := of_decide_eq_true h

theorem read_dot (s : ByteArray) (h : 0 < s.size) (h1 : ((s[0].toNat : Int) == 46) = true) : readM s.data.toList = (0, 0, 2) := by
  rw [data0 s h]; have : s[0] = 46 := u8_is (n := 46) (by omega) h1
  simp [readM, this]
theorem read_plain (s : ByteArray) (h : 0 < s.size) (h1 : ((s[0].toNat : Int) == 46) = false) (h2 : ((s[0].toNat : Int) != 92) = true) : readM s.data.toList = (s[0], 1, 0) := by
  rw [data0 s h]; have e1 : s[0] ≠ 46 := u8_isnt (n := 46) (by omega) h1
  have e2 : s[0] ≠ 92 := u8_isnt (n := 92) (by omega) (by simpa using h2)
  simp [readM, e1, e2]
theorem u8_92 {x : UInt8} (h2 : ((x.toNat : Int) != 92) = false) : x = 92 := u8_is (n := 92) (by omega) (by simpa using h2)
theorem read_one (s : ByteArray) (h : 0 < s.size) (h2 : ((s[0].toNat : Int) != 92) = false) (h3 : s.size ≤ 1) : readM s.data.toList = (0, 0, 2) := by
  rw [data0 s h, u8_92 h2, List.drop_eq_nil_of_le (by rw [size_data]; omega)]; simp [readM]
theorem read_sign (s : ByteArray) (h : 1 < s.size) (h2 : ((s[0].toNat : Int) != 92) = false) (h3 : digitU s[1] = false) : readM s.data.toList = (s[1], 2, 0) := by
  rw [data1 s h, u8_92 h2]; simp [readM, h3]
theorem read_short (s : ByteArray) (h : 1 < s.size) (h2 : ((s[0].toNat : Int) != 92) = false) (h3 : digitU s[1] = true) (h4 : s.size < 4) : readM s.data.toList = (0, 0, 2) := by
  rw [data1 s h, u8_92 h2]
  have hl : (s.data.toList.drop 2).length < 2 := by rw [List.length_drop, size_data]; omega
  match hd : s.data.toList.drop 2, hl with
  | [], _ => simp [readM, h3]
  | [_], _ => simp [readM, h3]
theorem read_bad (s : ByteArray) (h : 3 < s.size) (h2 : ((s[0].toNat : Int) != 92) = false) (h3 : digitU s[1] = true) (h4 : ¬ (digitU s[2] = true ∧ digitU s[3] = true)) : readM s.data.toList = (0, 0, 2) := by
  rw [data3 s h, u8_92 h2]; simp only [readM, h3]; simp [h4]
theorem read_over (s : ByteArray) (h : 3 < s.size) (h2 : ((s[0].toNat : Int) != 92) = false) (h3 : digitU s[1] = true) (h4 : digitU s[2] = true) (h5 : digitU s[3] = true)
    (h6 : 255 < ((s[1].toNat : Int) - 48) * 100 + ((s[2].toNat : Int) - 48) * 10 + ((s[3].toNat : Int) - 48)) : readM s.data.toList = (0, 0, 7) := by
  have b1 := digit_bounds h3; have b2 := digit_bounds h4; have b3 := digit_bounds h5
  rw [data3 s h, u8_92 h2]; simp only [readM, h3, h4, h5]
  rw [if_pos (by omega : 255 < (s[1].toNat - 48) * 100 + (s[2].toNat - 48) * 10 + (s[3].toNat - 48))]; simp
theorem read_ok (s : ByteArray) (h : 3 < s.size) (h2 : ((s[0].toNat : Int) != 92) = false) (h3 : digitU s[1] = true) (h4 : digitU s[2] = true) (h5 : digitU s[3] = true)
    (h6 : ((s[1].toNat : Int) - 48) * 100 + ((s[2].toNat : Int) - 48) * 10 + ((s[3].toNat : Int) - 48) ≤ 255) :
    readM s.data.toList = (UInt8.ofNat ((s[1].toNat - 48) * 100 + (s[2].toNat - 48) * 10 + (s[3].toNat - 48)), 4, 0) ∧
    ((UInt8.ofNat ((s[1].toNat - 48) * 100 + (s[2].toNat - 48) * 10 + (s[3].toNat - 48))).toNat : Int) = ((s[1].toNat : Int) - 48) * 100 + ((s[2].toNat : Int) - 48) * 10 + ((s[3].toNat : Int) - 48) := by
  have b1 := digit_bounds h3; have b2 := digit_bounds h4; have b3 := digit_bounds h5
  constructor
  · rw [data3 s h, u8_92 h2]; simp only [readM, h3, h4, h5]
    rw [if_neg (by omega : ¬ 255 < (s[1].toNat - 48) * 100 + (s[2].toNat - 48) * 10 + (s[3].toNat - 48))]; simp
  · rw [UInt8.toNat_ofNat']; omega

set_option maxHeartbeats 2000000 in
theorem label_readOctet (s : ByteArray) (w : World) (hs : s.size ≤ maxLen) (h0 : 0 < s.size) :
    Calls Tryz.prog 141 #[.string s] w (ReadPost s w) := by
  unfold maxLen at hs
  by_cases d : ((s[0].toNat : Int) == 46) = true
  · have r := read_dot s h0 d
    have R := Lib.hid r; clear r
    go_enter Tryz.func141, Tryz.ntmps141
    go_wp2
    go_ret3
    exact read_fin 0 0 2 R.out rfl ⟨0, rfl⟩
  have d1 : ((s[0].toNat : Int) == 46) = false := by simpa using d
  clear d
  by_cases p : ((s[0].toNat : Int) != 92) = true
  · have r := read_plain s h0 d1 p
    have R := Lib.hid r; clear r
    go_enter Tryz.func141, Tryz.ntmps141
    go_wp2
    go_ret3
    exact read_fin s[0] 1 0 R.out rfl ⟨0, rfl⟩
  have p1 : ((s[0].toNat : Int) != 92) = false := by simpa using p
  clear p
  by_cases h1 : 1 < s.size
  · by_cases g : digitU s[1] = true
    · by_cases h3 : 3 < s.size
      · by_cases g2 : digitU s[2] = true
        · by_cases g3 : digitU s[3] = true
          · have b1 := digit_bounds g
            have b2 := digit_bounds g2
            have b3 := digit_bounds g3
            have l1 : 48 ≤ (s[1].toNat : Int) := by omega
            have l2 : 48 ≤ (s[2].toNat : Int) := by omega
            have l3 : 48 ≤ (s[3].toNat : Int) := by omega
            have u1 : (s[1].toNat : Int) ≤ 57 := by omega
            have u2 : (s[2].toNat : Int) ≤ 57 := by omega
            have u3 : (s[3].toNat : Int) ≤ 57 := by omega
            clear b1 b2 b3
            by_cases ho : 255 < ((s[1].toNat : Int) - 48) * 100 + ((s[2].toNat : Int) - 48) * 10 + ((s[3].toNat : Int) - 48)
            · have r := read_over s h3 p1 g g2 g3 ho
              have R := Lib.hid r; clear r
              go_enter Tryz.func141, Tryz.ntmps141
              go_wp2_with (go_at_call 145; refine (label_digit _ _).mono ?_; rintro e w' ⟨rfl, rfl⟩)
              go_quiet (fail)
              go_wp2
              go_ret3
              exact read_fin 0 0 7 R.out rfl ⟨_, rfl⟩
            · obtain ⟨r, r2⟩ := read_ok s h3 p1 g g2 g3 (by omega)
              have R := Lib.hid r; clear r
              have R2 := Lib.hid r2; clear r2
              have ho2 : ((s[1].toNat : Int) - 48) * 100 + ((s[2].toNat : Int) - 48) * 10 + ((s[3].toNat : Int) - 48) ≤ 255 := by omega
              clear ho
              go_enter Tryz.func141, Tryz.ntmps141
              go_wp2_with (go_at_call 145; refine (label_digit _ _).mono ?_; rintro e w' ⟨rfl, rfl⟩)
              go_quiet (fail)
              go_wp2
              go_ret3
              exact read_fin _ 4 0 R.out (by unfold bv; rw [R2.out]; rfl) ⟨_, rfl⟩
          · have g4 : digitU s[3] = false := by simpa using g3
            have r := read_bad s h3 p1 g (fun h => g3 h.2)
            have R := Lib.hid r; clear r g3
            go_enter Tryz.func141, Tryz.ntmps141
            go_wp2_with (go_at_call 145; refine (label_digit _ _).mono ?_; rintro e w' ⟨rfl, rfl⟩)
            go_ret3
            exact read_fin 0 0 2 R.out rfl ⟨0, rfl⟩
        · have g3 : digitU s[2] = false := by simpa using g2
          have r := read_bad s h3 p1 g (fun h => g2 h.1)
          have R := Lib.hid r; clear r g2
          go_enter Tryz.func141, Tryz.ntmps141
          go_wp2_with (go_at_call 145; refine (label_digit _ _).mono ?_; rintro e w' ⟨rfl, rfl⟩)
          go_ret3
          exact read_fin 0 0 2 R.out rfl ⟨0, rfl⟩
      · have r := read_short s h1 p1 g (by omega)
        have R := Lib.hid r; clear r
        have h4 : (s.size : Int) < 4 := by omega
        go_enter Tryz.func141, Tryz.ntmps141
        go_wp2_with (go_at_call 145; refine (label_digit _ _).mono ?_; rintro e w' ⟨rfl, rfl⟩)
        go_ret3
        exact read_fin 0 0 2 R.out rfl ⟨0, rfl⟩
    · have g1 : digitU s[1] = false := by simpa using g
      have r := read_sign s h1 p1 g1
      have R := Lib.hid r; clear r g
      go_enter Tryz.func141, Tryz.ntmps141
      go_wp2_with (go_at_call 145; refine (label_digit _ _).mono ?_; rintro e w' ⟨rfl, rfl⟩)
      go_ret3
      exact read_fin s[1] 2 0 R.out rfl ⟨0, rfl⟩
  · have r := read_one s h0 p1 (by omega)
    have R := Lib.hid r; clear r
    go_enter Tryz.func141, Tryz.ntmps141
    go_wp2
    go_ret3
    exact read_fin 0 0 2 R.out rfl ⟨0, rfl⟩

end Go.Proofs.YtkjmghnbcnbdbaaGreatDoor

/-
  Contract of label.Parse: any text as a label, or why it is none.
-/
namespace Go.Proofs.YtkjmghnbcnbdbaaGreatDoor
set_option maxRecDepth 20000
open Go.RowKit Go.Shelf

def scanM : Nat → List UInt8 → List UInt8 × Int
  | _, [] => ([], 0)
  | 0, _ :: _ => ([], 2)
  | n + 1, x :: r =>
    if (readM (x :: r)).2.2 = 0 then
      (if (scanM n ((x :: r).drop (readM (x :: r)).2.1)).2 = 0 then ((readM (x :: r)).1 :: (scanM n ((x :: r).drop (readM (x :: r)).2.1)).1, 0) else ([], (scanM n ((x :: r).drop (readM (x :: r)).2.1)).2))
    else ([], (readM (x :: r)).2.2)
def scan (l : List UInt8) : List UInt8 × Int := scanM l.length l
def join (xs : List UInt8) (t : List UInt8 × Int) : List UInt8 × Int := if t.2 = 0 then (xs ++ t.1, 0) else ([], t.2)
def parseM (l : List UInt8) : List UInt8 × Int :=
  if (scan l).2 = 0 then (if checkLabelM (scan l).1 = 0 then ((scan l).1, 0) else ([], checkLabelM (scan l).1)) else ([], (scan l).2)

theorem readM_size {l : List UInt8} (h0 : l ≠ []) (h : (readM l).2.2 = 0) : 1 ≤ (readM l).2.1 ∧ (readM l).2.1 ≤ 4 ∧ (readM l).2.1 ≤ l.length := by
  match l, h0 with
  | x :: r, _ =>
    simp only [readM] at h ⊢
    by_cases h1 : x = 46
    · simp [h1] at h
    by_cases h2 : x = 92
    · simp only [h2, ne_eq, not_true_eq_false, if_false, show ¬ (92 : UInt8) = 46 from by decide] at h ⊢
      match r with
      | [] => simp at h
      | [y] => by_cases g : digitU y = false <;> simp [g] at h ⊢
      | [y, z] => by_cases g : digitU y = false <;> simp [g] at h ⊢
      | y :: z :: u :: r3 =>
        by_cases g : digitU y = false
        · simp [g]
        by_cases g2 : digitU z = true ∧ digitU u = true
        · by_cases g3 : 255 < (y.toNat - 48) * 100 + (z.toNat - 48) * 10 + (u.toNat - 48)
          · simp [g, g2, g3] at h
          · simp [g, g2, g3]
        · simp [g, g2] at h
    · simp [h1, h2]

theorem scanM_fuel : ∀ (n : Nat) (l : List UInt8), l.length ≤ n → scanM n l = scan l := by
  intro n
  induction n using Nat.strongRecOn with
  | _ n ih =>
    intro l hl
    match l, n with
    | [], _ => simp [scanM, scan]
    | x :: r, 0 => simp at hl
    | x :: r, n + 1 =>
      unfold scan
      simp only [List.length_cons, scanM]
      by_cases h : (readM (x :: r)).2.2 = 0
      · have hs := readM_size (by simp) h
        have hd : ((x :: r).drop (readM (x :: r)).2.1).length ≤ r.length := by simp at hs ⊢; omega
        simp only [List.length_cons] at hl
        have e1 := ih n (by omega) _ (Nat.le_trans hd (by omega))
        rw [e1]
        by_cases hn : r.length = n
        · rw [hn, e1]
        · rw [ih r.length (by omega) _ hd]
      · simp [h]

theorem scanM_clean (n : Nat) (l : List UInt8) (h : (scanM n l).2 ≠ 0) : (scanM n l).1 = [] := by
  match n, l with
  | _, [] => simp [scanM]
  | 0, _ :: _ => simp [scanM]
  | n + 1, x :: r =>
    simp only [scanM] at h ⊢
    by_cases h1 : (readM (x :: r)).2.2 = 0
    · by_cases h2 : (scanM n ((x :: r).drop (readM (x :: r)).2.1)).2 = 0
      · simp [h1, h2] at h
      · simp [h1, h2]
    · simp [h1]
theorem join_nil (l : List UInt8) : scan l = join [] (scan l) := by
  unfold join
  by_cases h : (scan l).2 = 0
  · rw [if_pos h, List.nil_append, ← h]
  · rw [if_neg h, ← scanM_clean l.length l h]; rfl
theorem scan_nil : scan [] = ([], 0) := rfl
theorem scan_err {l : List UInt8} (h0 : l ≠ []) (h : (readM l).2.2 ≠ 0) : scan l = ([], (readM l).2.2) := by
  match l, h0 with
  | x :: r, _ => unfold scan; simp only [List.length_cons, scanM]; rw [if_neg h]
theorem scan_ok {l : List UInt8} (h0 : l ≠ []) (h : (readM l).2.2 = 0) : scan l = join [(readM l).1] (scan (l.drop (readM l).2.1)) := by
  match l, h0 with
  | x :: r, _ =>
    have hs := readM_size (l := x :: r) (by simp) h
    have hd : ((x :: r).drop (readM (x :: r)).2.1).length ≤ r.length := by simp at hs ⊢; omega
    have e : scan (x :: r) = scanM (r.length + 1) (x :: r) := rfl
    rw [e, scanM, if_pos h, scanM_fuel _ _ hd]
    unfold join; simp
theorem join_join (xs ys : List UInt8) (t : List UInt8 × Int) : join xs (join ys t) = join (xs ++ ys) t := by
  unfold join; by_cases h : t.2 = 0 <;> simp [h]

/-- The octets in the label that is read so far are no more than the bytes that were read. -/
theorem extract_drop (s : ByteArray) (k : Nat) : (s.extract k s.size).data.toList = s.data.toList.drop k := Lib.extract_to_end s k

def QW (W W' : World) : Prop := ∃ n, W' = W.drewN n
theorem QW.own {W W' : World} (h : QW W W') {base : Nat} {v : Value} {xs : List UInt8} (ho : OwnU8 W base v xs) : OwnU8 W' base v xs := by obtain ⟨n, rfl⟩ := h; exact ho
theorem QW.below {W W' : World} (h : QW W W') {B : Nat} {w : World} (hb : Below B w W) : Below B w W' := by obtain ⟨n, rfl⟩ := h; exact below_drewN hb n
theorem QW.size {W W' : World} (h : QW W W') : W'.heap.size = W.heap.size := by obtain ⟨n, rfl⟩ := h; rfl

def ParsePost (s : ByteArray) (w : World) (e : Ending) (w' : World) : Prop :=
  e = .returned (.tuple #[.string ⟨(parseM s.data.toList).1.toArray⟩, .int .i64 (parseM s.data.toList).2]) ∧ Below w.heap.size w w'
theorem parse_fin {s : ByteArray} {w w' : World} {e : Ending} (l : List UInt8) (er : Int) (h : parseM s.data.toList = (l, er)) (he : e = .returned (.tuple #[.string ⟨l.toArray⟩, .int .i64 er])) (hw : Below w.heap.size w w') : ParsePost s w e w' := by
  unfold ParsePost; rw [h]; exact ⟨he, hw⟩

theorem readOctet_at (s : ByteArray) (k : Nat) (hs : s.size ≤ maxLen) (hk : k < s.size) (c : UInt8) (sz : Nat) (er : Int) (hq : readM (s.data.toList.drop k) = (c, sz, er)) (w : World) :
    Calls Tryz.prog 141 #[.string (s.extract k s.size)] w fun e w' => e = .returned (.tuple #[.int .u8 (c.toNat : Int), .int .i64 sz, .int .i64 er]) ∧ QW w w' := by
  have hz : (s.extract k s.size).size = s.size - k := by rw [← size_data, extract_drop, List.length_drop, size_data]
  refine (label_readOctet (s.extract k s.size) w (by rw [hz]; omega) (by rw [hz]; omega)).mono ?_
  rintro e w' ⟨he, hw⟩
  rw [extract_drop, hq] at he
  exact ⟨he, hw⟩

set_option maxHeartbeats 2000000 in
theorem label_Parse (s : ByteArray) (w : World) (hs : s.size ≤ 35184372088000) :
    Calls Tryz.prog 130 #[.string s] w (ParsePost s w) := by
  obtain ⟨i0, hi, hz0, hz1, hz2⟩ := info_parts info_u8
  go_enter Tryz.func130, Tryz.ntmps130
  go_wp2_with (at_make; refine wpList_make_own _ rfl _ _ 25 rfl w.heap.size 5 i0 (.int .u8 0) 1 Tryz.underlying25 hi hz0 hz1 .i64 .i64 _ s.size rfl rfl rfl (by rw [hz2]; omega) (by unfold maxLen; omega) (Nat.le_refl _) ?_; intro w0 hown0 hgrow0)
  have hB0 : Below w.heap.size w w0 := (Below.refl _ w).grown hgrow0 (Nat.le_refl _) (by simp)
  have hown0' : OwnU8 w0 w.heap.size (.slice (some ⟨w.heap.size, 0, none⟩) 0 s.size) [] := hown0
  clear hown0
  go_loopw [4, 5] (fun v i wr => ∃ (k : Nat) (xs : List UInt8), i = .int .i64 k ∧ k ≤ s.size ∧ xs.length ≤ k ∧ OwnU8 wr w.heap.size v xs ∧ Below w.heap.size w wr ∧ Hid (scan s.data.toList = join xs (scan (s.data.toList.drop k)))) (fun _ i _ => s.size - (intOf i).toNat)
  case atStart => exact ⟨0, [], rfl, Nat.zero_le _, Nat.zero_le _, hown0', hB0, by exact Lib.hid (by simpa using join_nil s.data.toList)⟩
  case round =>
    obtain ⟨k, xs, rfl, hk, hxs, hown, hB, HJ⟩ := hrel
    by_cases hlt : k < s.size
    · obtain ⟨⟨c, sz, er⟩, hq⟩ : ∃ q, readM (s.data.toList.drop k) = q := ⟨_, rfl⟩
      have hne : s.data.toList.drop k ≠ [] := by intro e; have := congrArg List.length e; rw [List.length_drop, size_data] at this; simp at this; omega
      have hC := readOctet_at s k (by unfold maxLen; omega) hlt c sz er hq
      by_cases her : ((er : Int) != 0) = true
      · have r : parseM s.data.toList = ([], er) := by
          have her2 : (readM (s.data.toList.drop k)).2.2 ≠ 0 := by rw [hq]; simpa using her
          have e1 : scan s.data.toList = ([], er) := by rw [HJ.out, scan_err hne her2, hq]; unfold join; rw [if_neg (by simpa using her)]
          unfold parseM; rw [e1, if_neg (by simpa using her)]
        have R := Lib.hid r; clear r
        clear hq
        go_wp2_with (go_at_call 141; refine (hC _).mono ?_; rintro e w' ⟨rfl, hw⟩)
        go_ret2
        exact parse_fin [] er R.out rfl (hw.below hB)
      · have her0 : ((er : Int) != 0) = false := by simpa using her
        obtain rfl : er = 0 := by simpa using her0
        clear her her0
        have hsz := readM_size hne (by rw [hq])
        have hok := scan_ok hne (by rw [hq])
        rw [hq] at hsz hok
        obtain ⟨hz1', hz4, hzl⟩ := hsz
        have hj : scan s.data.toList = join (xs ++ [c]) (scan (s.data.toList.drop (k + sz))) := by rw [HJ.out, hok, join_join, List.drop_drop]
        have HJ2 := Lib.hid hj; clear hj hok hq HJ
        have hle : k + sz ≤ s.size := by simp only [List.length_drop, size_data] at hzl; omega
        have hz1i : (1 : Int) ≤ (sz : Int) := by simp only at hz1'; omega
        have hz4i : (sz : Int) ≤ 4 := by simp only at hz4; omega
        clear hz1' hz4 hzl hne
        go_wp2_with (first | (go_at_call 141; refine (hC _).mono ?_; rintro e w' ⟨rfl, hw⟩; have hownq := hw.own hown; have hBq := hw.below hB; have hbq := hBq.size) | (at_builtin; refine wpl_append_u8 _ rfl (.tmp 29) (.tmp 31) rfl w.heap.size _ xs rfl hownq [.int .u8 (c.toNat : Int)] [c] rfl 1 1 rfl rfl hbq (by simp; omega) ?_; intro v' w1 hown1 hgrow; have hB1 := hBq.grown hgrow hbq hownq.base_le; clear hgrow hownq hBq hbq))
        go_roundw
        case rel => exact ⟨k + sz, xs ++ [c], by go_num, hle, by simp; omega, hown1, hB1, HJ2⟩
        case measure => simp [intOf]; omega
    · obtain rfl : k = s.size := by omega
      have hscan : scan s.data.toList = (xs, 0) := by rw [HJ.out, List.drop_eq_nil_of_le (by simp), scan_nil]; unfold join; simp
      have hcv := hown.string
      have hlen : (ByteArray.mk xs.toArray).size ≤ maxLen := by show xs.toArray.size ≤ _; unfold maxLen; simp; omega
      have hCk := label_Check ⟨xs.toArray⟩ wr hlen
      by_cases hck : (checkLabelM xs != 0) = true
      · have r : parseM s.data.toList = ([], checkLabelM xs) := by unfold parseM; rw [hscan]; simp only [if_true]; rw [if_neg (by simpa using hck)]
        have R := Lib.hid r; clear r HJ hscan
        go_wp2_with (go_at_call 60; refine hCk.mono ?_; rintro e w' ⟨rfl, rfl⟩)
        go_ret2
        exact parse_fin [] _ R.out rfl hB
      · have hck0 : (checkLabelM xs != 0) = false := by simpa using hck
        have r : parseM s.data.toList = (xs, 0) := by unfold parseM; rw [hscan]; simp only [if_true]; rw [if_pos (by simpa using hck0)]
        have R := Lib.hid r; clear r HJ hscan hck
        go_wp2_with (go_at_call 60; refine hCk.mono ?_; rintro e w' ⟨rfl, rfl⟩)
        go_ret2
        exact parse_fin xs 0 R.out rfl hB

end Go.Proofs.YtkjmghnbcnbdbaaGreatDoor

