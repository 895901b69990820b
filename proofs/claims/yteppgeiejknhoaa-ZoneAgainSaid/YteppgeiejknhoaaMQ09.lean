/-
  Contracts of label.Same and label.readOctet.
-/
import Derived.Test.YteppgeiejknhoaaMQ12
import Derived.Lib.IndexBytes
namespace Go.Proofs.Yteppgeiejknhoaa
set_option maxRecDepth 20000
open Go.RowKit Go.Shelf

def sameM (a b : List UInt8) : Bool := decide (a.length = b.length ∧ compareM a b = 0)

set_option maxHeartbeats 1000000 in
theorem label_Same (a b : ByteArray) (w : World) (ha : a.size ≤ maxLen) (hb : b.size ≤ maxLen) :
    Calls Try.prog 32 #[.string a, .string b] w fun e w' => e = .returned (.bool (sameM a.data.toList b.data.toList)) ∧ ∃ n, w' = w.drewN n := by
  by_cases h : ((a.size : Int) == (b.size : Int)) = true
  · have hsz : a.data.toList.length = b.data.toList.length := by rw [size_data, size_data]; have : (a.size : Int) = b.size := by simpa using h
                                                                 omega
    have HS := Lib.hid hsz; clear hsz
    have hCa := label_Compare a b w ha hb
    unfold maxLen at ha hb
    go_enter Try.func32, Try.ntmps32
    go_wp2_with (go_at_call 58; refine hCa.mono ?_; rintro e w' ⟨rfl, n, hn⟩; have HN := Lib.hid hn; clear hn)
    go_ret
    exact ⟨ret_bool (by show (compareM _ _ == 0) = _; unfold sameM; simp only [HS.out, true_and]; rw [Bool.eq_iff_iff]; simp), n, HN.out⟩
  · have h2 : ((a.size : Int) == (b.size : Int)) = false := by simpa using h
    have hsz : a.data.toList.length ≠ b.data.toList.length := by rw [size_data, size_data]; intro e; rw [e] at h2; simp at h2
    have HS := Lib.hid hsz; clear hsz h
    unfold maxLen at ha hb
    go_enter Try.func32, Try.ntmps32
    go_wp2
    go_ret
    exact ⟨ret_bool (by show false = _; unfold sameM; symm; apply decide_eq_false; intro h; exact HS.out h.1), 0, rfl⟩

/-- What an octet is written with, read: the octet, how many bytes, the error. -/
def readM : List UInt8 → UInt8 × Nat × Int
  | [] => (0, 0, 2)
  | x :: r =>
    if x = 46 then (0, 0, 2) else if x ≠ 92 then (x, 1, 0) else
    match r with
    | [] => (0, 0, 2)
    | y :: r2 =>
      if digitU y = false then (y, 2, 0) else
      match r2 with
      | z :: u :: _ =>
        if digitU z = true ∧ digitU u = true then
          if 255 < (y.toNat - 48) * 100 + (z.toNat - 48) * 10 + (u.toNat - 48) then (0, 0, 7) else (UInt8.ofNat ((y.toNat - 48) * 100 + (z.toNat - 48) * 10 + (u.toNat - 48)), 4, 0)
        else (0, 0, 2)
      | _ => (0, 0, 2)

def ReadPost (s : ByteArray) (w : World) (e : Ending) (w' : World) : Prop :=
  e = .returned (.tuple #[bv (readM s.data.toList).1, .int .i64 (readM s.data.toList).2.1, .int .i64 (readM s.data.toList).2.2]) ∧ ∃ n, w' = w.drewN n
theorem read_fin {s : ByteArray} {w w' : World} {e : Ending} (c : UInt8) (k : Nat) (er : Int) (h : readM s.data.toList = (c, k, er)) (he : e = .returned (.tuple #[bv c, .int .i64 k, .int .i64 er])) (hw : ∃ n, w' = w.drewN n) : ReadPost s w e w' := by
  unfold ReadPost; rw [h]; exact ⟨he, hw⟩

theorem data0 (s : ByteArray) (h : 0 < s.size) : s.data.toList = s[0] :: s.data.toList.drop 1 := by
  have := drop_cons_get s 0 h; simpa using this
theorem data1 (s : ByteArray) (h : 1 < s.size) : s.data.toList = s[0] :: s[1] :: s.data.toList.drop 2 := by
  rw [data0 s (by omega), drop_cons_get s 1 h]; simp
theorem data3 (s : ByteArray) (h : 3 < s.size) : s.data.toList = s[0] :: s[1] :: s[2] :: s[3] :: s.data.toList.drop 4 := by
  rw [data1 s (by omega), drop_cons_get s 2 (by omega), drop_cons_get s 3 (by omega)]; simp
theorem u8_is {x : UInt8} {n : Nat} (hn : n < 256) (h : ((x.toNat : Int) == (n : Int)) = true) : x = UInt8.ofNat n := by
  apply UInt8.toNat_inj.1
  have : (x.toNat : Int) = n := by simpa using h
  rw [UInt8.toNat_ofNat']; omega
theorem u8_isnt {x : UInt8} {n : Nat} (hn : n < 256) (h : ((x.toNat : Int) == (n : Int)) = false) : x ≠ UInt8.ofNat n := by
  intro e; subst e
  rw [UInt8.toNat_ofNat'] at h
  have : n % 2 ^ 8 = n := by omega
  rw [this] at h; simp at h
theorem digit_bounds {c : UInt8} (h : digitU c = true) : 48 ≤ c.toNat ∧ c.toNat ≤ 57 := of_decide_eq_true h

theorem read_dot (s : ByteArray) (h : 0 < s.size) (h1 : ((s[0].toNat : Int) == 46) = true) : readM s.data.toList = (0, 0, 2) := by
  rw [data0 s h]; have : s[0] = 46 := u8_is (n := 46) (by omega) h1
  simp [readM, this]
theorem read_plain (s : ByteArray) (h : 0 < s.size) (h1 : ((s[0].toNat : Int) == 46) = false) (h2 : ((s[0].toNat : Int) != 92) = true) : readM s.data.toList = (s[0], 1, 0) := by
  rw [data0 s h]; have e1 : s[0] ≠ 46 := u8_isnt (n := 46) (by omega) h1
  have e2 : s[0] ≠ 92 := u8_isnt (n := 92) (by omega) (by simpa using h2)
  simp [readM, e1, e2]
theorem u8_92 {x : UInt8} (h2 : ((x.toNat : Int) != 92) = false) : x = 92 := u8_is (n := 92) (by omega) (by simpa using h2)
theorem read_one (s : ByteArray) (h : 0 < s.size) (h2 : ((s[0].toNat : Int) != 92) = false) (h3 : s.size ≤ 1) : readM s.data.toList = (0, 0, 2) := by
  rw [data0 s h, u8_92 h2, List.drop_eq_nil_of_le (by rw [size_data]; omega)]; simp [readM]
theorem read_sign (s : ByteArray) (h : 1 < s.size) (h2 : ((s[0].toNat : Int) != 92) = false) (h3 : digitU s[1] = false) : readM s.data.toList = (s[1], 2, 0) := by
  rw [data1 s h, u8_92 h2]; simp [readM, h3]
theorem read_short (s : ByteArray) (h : 1 < s.size) (h2 : ((s[0].toNat : Int) != 92) = false) (h3 : digitU s[1] = true) (h4 : s.size < 4) : readM s.data.toList = (0, 0, 2) := by
  rw [data1 s h, u8_92 h2]
  have hl : (s.data.toList.drop 2).length < 2 := by rw [List.length_drop, size_data]; omega
  match hd : s.data.toList.drop 2, hl with
  | [], _ => simp [readM, h3]
  | [_], _ => simp [readM, h3]
theorem read_bad (s : ByteArray) (h : 3 < s.size) (h2 : ((s[0].toNat : Int) != 92) = false) (h3 : digitU s[1] = true) (h4 : ¬ (digitU s[2] = true ∧ digitU s[3] = true)) : readM s.data.toList = (0, 0, 2) := by
  rw [data3 s h, u8_92 h2]; simp only [readM, h3]; simp [h4]
theorem read_over (s : ByteArray) (h : 3 < s.size) (h2 : ((s[0].toNat : Int) != 92) = false) (h3 : digitU s[1] = true) (h4 : digitU s[2] = true) (h5 : digitU s[3] = true)
    (h6 : 255 < ((s[1].toNat : Int) - 48) * 100 + ((s[2].toNat : Int) - 48) * 10 + ((s[3].toNat : Int) - 48)) : readM s.data.toList = (0, 0, 7) := by
  have b1 := digit_bounds h3; have b2 := digit_bounds h4; have b3 := digit_bounds h5
  rw [data3 s h, u8_92 h2]; simp only [readM, h3, h4, h5]
  rw [if_pos (by omega : 255 < (s[1].toNat - 48) * 100 + (s[2].toNat - 48) * 10 + (s[3].toNat - 48))]; simp
theorem read_ok (s : ByteArray) (h : 3 < s.size) (h2 : ((s[0].toNat : Int) != 92) = false) (h3 : digitU s[1] = true) (h4 : digitU s[2] = true) (h5 : digitU s[3] = true)
    (h6 : ((s[1].toNat : Int) - 48) * 100 + ((s[2].toNat : Int) - 48) * 10 + ((s[3].toNat : Int) - 48) ≤ 255) :
    readM s.data.toList = (UInt8.ofNat ((s[1].toNat - 48) * 100 + (s[2].toNat - 48) * 10 + (s[3].toNat - 48)), 4, 0) ∧
    ((UInt8.ofNat ((s[1].toNat - 48) * 100 + (s[2].toNat - 48) * 10 + (s[3].toNat - 48))).toNat : Int) = ((s[1].toNat : Int) - 48) * 100 + ((s[2].toNat : Int) - 48) * 10 + ((s[3].toNat : Int) - 48) := by
  have b1 := digit_bounds h3; have b2 := digit_bounds h4; have b3 := digit_bounds h5
  constructor
  · rw [data3 s h, u8_92 h2]; simp only [readM, h3, h4, h5]
    rw [if_neg (by omega : ¬ 255 < (s[1].toNat - 48) * 100 + (s[2].toNat - 48) * 10 + (s[3].toNat - 48))]; simp
  · rw [UInt8.toNat_ofNat']; omega

end Go.Proofs.Yteppgeiejknhoaa

/-
  Contract of label.Parse: any text as a label, or why it is none.
-/
namespace Go.Proofs.Yteppgeiejknhoaa
set_option maxRecDepth 20000
open Go.RowKit Go.Shelf

def scanM : Nat → List UInt8 → List UInt8 × Int
  | _, [] => ([], 0)
  | 0, _ :: _ => ([], 2)
  | n + 1, x :: r =>
    if (readM (x :: r)).2.2 = 0 then
      (if (scanM n ((x :: r).drop (readM (x :: r)).2.1)).2 = 0 then ((readM (x :: r)).1 :: (scanM n ((x :: r).drop (readM (x :: r)).2.1)).1, 0) else ([], (scanM n ((x :: r).drop (readM (x :: r)).2.1)).2))
    else ([], (readM (x :: r)).2.2)
def scan (l : List UInt8) : List UInt8 × Int := scanM l.length l
def join (xs : List UInt8) (t : List UInt8 × Int) : List UInt8 × Int := if t.2 = 0 then (xs ++ t.1, 0) else ([], t.2)
def parseM (l : List UInt8) : List UInt8 × Int :=
  if (scan l).2 = 0 then (if checkLabelM (scan l).1 = 0 then ((scan l).1, 0) else ([], checkLabelM (scan l).1)) else ([], (scan l).2)

theorem readM_size {l : List UInt8} (h0 : l ≠ []) (h : (readM l).2.2 = 0) : 1 ≤ (readM l).2.1 ∧ (readM l).2.1 ≤ 4 ∧ (readM l).2.1 ≤ l.length := by
  match l, h0 with
  | x :: r, _ =>
    simp only [readM] at h ⊢
    by_cases h1 : x = 46
    · simp [h1] at h
    by_cases h2 : x = 92
    · simp only [h2, ne_eq, not_true_eq_false, if_false, show ¬ (92 : UInt8) = 46 from by decide] at h ⊢
      match r with
      | [] => simp at h
      | [y] => by_cases g : digitU y = false <;> simp [g] at h ⊢
      | [y, z] => by_cases g : digitU y = false <;> simp [g] at h ⊢
      | y :: z :: u :: r3 =>
        by_cases g : digitU y = false
        · simp [g]
        by_cases g2 : digitU z = true ∧ digitU u = true
        · by_cases g3 : 255 < (y.toNat - 48) * 100 + (z.toNat - 48) * 10 + (u.toNat - 48)
          · simp [g, g2, g3] at h
          · simp [g, g2, g3]
        · simp [g, g2] at h
    · simp [h1, h2]

theorem scanM_fuel : ∀ (n : Nat) (l : List UInt8), l.length ≤ n → scanM n l = scan l := by
  intro n
  induction n using Nat.strongRecOn with
  | _ n ih =>
    intro l hl
    match l, n with
    | [], _ => simp [scanM, scan]
    | x :: r, 0 => simp at hl
    | x :: r, n + 1 =>
      unfold scan
      simp only [List.length_cons, scanM]
      by_cases h : (readM (x :: r)).2.2 = 0
      · have hs := readM_size (by simp) h
        have hd : ((x :: r).drop (readM (x :: r)).2.1).length ≤ r.length := by simp at hs ⊢; omega
        simp only [List.length_cons] at hl
        have e1 := ih n (by omega) _ (Nat.le_trans hd (by omega))
        rw [e1]
        by_cases hn : r.length = n
        · rw [hn, e1]
        · rw [ih r.length (by omega) _ hd]
      · simp [h]

theorem scanM_clean (n : Nat) (l : List UInt8) (h : (scanM n l).2 ≠ 0) : (scanM n l).1 = [] := by
  match n, l with
  | _, [] => simp [scanM]
  | 0, _ :: _ => simp [scanM]
  | n + 1, x :: r =>
    simp only [scanM] at h ⊢
    by_cases h1 : (readM (x :: r)).2.2 = 0
    · by_cases h2 : (scanM n ((x :: r).drop (readM (x :: r)).2.1)).2 = 0
      · simp [h1, h2] at h
      · simp [h1, h2]
    · simp [h1]
theorem join_nil (l : List UInt8) : scan l = join [] (scan l) := by
  unfold join
  by_cases h : (scan l).2 = 0
  · rw [if_pos h, List.nil_append, ← h]
  · rw [if_neg h, ← scanM_clean l.length l h]; rfl
theorem scan_nil : scan [] = ([], 0) := rfl
theorem scan_err {l : List UInt8} (h0 : l ≠ []) (h : (readM l).2.2 ≠ 0) : scan l = ([], (readM l).2.2) := by
  match l, h0 with
  | x :: r, _ => unfold scan; simp only [List.length_cons, scanM]; rw [if_neg h]
theorem scan_ok {l : List UInt8} (h0 : l ≠ []) (h : (readM l).2.2 = 0) : scan l = join [(readM l).1] (scan (l.drop (readM l).2.1)) := by
  match l, h0 with
  | x :: r, _ =>
    have hs := readM_size (l := x :: r) (by simp) h
    have hd : ((x :: r).drop (readM (x :: r)).2.1).length ≤ r.length := by simp at hs ⊢; omega
    have e : scan (x :: r) = scanM (r.length + 1) (x :: r) := rfl
    rw [e, scanM, if_pos h, scanM_fuel _ _ hd]
    unfold join; simp
theorem join_join (xs ys : List UInt8) (t : List UInt8 × Int) : join xs (join ys t) = join (xs ++ ys) t := by
  unfold join; by_cases h : t.2 = 0 <;> simp [h]

/-- The octets in the label that is read so far are no more than the bytes that were read. -/
theorem extract_drop (s : ByteArray) (k : Nat) : (s.extract k s.size).data.toList = s.data.toList.drop k := Lib.extract_to_end s k

def QW (W W' : World) : Prop := ∃ n, W' = W.drewN n
theorem QW.own {W W' : World} (h : QW W W') {base : Nat} {v : Value} {xs : List UInt8} (ho : OwnU8 W base v xs) : OwnU8 W' base v xs := by obtain ⟨n, rfl⟩ := h; exact ho
theorem QW.below {W W' : World} (h : QW W W') {B : Nat} {w : World} (hb : Below B w W) : Below B w W' := by obtain ⟨n, rfl⟩ := h; exact below_drewN hb n
theorem QW.size {W W' : World} (h : QW W W') : W'.heap.size = W.heap.size := by obtain ⟨n, rfl⟩ := h; rfl

def ParsePost (s : ByteArray) (w : World) (e : Ending) (w' : World) : Prop :=
  e = .returned (.tuple #[.string ⟨(parseM s.data.toList).1.toArray⟩, .int .i64 (parseM s.data.toList).2]) ∧ Below w.heap.size w w'
theorem parse_fin {s : ByteArray} {w w' : World} {e : Ending} (l : List UInt8) (er : Int) (h : parseM s.data.toList = (l, er)) (he : e = .returned (.tuple #[.string ⟨l.toArray⟩, .int .i64 er])) (hw : Below w.heap.size w w') : ParsePost s w e w' := by
  unfold ParsePost; rw [h]; exact ⟨he, hw⟩

end Go.Proofs.Yteppgeiejknhoaa

