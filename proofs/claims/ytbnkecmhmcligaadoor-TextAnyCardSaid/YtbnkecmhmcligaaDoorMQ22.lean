/-
  Contracts of label.Same and label.readOctet.
-/
import Derived.Test.YtbnkecmhmcligaaDoorMQ08
namespace Go.Proofs.YtbnkecmhmcligaaDoor
set_option linter.unusedVariables false
set_option linter.unusedSimpArgs false
set_option maxRecDepth 20000
open Go.RowKit Go.Shelf

def sameM (a b : List UInt8) : Bool := decide (a.length = b.length ∧ compareM a b = 0)

/-- What an octet is written with, read: the octet, how many bytes, the error. -/
def readM : List UInt8 → UInt8 × Nat × Int
  | [] => (0, 0, 2)
  | x :: r =>
    if x = 46 then (0, 0, 2) else if x ≠ 92 then (x, 1, 0) else
    match r with
    | [] => (0, 0, 2)
    | y :: r2 =>
      if digitU y = false then (y, 2, 0) else
      match r2 with
      | z :: u :: _ =>
        if digitU z = true ∧ digitU u = true then
          if 255 < (y.toNat - 48) * 100 + (z.toNat - 48) * 10 + (u.toNat - 48) then (0, 0, 7) else (UInt8.ofNat ((y.toNat - 48) * 100 + (z.toNat - 48) * 10 + (u.toNat - 48)), 4, 0)
        else (0, 0, 2)
      | _ => (0, 0, 2)

def ReadPost (s : ByteArray) (w : World) (e : Ending) (w' : World) : Prop :=
  e = .returned (.tuple #[bv (readM s.data.toList).1, .int .i64 (readM s.data.toList).2.1, .int .i64 (readM s.data.toList).2.2]) ∧ ∃ n, w' = w.drewN n
theorem read_fin {s : ByteArray} {w w' : World} {e : Ending} (c : UInt8) (k : Nat) (er : Int) (h : readM s.data.toList = (c, k, er)) (he : e = .returned (.tuple #[bv c, .int .i64 k, .int .i64 er])) (hw : ∃ n, w' = w.drewN n) : ReadPost s w e w' := by
  unfold ReadPost; rw [h]; exact ⟨he, hw⟩

theorem data0 (s : ByteArray) (h : 0 < s.size) : s.data.toList = s[0] :: s.data.toList.drop 1 := by
  have := drop_cons_get s 0 h; simpa using this
theorem data1 (s : ByteArray) (h : 1 < s.size) : s.data.toList = s[0] :: s[1] :: s.data.toList.drop 2 := by
  rw [data0 s (by omega), drop_cons_get s 1 h]; simp
theorem data3 (s : ByteArray) (h : 3 < s.size) : s.data.toList = s[0] :: s[1] :: s[2] :: s[3] :: s.data.toList.drop 4 := by
  rw [data1 s (by omega), drop_cons_get s 2 (by omega), drop_cons_get s 3 (by omega)]; simp
theorem u8_is {x : UInt8} {n : Nat} (hn : n < 256) (h : ((x.toNat : Int) == (n : Int)) = true) : x = UInt8.ofNat n := by
  apply UInt8.toNat_inj.1
  have : (x.toNat : Int) = n := by simpa using h
  rw [UInt8.toNat_ofNat']; omega
theorem u8_isnt {x : UInt8} {n : Nat} (hn : n < 256) (h : ((x.toNat : Int) == (n : Int)) = false) : x ≠ UInt8.ofNat n := by
  intro e; subst e
  rw [UInt8.toNat_ofNat'] at h
  have : n % 2 ^ 8 = n := by omega
  rw [this] at h; simp at h
theorem digit_bounds {c : UInt8} (h : digitU c = true) : 48 ≤ c.toNat ∧ c.toNat ≤ 57 := of_decide_eq_true h

theorem read_dot (s : ByteArray) (h : 0 < s.size) (h1 : ((s[0].toNat : Int) == 46) = true) : readM s.data.toList = (0, 0, 2) := by
  rw [data0 s h]; have : s[0] = 46 := u8_is (n := 46) (by omega) h1
  simp [readM, this]
theorem read_plain (s : ByteArray) (h : 0 < s.size) (h1 : ((s[0].toNat : Int) == 46) = false) (h2 : ((s[0].toNat : Int) != 92) = true) : readM s.data.toList = (s[0], 1, 0) := by
  rw [data0 s h]; have e1 : s[0] ≠ 46 := u8_isnt (n := 46) (by omega) h1
  have e2 : s[0] ≠ 92 := u8_isnt (n := 92) (by omega) (by simpa using h2)
  simp [readM, e1, e2]
theorem u8_92 {x : UInt8} (h2 : ((x.toNat : Int) != 92) = false) : x = 92 := u8_is (n := 92) (by omega) (by simpa using h2)
theorem read_one (s : ByteArray) (h : 0 < s.size) (h2 : ((s[0].toNat : Int) != 92) = false) (h3 : s.size ≤ 1) : readM s.data.toList = (0, 0, 2) := by
  rw [data0 s h, u8_92 h2, List.drop_eq_nil_of_le (by rw [size_data]; omega)]; simp [readM]
theorem read_sign (s : ByteArray) (h : 1 < s.size) (h2 : ((s[0].toNat : Int) != 92) = false) (h3 : digitU s[1] = false) : readM s.data.toList = (s[1], 2, 0) := by
  rw [data1 s h, u8_92 h2]; simp [readM, h3]
theorem read_short (s : ByteArray) (h : 1 < s.size) (h2 : ((s[0].toNat : Int) != 92) = false) (h3 : digitU s[1] = true) (h4 : s.size < 4) : readM s.data.toList = (0, 0, 2) := by
  rw [data1 s h, u8_92 h2]
  have hl : (s.data.toList.drop 2).length < 2 := by rw [List.length_drop, size_data]; omega
  match hd : s.data.toList.drop 2, hl with
  | [], _ => simp [readM, h3]
  | [_], _ => simp [readM, h3]
theorem read_bad (s : ByteArray) (h : 3 < s.size) (h2 : ((s[0].toNat : Int) != 92) = false) (h3 : digitU s[1] = true) (h4 : ¬ (digitU s[2] = true ∧ digitU s[3] = true)) : readM s.data.toList = (0, 0, 2) := by
  rw [data3 s h, u8_92 h2]; simp only [readM, h3]; simp [h4]
theorem read_over (s : ByteArray) (h : 3 < s.size) (h2 : ((s[0].toNat : Int) != 92) = false) (h3 : digitU s[1] = true) (h4 : digitU s[2] = true) (h5 : digitU s[3] = true)
    (h6 : 255 < ((s[1].toNat : Int) - 48) * 100 + ((s[2].toNat : Int) - 48) * 10 + ((s[3].toNat : Int) - 48)) : readM s.data.toList = (0, 0, 7) := by
  have b1 := digit_bounds h3; have b2 := digit_bounds h4; have b3 := digit_bounds h5
  rw [data3 s h, u8_92 h2]; simp only [readM, h3, h4, h5]
  rw [if_pos (by omega : 255 < (s[1].toNat - 48) * 100 + (s[2].toNat - 48) * 10 + (s[3].toNat - 48))]; simp
theorem read_ok (s : ByteArray) (h : 3 < s.size) (h2 : ((s[0].toNat : Int) != 92) = false) (h3 : digitU s[1] = true) (h4 : digitU s[2] = true) (h5 : digitU s[3] = true)
    (h6 : ((s[1].toNat : Int) - 48) * 100 + ((s[2].toNat : Int) - 48) * 10 + ((s[3].toNat : Int) - 48) ≤ 255) :
    readM s.data.toList = (UInt8.ofNat ((s[1].toNat - 48) * 100 + (s[2].toNat - 48) * 10 + (s[3].toNat - 48)), 4, 0) ∧
    ((UInt8.ofNat ((s[1].toNat - 48) * 100 + (s[2].toNat - 48) * 10 + (s[3].toNat - 48))).toNat : Int) = ((s[1].toNat : Int) - 48) * 100 + ((s[2].toNat : Int) - 48) * 10 + ((s[3].toNat : Int) - 48) := by
  have b1 := digit_bounds h3; have b2 := digit_bounds h4; have b3 := digit_bounds h5
  constructor
  · rw [data3 s h, u8_92 h2]; simp only [readM, h3, h4, h5]
    rw [if_neg (by omega : ¬ 255 < (s[1].toNat - 48) * 100 + (s[2].toNat - 48) * 10 + (s[3].toNat - 48))]; simp
  · rw [UInt8.toNat_ofNat']; omega

end Go.Proofs.YtbnkecmhmcligaaDoor

