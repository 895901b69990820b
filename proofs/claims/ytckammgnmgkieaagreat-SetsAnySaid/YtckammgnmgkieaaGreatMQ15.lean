/-
  Contracts of label.Same and label.readOctet.
-/
import Derived.Test.YtckammgnmgkieaaGreatMQ11
import Derived.Lib.IndexBytes
namespace Go.Proofs.YtckammgnmgkieaaGreat
set_option maxRecDepth 20000
open Go.RowKit Go.Shelf

def sameM (a b : List UInt8) : Bool := decide (a.length = b.length ∧ compareM a b = 0)

set_option maxHeartbeats 1000000 in
theorem label_Same (a b : ByteArray) (w : World) (ha : a.size ≤ maxLen) (hb : b.size ≤ maxLen) :
    Calls Tryz.prog 107 #[.string a, .string b] w fun e w' => e = .returned (.bool (sameM a.data.toList b.data.toList)) ∧ ∃ n, w' = w.drewN n := by
  by_cases h : ((a.size : Int) == (b.size : Int)) = true
  · have hsz : a.data.toList.length = b.data.toList.length := by rw [size_data, size_data]; have : (a.size : Int) = b.size := by simpa using h
                                                                 omega
    have HS := Lib.hid hsz; clear hsz
    have hCa := label_Compare a b w ha hb
    unfold maxLen at ha hb
    go_enter Tryz.func107, Tryz.ntmps107
    go_wp2_with (go_at_call 147; refine hCa.mono ?_; rintro e w' ⟨rfl, n, hn⟩; have HN := Lib.hid hn; clear hn)
    go_ret
    exact ⟨ret_bool (by show (compareM _ _ == 0) = _; unfold sameM; simp only [HS.out, true_and]; rw [Bool.eq_iff_iff]; simp), n, HN.out⟩
  · have h2 : ((a.size : Int) == (b.size : Int)) = false := by simpa using h
    have hsz : a.data.toList.length ≠ b.data.toList.length := by rw [size_data, size_data]; intro e; rw [e] at h2; simp at h2
    have HS := Lib.hid hsz; clear hsz h
    unfold maxLen at ha hb
    go_enter Tryz.func107, Tryz.ntmps107
    go_wp2
    go_ret
    exact ⟨ret_bool (by show false = _; unfold sameM; symm; apply decide_eq_false; intro h; exact HS.out h.1), 0, rfl⟩

end Go.Proofs.YtckammgnmgkieaaGreat

/-
  Contract of label.Parse: any text as a label, or why it is none.
-/
namespace Go.Proofs.YtckammgnmgkieaaGreat
set_option maxRecDepth 20000
open Go.RowKit Go.Shelf

def join (xs : List UInt8) (t : List UInt8 × Int) : List UInt8 × Int := if t.2 = 0 then (xs ++ t.1, 0) else ([], t.2)
def QW (W W' : World) : Prop := ∃ n, W' = W.drewN n
theorem QW.own {W W' : World} (h : QW W W') {base : Nat} {v : Value} {xs : List UInt8} (ho : OwnU8 W base v xs) : OwnU8 W' base v xs := by obtain ⟨n, rfl⟩ := h; exact ho
theorem QW.below {W W' : World} (h : QW W W') {B : Nat} {w : World} (hb : Below B w W) : Below B w W' := by obtain ⟨n, rfl⟩ := h; exact below_drewN hb n
theorem QW.size {W W' : World} (h : QW W W') : W'.heap.size = W.heap.size := by obtain ⟨n, rfl⟩ := h; rfl

end Go.Proofs.YtckammgnmgkieaaGreat

