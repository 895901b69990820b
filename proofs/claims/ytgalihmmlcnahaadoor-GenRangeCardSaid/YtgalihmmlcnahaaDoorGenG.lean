/-
  gen.putBraces where braces are right, and where their base is none.
-/
import Derived.Test.YtgalihmmlcnahaaDoorGenF
import Derived.OwnWalk
namespace Go.Proofs.YtgalihmmlcnahaaDoor
open Go.RowKit Go.Shelf Go.Sort
set_option maxRecDepth 20000
set_option linter.unusedVariables false
set_option linter.unusedSimpArgs false

set_option maxHeartbeats 4000000 in
theorem gen_putBraces (s body base S : ByteArray) (n off m : Int) (wd E : Nat) (T : World → Prop) (hT : ∀ W W', T W → Below W.heap.size W W' → T W')
    (hidx : Lib.indexByte s.data.toList 125 = (E : Int)) (h2E : 2 ≤ E) (hE : E < s.size) (hs : s.size < 1000) (hbody : s.extract 2 E = body)
    (ho1 : -1000 ≤ off) (ho2 : off ≤ 1000) (hn1 : -off ≤ n) (hn2 : n ≤ 70000) (hm : n + off = m)
    (hP : ∀ W, T W → Calls Tryd.prog 27 #[.string body] W (BrcPost off wd base true W))
    (hS : ∀ W, T W → Calls Tryd.prog 28 #[.agg #[.int .i64 off, .int .i64 (wd : Int), .string base], .int .i64 m] W fun e w' => e = .returned (.string S) ∧ Below W.heap.size W w')
    (w : World) (hw : T w) :
    Calls Tryd.prog 19 #[.string s, .int .i64 n] w fun e w' => e = .returned (.tuple #[.string S, .int .i64 ((E : Int) + 1), .int .i64 0]) ∧ Below w.heap.size w w' := by
  have hI := Tryd.strings_IndexByte s 125 w
  have h125 : (125 : Int).toNat.toUInt8 = 125 := by decide
  rw [h125, hidx] at hI
  have q1 : ¬ (E : Int) < 0 := by omega
  have q2 : (2 : Int) ≤ (E : Int) := by omega
  have q3 : (E : Int) ≤ (s.size : Int) := by omega
  have q4 : IntKind.i64.wrap (-off) = -off := by rw [IntKind.wrap_i64]; omega
  have q5 : IntKind.i64.wrap (2147483647 - off) = 2147483647 - off := by rw [IntKind.wrap_i64]; omega
  have q6 : IntKind.i64.wrap m = m := by rw [IntKind.wrap_i64]; omega
  have q7 : IntKind.i64.wrap ((E : Int) + 1) = (E : Int) + 1 := by rw [IntKind.wrap_i64]; omega
  have q8 : ¬ n < -off := by omega
  have q9 : ¬ 2147483647 - off < n := by omega
  have KS := Lib.hid (fun (W W' : World) (h : T W ∧ Below w.heap.size w W) (hb : Below W.heap.size W W') => (⟨hT _ _ h.1 hb, h.2.trans (hb.mono h.2.size)⟩ : T W' ∧ Below w.heap.size w W'))
  have KA := Lib.hid (fun (W : World) (o : Obj) (h : T W ∧ Below w.heap.size w W) => KS.out _ (W.alloc o) h ((Below.refl _ W).alloc (Nat.le_refl _) o))
  have hP1 : ∀ W, T W → Calls Tryd.prog 27 #[.string body] W fun e w' => e = .returned (.tuple #[.agg #[.int .i64 off, .int .i64 (wd : Int), .string base], .int .i64 0]) ∧ Below W.heap.size W w' := fun W h => by
    refine (hP W h).mono ?_
    intro e w' h
    simpa [BrcPost] using h
  have HP := Lib.hid (fun (W : World) (h : T W ∧ Below w.heap.size w W) => hP1 W h.1)
  have hS0 : T w ∧ Below w.heap.size w w := ⟨hw, Below.refl _ w⟩
  have HS := Lib.hid hS
  clear hP hP1 hS hT hidx h2E hE hs ho1 ho2 hn1 hn2 hw
  go_enter Tryd.func19, Tryd.ntmps19
  go_wp2_with (first | (go_at_call 26; refine hI.mono ?_; rintro e w2 ⟨rfl, rfl⟩) | (go_at_call 27; refine (HP.out _ hS0).mono ?_; rintro e w3 ⟨rfl, hb3⟩; have hS3 := KS.out _ _ hS0 hb3; have hk := knew w3 (.cells #[.int .i64 off, .int .i64 (wd : Int), .string base] 67); have hS4 := KA.out _ (.cells #[.int .i64 off, .int .i64 (wd : Int), .string base] 67) hS3) | (go_at_call 28; refine (HS.out _ hS4.1).mono ?_; rintro e w5 ⟨rfl, hb5⟩))
  go_ret3
  exact ⟨rfl, hS4.2.trans (hb5.mono hS4.2.size)⟩
set_option maxHeartbeats 4000000 in
theorem gen_putBad (s body base : ByteArray) (n off : Int) (wd E : Nat) (w : World) 
    (hidx : Lib.indexByte s.data.toList 125 = (E : Int)) (h2E : 2 ≤ E) (hE : E < s.size) (hs : s.size < 1000) (hbody : s.extract 2 E = body)
    (hP : Calls Tryd.prog 27 #[.string body] w (BrcPost off wd base false w)) :
    Calls Tryd.prog 19 #[.string s, .int .i64 n] w fun e w' => e = .returned (.tuple #[.string ⟨#[]⟩, .int .i64 0, .int .i64 2]) ∧ Below w.heap.size w w' := by
  have hI := Tryd.strings_IndexByte s 125 w
  have h125 : (125 : Int).toNat.toUInt8 = 125 := by decide
  rw [h125, hidx] at hI
  have q1 : ¬ (E : Int) < 0 := by omega
  have q2 : (2 : Int) ≤ (E : Int) := by omega
  have q3 : (E : Int) ≤ (s.size : Int) := by omega
  have hP1 : Calls Tryd.prog 27 #[.string body] w fun e w' => e = .returned (.tuple #[.agg #[.int .i64 0, .int .i64 0, .string ⟨#[]⟩], .int .i64 2]) ∧ Below w.heap.size w w' := by
    refine hP.mono ?_
    intro e w' h
    simpa [BrcPost] using h
  clear hP hidx h2E hE hs
  go_enter Tryd.func19, Tryd.ntmps19
  go_wp2_with (first | (go_at_call 26; refine hI.mono ?_; rintro e w2 ⟨rfl, rfl⟩) | (go_at_call 27; refine hP1.mono ?_; rintro e w3 ⟨rfl, hb3⟩))
  go_ret3
  exact ⟨rfl, hb3.alloc hb3.size _⟩
end Go.Proofs.YtgalihmmlcnahaaDoor
