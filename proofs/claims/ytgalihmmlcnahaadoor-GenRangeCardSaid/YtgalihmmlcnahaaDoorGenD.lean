/-
  gen.isBase, gen.parseBraces (three parts).
-/
import Derived.Test.YtgalihmmlcnahaaDoorGenC
namespace Go.Proofs.YtgalihmmlcnahaaDoor
open Go.RowKit Go.Shelf
set_option maxRecDepth 20000
set_option linter.unusedVariables false
set_option linter.unusedSimpArgs false

def baseOk (s : ByteArray) : Bool := s == ⟨#[100]⟩ || s == ⟨#[111]⟩ || s == ⟨#[120]⟩ || s == ⟨#[88]⟩
set_option maxHeartbeats 1000000 in
theorem isBase_d (w : World) : Calls Tryd.prog 34 #[.string ⟨#[100]⟩] w fun e w' => e = .returned (.bool true) ∧ w' = w := by
  go_enter Tryd.func34, Tryd.ntmps34
  go_wp2
  go_ret
  exact ⟨rfl, rfl⟩
set_option maxHeartbeats 1000000 in
theorem isBase_x (w : World) : Calls Tryd.prog 34 #[.string ⟨#[120]⟩] w fun e w' => e = .returned (.bool true) ∧ w' = w := by
  go_enter Tryd.func34, Tryd.ntmps34
  go_wp2
  go_ret
  exact ⟨rfl, rfl⟩
set_option maxHeartbeats 1000000 in
theorem isBase_q (w : World) : Calls Tryd.prog 34 #[.string ⟨#[113]⟩] w fun e w' => e = .returned (.bool false) ∧ w' = w := by
  go_enter Tryd.func34, Tryd.ntmps34
  go_wp2
  go_ret
  exact ⟨rfl, rfl⟩
theorem results_brc {fn : Func} {t u : Tmp} (h : fn.results = #[.cell t 67, .tmp u]) (tmps : Array Value) (W : World) {a : Nat} {x y z v : Value} (h1 : x.oneCell' = true) (h2 : y.oneCell' = true) (h3 : z.oneCell' = true)
    (ht : tmps.getD t undef = .pointer (some ⟨a, 0, none⟩)) (hv : tmps.getD u undef = v) (hx : W.cell? ⟨a, 0, none⟩ = some x) (hy : W.cell? ⟨a, 1, none⟩ = some y) (hz : W.cell? ⟨a, 2, none⟩ = some z) : (results fn tmps).run Tryd.prog W = .ok (.tuple #[.agg #[x, y, z], v]) W := by
  have ht' : tmps[t]?.getD undef = .pointer (some ⟨a, 0, none⟩) := by rw [← ht]; simp
  have hv' : tmps[u]?.getD undef = v := by rw [← hv]; simp
  have hu : ∀ w, Sem.run Tryd.prog (underlying 67) w = .ok _ w := run_underlying Tryd.underlying67
  simp [results, h, ht', hv', loadVar, asAddr, go_sem, hu, hx, hy, hz, isAgg]
/-- What parseBraces answers of three parts whose numbers are right. -/
def BrcPost (off : Int) (wd : Nat) (base : ByteArray) (ok : Bool) (w : World) (e : Ending) (w' : World) : Prop :=
  e = .returned (.tuple #[.agg #[.int .i64 (if ok then off else 0), .int .i64 ((if ok then wd else 0 : Nat) : Int), .string (if ok then base else ⟨#[]⟩)], .int .i64 (if ok then 0 else 2)]) ∧ Below w.heap.size w w'
set_option maxRecDepth 100000 in
set_option maxHeartbeats 8000000 in
theorem gen_parseBraces (s p0 p1 p2 d : ByteArray) (below ok : Bool) (o wd : Nat) (hs : s.size < 4294967281)
    (hcount : Lib.countB s ⟨#[44]⟩ = 2) (hsplit : Lib.splitB ⟨#[44]⟩ 0 2 s = [p0, p1, p2]) (hd : (⟨(Lib.trimPrefix p0.data.toList [45]).toArray⟩ : ByteArray) = d) (hb : Lib.hasPrefix p0.data.toList [45] = below)
    (hds : d.size ≤ 1000) (hps : p1.size ≤ 1000) (ho : numM d.data.toList gM = (o, 0)) (hw : numM p1.data.toList 63 = (wd, 0)) (hB : ∀ W, Calls Tryd.prog 34 #[.string p2] W fun e w' => e = .returned (.bool ok) ∧ w' = W) (w : World) (hM : MaxG w) :
    Calls Tryd.prog 27 #[.string s] w (BrcPost (if below then -(o : Int) else o) wd p2 ok w) := by
  have hS : ∀ W, MaxG W → Calls Tryd.prog 32 #[.string s, .string ⟨#[44]⟩] W fun e w' => e = .returned (.slice (some ⟨W.heap.size, 0, none⟩) 3 3) ∧ w' = W.alloc (.cells #[.string p0, .string p1, .string p2] 9) := by
    rintro W ⟨m, hm, _⟩
    refine (Tryd.strings_Split s ⟨#[44]⟩ m W hs hm (by decide)).mono ?_
    rintro e w' ⟨he, hw'⟩
    rw [hcount] at he hw'
    rw [hsplit] at hw'
    exact ⟨he, hw'⟩
  have hC : ∀ W, Calls Tryd.prog 33 #[.string p0, .string ⟨#[45]⟩] W fun e w' => e = .returned (.tuple #[.string d, .bool below]) ∧ w' = W := by
    intro W
    refine (Tryd.strings_CutPrefix p0 ⟨#[45]⟩ W).mono ?_
    rintro e w' ⟨he, hw'⟩
    rw [show (⟨#[45]⟩ : ByteArray).data.toList = [45] from rfl, hd, hb] at he
    exact ⟨he, hw'⟩
  have hA : ∀ W, Calls Tryd.prog 14 #[.string d, .int .i64 2147483647] W fun e w' => e = .returned (.tuple #[.int .i64 (o : Int), .int .i64 0]) ∧ w' = W := fun W => by
    have h := number_Parse d gM W (by unfold maxLen; omega) (by decide)
    unfold NumPost at h; rw [ho] at h; exact h
  have hZ : ∀ W, Calls Tryd.prog 14 #[.string p1, .int .i64 63] W fun e w' => e = .returned (.tuple #[.int .i64 (wd : Int), .int .i64 0]) ∧ w' = W := fun W => by
    have h := number_Parse p1 63 W (by unfold maxLen; omega) (by decide)
    unfold NumPost at h; rw [hw] at h; exact h
  have hol : o ≤ 2147483647 := by have := numM_le d.data.toList gM; rw [ho] at this; exact this
  have HM := Lib.hid hM
  clear hcount hsplit hd hb ho hw hM hs hds hps
  cases below <;> cases ok
  all_goals
    go_enter Tryd.func27, Tryd.ntmps27
    go_wp2_with fail
    have b0 : Below w.heap.size w (w.alloc (.cells #[.int .i64 0, .int .i64 0, .string ⟨#[]⟩] 67)) := (Below.refl _ w).alloc (Nat.le_refl _) _
    refine (hS _ (HM.out.below b0)).mono ?_
    rintro e w1 ⟨rfl, rfl⟩
    clear hS
    go_wp2_with fail
    refine (hC _).mono ?_
    rintro e w2 ⟨rfl, rfl⟩
    clear hC
    go_wp2_with fail
    refine (hA _).mono ?_
    rintro e w3 ⟨rfl, rfl⟩
    clear hA
    go_wp2_with fail
    refine (hZ _).mono ?_
    rintro e w4 ⟨rfl, rfl⟩
    clear hZ
    go_wp2_with fail
    refine (hB _).mono ?_
    rintro e w5 ⟨rfl, rfl⟩
    clear hB
  · go_wp2_with fail
    refine bodyPost_ret (v := .tuple #[.agg #[.int .i64 0, .int .i64 0, .string ⟨#[]⟩], .int .i64 2]) (by simp [results, Tryd.results27, go_sem]) rfl ⟨rfl, ?_⟩
    exact (((Below.refl _ w).alloc (Nat.le_refl _) _).alloc (by simp) _).alloc (by simp; omega) _
  · go_wp2_with fail
    refine bodyPost_ret (v := .tuple #[.agg #[.int .i64 (o : Int), .int .i64 (wd : Int), .string p2], .int .i64 0]) (by simp [results, Tryd.results27, go_sem]) rfl ⟨rfl, ?_⟩
    exact (((Below.refl _ w).alloc (Nat.le_refl _) _).alloc (by simp) _).alloc (by simp; omega) _
  · go_wp2_with fail
    refine bodyPost_ret (v := .tuple #[.agg #[.int .i64 0, .int .i64 0, .string ⟨#[]⟩], .int .i64 2]) (by simp [results, Tryd.results27, go_sem]) rfl ⟨rfl, ?_⟩
    exact (((Below.refl _ w).alloc (Nat.le_refl _) _).alloc (by simp) _).alloc (by simp; omega) _
  · go_wp2_with fail
    refine bodyPost_ret (v := .tuple #[.agg #[.int .i64 (-(o : Int)), .int .i64 (wd : Int), .string p2], .int .i64 0]) (by simp [results, Tryd.results27, go_sem]) rfl ⟨rfl, ?_⟩
    exact (((Below.refl _ w).alloc (Nat.le_refl _) _).alloc (by simp) _).alloc (by simp; omega) _
end Go.Proofs.YtgalihmmlcnahaaDoor
