/-
  GenNumbers: a range in words is its numbers.
-/
import Derived.Test.YtgalihmmlcnahaaDoorGenN
import Derived.BigQuiet
import Derived.Deep.QuietTactic
namespace Go.Proofs.YtgalihmmlcnahaaDoor
open Go.RowKit Go.Shelf Go.Sort
set_option maxRecDepth 20000
set_option linter.unusedVariables false
set_option linter.unusedSimpArgs false

set_option maxRecDepth 100000 in
set_option maxHeartbeats 8000000 in
theorem law8_Numbers (f n st rest : Nat) (hf : f < 65536) (hn : n < 65536) (hst : st < 256) (hrest : rest < 256) (w : World) (hw : TG w) :
    Calls Tryd.prog 4 #[.int .u16 (f : Int), .int .u16 (n : Int), .int .u8 (st : Int), .int .u8 (rest : Int)] w fun e w' => e = .returned (.bool true) ∧ Below w.heap.size w w' := by
  have KN := Lib.hid law8_known
  obtain ⟨K1, hK1⟩ : ∃ K1 : Nat, n % 4096 = K1 := ⟨_, rfl⟩
  obtain ⟨D, hD⟩ : ∃ D : Nat, 1 + st = D := ⟨_, rfl⟩
  obtain ⟨R, hR⟩ : ∃ R : Nat, rest % D = R := ⟨_, rfl⟩
  obtain ⟨M, hM⟩ : ∃ M : Nat, K1 * D = M := ⟨_, rfl⟩
  have hK1b : K1 < 4096 := by rw [← hK1]; exact Nat.mod_lt _ (by omega)
  have hD0 : 0 < D := by omega
  have hD1 : D ≤ 256 := by omega
  have hRb : R < D := by rw [← hR]; exact Nat.mod_lt _ hD0
  have hMb : M ≤ 4096 * 256 := by rw [← hM]; exact Nat.mul_le_mul (by omega) hD1
  obtain ⟨F, hF⟩ : ∃ F : Nat, f + M = F := ⟨_, rfl⟩
  obtain ⟨t, ht⟩ : ∃ t : Nat, F + R = t := ⟨_, rfl⟩
  have htb : t ≤ 2000000 := by omega
  have q1 : (n : Int) % 4096 = (K1 : Int) := by omega
  have q2 : (n : Int).tmod 4096 = (K1 : Int) := by rw [Int.tmod_eq_emod_of_nonneg (by omega)]; omega
  have q3 : 1 + (st : Int) = (D : Int) := by omega
  have q4 : (rest : Int).tmod (D : Int) = (R : Int) := by rw [Int.tmod_eq_emod_of_nonneg (by omega), ← hR]; simp
  have q4b : (rest : Int) % (D : Int) = (R : Int) := by rw [← hR]; simp
  have q5 : (K1 : Int) * (D : Int) = (M : Int) := by rw [← hM]; simp
  have q6 : (f : Int) + (M : Int) = (F : Int) := by omega
  have q7 : (F : Int) + (R : Int) = (t : Int) := by omega
  have c10 : (F : Int) ≤ 2000000 := by omega
  obtain ⟨N, hN⟩ : ∃ N : Nat, K1 + 1 = N := ⟨_, rfl⟩
  have q8 : (N : Int) - 1 = (K1 : Int) := by omega
  have qN : 1 + (K1 : Int) = (N : Int) := by omega
  have c11 : (N : Int) ≤ 4096 := by omega
  have kn := fun W => gen_Numbers (f : Int) (t : Int) (D : Int) W (by omega) (by omega) (by omega)
  have hnm : numsM (f : Int) (t : Int) (D : Int) = ((List.range N).map (fun i => f + i * D), 0) := by
    have h := numsM_range f N D R (by omega) (by omega) hD0 hRb (by rw [← hN, Nat.add_sub_cancel, hM, hF, ht]; omega)
    rw [show N - 1 = K1 from by omega, hM, hF, ht] at h
    exact h
  rw [hnm] at kn
  have KNum : ∀ W, Calls Tryd.prog 9 #[.agg #[.int .i64 (f : Int), .int .i64 (t : Int), .int .i64 (D : Int)]] W fun e w' => ∃ g c, e = .returned (.tuple #[.slice (some ⟨g, 0, none⟩) N c, .int .i64 0]) ∧ (∀ j, j < N → w'.cell? ⟨g, j, none⟩ = some (.int .i64 ((f + j * D : Nat) : Int))) ∧ Below W.heap.size W w' := fun W => by
    refine (kn W).mono ?_
    rintro e w' ⟨v, rfl, ⟨a, c, rfl, _, hh⟩, hb⟩
    rcases hh with hh | ⟨g, rfl, hg, hc⟩
    · exfalso
      have := congrArg List.length hh
      simp at this
      omega
    · refine ⟨g, c, by simp, fun j hj => ?_, hb⟩
      have h := hc j (by simpa using hj)
      simpa [nV] using h
  have KNum' := Lib.hid KNum
  clear kn hnm KNum
  have q9 : ¬ (D : Int) = 0 := by omega
  have c1 : (f : Int) ≤ 65535 := by omega
  have c2 : (n : Int) ≤ 65535 := by omega
  have c3 : (st : Int) ≤ 255 := by omega
  have c4 : (rest : Int) ≤ 255 := by omega
  have c5 : (K1 : Int) < 4096 := by omega
  have c6 : (D : Int) ≤ 256 := by omega
  have c7 : (M : Int) ≤ 1048576 := by omega
  have c8 : (R : Int) < 256 := by omega
  have c9 : (t : Int) ≤ 2000000 := by omega
  obtain ⟨sa, hsa⟩ : ∃ x : ByteArray, (⟨(Lib.decDigits f).toArray⟩ : ByteArray) = x := ⟨_, rfl⟩
  obtain ⟨sb, hsb⟩ : ∃ x : ByteArray, (⟨(Lib.decDigits t).toArray⟩ : ByteArray) = x := ⟨_, rfl⟩
  obtain ⟨sc, hsc⟩ : ∃ x : ByteArray, (⟨(Lib.decDigits D).toArray⟩ : ByteArray) = x := ⟨_, rfl⟩
  obtain ⟨s1, hs1⟩ : ∃ x : ByteArray, sa ++ (⟨#[45]⟩ : ByteArray) = x := ⟨_, rfl⟩
  obtain ⟨s2, hs2⟩ : ∃ x : ByteArray, s1 ++ sb = x := ⟨_, rfl⟩
  obtain ⟨s3, hs3⟩ : ∃ x : ByteArray, s2 ++ (⟨#[47]⟩ : ByteArray) = x := ⟨_, rfl⟩
  obtain ⟨s4, hs4⟩ : ∃ x : ByteArray, s3 ++ sc = x := ⟨_, rfl⟩
  have za : sa.size ≤ 19 := by rw [← hsa, mk_size]; exact dec_len f (by omega)
  have zb : sb.size ≤ 19 := by rw [← hsb, mk_size]; exact dec_len t (by omega)
  have zc : sc.size ≤ 19 := by rw [← hsc, mk_size]; exact dec_len D (by omega)
  have z1 : s1.size = sa.size + 1 := by rw [← hs1, ByteArray.size_append]; rfl
  have z2 : s2.size = s1.size + sb.size := by rw [← hs2, ByteArray.size_append]
  have z3 : s3.size = s2.size + 1 := by rw [← hs3, ByteArray.size_append]; rfl
  have z4 : s4.size = s3.size + sc.size := by rw [← hs4, ByteArray.size_append]
  have h4 : s4.data.toList = rangeL f t D := by
    rw [← hs4, ← hs3, ← hs2, ← hs1, ← hsa, ← hsb, ← hsc]
    simp [ByteArray.data_append, rangeL]
  have a1 := fun W => run_string_add_sum (P := Tryd.prog) W sa ⟨#[45]⟩ (by show sa.size + 1 ≤ _; omega)
  have a2 := fun W => run_string_add_sum (P := Tryd.prog) W s1 sb (by omega)
  have a3 := fun W => run_string_add_sum (P := Tryd.prog) W s2 ⟨#[47]⟩ (by show s2.size + 1 ≤ _; omega)
  have a4 := fun W => run_string_add_sum (P := Tryd.prog) W s3 sc (by omega)
  rw [hs1] at a1; rw [hs2] at a2; rw [hs3] at a3; rw [hs4] at a4
  have k1 := fun W => ref_Decimal f W (by omega)
  have k2 := fun W => ref_Decimal t W (by omega)
  have k3 := fun W => ref_Decimal D W (by omega)
  rw [hsa] at k1; rw [hsb] at k2; rw [hsc] at k3
  have K1' := Lib.hid k1; have K2' := Lib.hid k2; have K3' := Lib.hid k3
  have K4' := Lib.hid (fun W h => gen_ParseRange f t D (by omega) (by unfold gM; omega) hD0 (by unfold gM; omega) s4 h4 (by omega) W h)
  have A1 := Lib.hid a1; have A2 := Lib.hid a2; have A3 := Lib.hid a3; have A4 := Lib.hid a4
  have KS := Lib.hid (fun (W W' : World) (h : TG W ∧ Below w.heap.size w W) (hb : Below W.heap.size W W') => (⟨h.1.below hb, h.2.trans (hb.mono h.2.size)⟩ : TG W' ∧ Below w.heap.size w W'))
  clear a1 a2 a3 a4 k1 k2 k3 h4 z1 z2 z3 z4 za zb zc hs1 hs2 hs3 hs4 hsa hsb hsc
  have HX := Lib.hid (And.intro hf (And.intro hK1b (And.intro hD0 (And.intro hRb (And.intro hM (And.intro hF (And.intro ht htb)))))))
  clear hf hn hst hrest hK1 hD hR hM hK1b hD0 hD1 hRb hMb hF ht htb
  go_enter Tryd.func4, Tryd.ntmps4
  go_wp2_with (go_at_call 6; refine (KN.out _ hw).mono ?_; rintro e w1 ⟨rfl, hb1⟩)
  have hS1 := KS.out _ _ ⟨hw, Below.refl _ w⟩ hb1
  refine (K1'.out _).mono ?_
  rintro e w2 ⟨rfl, hb2⟩
  have hS2 := KS.out _ _ hS1 hb2
  have a1 := A1.out
  clear hb1 hb2 hS1 K1' A1 q1 q2 q3 q4 q4b q5 q6 q7 q9
  go_wp2_with fail
  refine (K2'.out _).mono ?_
  rintro e w3 ⟨rfl, hb3⟩
  have hS3 := KS.out _ _ hS2 hb3
  have a2 := A2.out; have a3 := A3.out
  clear hb3 hS2 K2' A2 A3 a1
  go_wp2_with fail
  refine (K3'.out _).mono ?_
  rintro e w4 ⟨rfl, hb4⟩
  have hS4 := KS.out _ _ hS3 hb4
  have a4 := A4.out
  clear hb4 hS3 K3' A4 a2 a3
  go_wp2_with fail
  refine (K4'.out _ hS4.1).mono ?_
  rintro e w5 ⟨rfl, hb5⟩
  have hS5 := KS.out _ _ hS4 hb5
  clear hb5 hS4 K4' a4
  go_wp2_with fail
  have hSb := KS.out _ _ hS5 ((Below.refl _ w5).alloc (Nat.le_refl _) (.cells #[.int .i64 (f : Int), .int .i64 (t : Int), .int .i64 (D : Int)] 23))
  refine (KNum'.out _).mono ?_
  rintro e w6 ⟨g, cc, rfl, hcells, hb6⟩
  have hS6 := KS.out _ _ hSb hb6
  have HC := Lib.hid hcells
  clear hb6 hSb hS5 KNum' KS hcells KN hw
  go_wp2_with fail
  go_loop [16] (fun i => ∃ k : Nat, i = .int .i64 k ∧ k ≤ N) (fun i => N - (intOf i).toNat)
  case atStart => exact ⟨0, rfl, Nat.zero_le _⟩
  case round =>
    obtain ⟨k, rfl, hk⟩ := hrel
    by_cases hlt : k < N
    · have hck := HC.out k hlt
      obtain ⟨P, hP⟩ : ∃ P : Nat, k * D = P := ⟨_, rfl⟩
      obtain ⟨Q, hQ⟩ : ∃ Q : Nat, f + P = Q := ⟨_, rfl⟩
      rw [hP, hQ] at hck
      have p1 : (k : Int) * (D : Int) = (P : Int) := by rw [← hP]; simp
      have p2 : (f : Int) + (P : Int) = (Q : Int) := by omega
      have hPb : P ≤ 4096 * 256 := by rw [← hP]; exact Nat.mul_le_mul (by omega) (by omega)
      have p3 : (P : Int) ≤ 1048576 := by omega
      have p4 : (Q : Int) ≤ 2000000 := by omega
      have hki : (k : Int) < (N : Int) := by omega
      clear hP hQ hPb
      go_wp2
      go_round
      case rel => exact ⟨k + 1, by go_num, by omega⟩
      case measure => simp [intOf]; omega
    · obtain rfl : k = N := by omega
      go_wp2
      go_ret
      exact ⟨rfl, hS6.2⟩
theorem wfG16 {m : Int} (hm : (Lit.int .u16 m).wf = true) : ∃ n : Nat, m = (n : Int) ∧ n < 65536 := by
  simp [Lit.wf] at hm
  have e1 : IntKind.u16.min = 0 := by decide
  have e2 : IntKind.u16.max = 65535 := by decide
  exact ⟨m.toNat, by omega, by omega⟩
theorem wfG8 {m : Int} (hm : (Lit.int .u8 m).wf = true) : ∃ n : Nat, m = (n : Int) ∧ n < 256 := by
  simp [Lit.wf] at hm
  have e1 : IntKind.u8.min = 0 := by decide
  have e2 : IntKind.u8.max = 255 := by decide
  exact ⟨m.toNat, by omega, by omega⟩
theorem law8_NumbersA (f : Int) (hf : (Lit.int .u16 f).wf = true) (n : Int) (hn : (Lit.int .u16 n).wf = true) (st : Int) (hst : (Lit.int .u8 st).wf = true) (r : Int) (hr : (Lit.int .u8 r).wf = true) (w : World) (hw : TG w) :
    Calls Tryd.prog 4 #[.int .u16 f, .int .u16 n, .int .u8 st, .int .u8 r] w fun e w' => e = .returned (.bool true) ∧ Below w.heap.size w w' := by
  obtain ⟨f, rfl, h1⟩ := wfG16 hf
  obtain ⟨n, rfl, h2⟩ := wfG16 hn
  obtain ⟨st, rfl, h3⟩ := wfG8 hst
  obtain ⟨r, rfl, h4⟩ := wfG8 hr
  exact law8_Numbers f n st r h1 h2 h3 h4 w hw
end Go.Proofs.YtgalihmmlcnahaaDoor
