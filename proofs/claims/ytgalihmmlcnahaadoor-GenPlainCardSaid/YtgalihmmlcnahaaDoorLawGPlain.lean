/-
  GenPlain: a text without the sign stays; the sign alone is the number.
-/
import Derived.Test.YtgalihmmlcnahaaDoorGenK
import Derived.BigQuiet
import Derived.Deep.QuietTactic
namespace Go.Proofs.YtgalihmmlcnahaaDoor
open Go.RowKit Go.Shelf Go.Sort
set_option maxRecDepth 20000
set_option linter.unusedVariables false
set_option linter.unusedSimpArgs false

theorem c_neG {c : UInt8} {k : UInt8} (h : ¬ c = k) (i : Int) (hi : (k.toNat : Int) = i) : ((c.toNat : Int) == i) = false := by
  rw [beq_eq_false_iff_ne]
  intro e
  exact h (UInt8.toNat_inj.1 (by omega))
set_option maxRecDepth 100000 in
set_option maxHeartbeats 8000000 in
theorem law8_Plain (s : ByteArray) (n : Nat) (hn : n < 65536) (w : World) (hw : TG w) :
    Calls Tryd.prog 5 #[.string s, .int .u16 (n : Int)] w fun e w' => e = .returned (.bool true) ∧ Below w.heap.size w w' := by
  have KN := Lib.hid law8_known
  have hn0 : (0 : Int) ≤ (n : Int) := by omega
  have hn1 : (n : Int) ≤ 65535 := by omega
  have hwn : IntKind.i64.wrap (n : Int) = (n : Int) := by rw [IntKind.wrap_i64]; omega
  by_cases h100 : 100 < (s.size : Int)
  · go_enter Tryd.func5, Tryd.ntmps5
    go_wp2_with (go_at_call 6; refine (KN.out _ hw).mono ?_; rintro e w1 ⟨rfl, hb1⟩)
    go_ret
    exact ⟨rfl, hb1⟩
  have h100' : (s.size : Int) ≤ 100 := by omega
  clear h100
  go_enter Tryd.func5, Tryd.ntmps5
  go_wp2_with (go_at_call 6; refine (KN.out _ hw).mono ?_; rintro e w1 ⟨rfl, hb1⟩)
  have hw1 := hw.below hb1
  go_loop [5] (fun i => ∃ k : Nat, i = .int .i64 k ∧ k ≤ s.size ∧ Hid (plainG (s.data.toList.take k))) (fun i => s.size - (intOf i).toNat)
  case atStart => exact ⟨0, rfl, Nat.zero_le _, Lib.hid (by intro c hc; simp at hc)⟩
  case round =>
    obtain ⟨k, rfl, hk, HP⟩ := hrel
    by_cases hlt : k < s.size
    · obtain ⟨d, hdv⟩ : ∃ d, s[k]'hlt = d := ⟨_, rfl⟩
      have hti : (k : Int) < (s.size : Int) := by omega
      have HC : Hid (s.data.toList.take (k + 1) = s.data.toList.take k ++ [d]) := Lib.hid (by rw [take_snoc_get s k hlt, hdv])
      by_cases h1 : d = 36
      · subst h1
        go_wp2
        go_ret
        exact ⟨rfl, hb1⟩
      by_cases h2 : d = 92
      · subst h2
        go_wp2
        go_ret
        exact ⟨rfl, hb1⟩
      have HP2 : Hid (plainG (s.data.toList.take (k + 1))) := Lib.hid (by
        intro c hc
        rw [HC.out, List.mem_append] at hc
        rcases hc with hc | hc
        · exact HP.out c hc
        · obtain rfl : c = d := by simpa using hc
          exact ⟨h1, h2⟩)
      have z1 := c_neG h1 36 rfl
      have z2 := c_neG h2 92 rfl
      clear h1 h2
      go_wp2
      go_round
      case rel => exact ⟨k + 1, by go_num, by omega, HP2⟩
      case measure => simp [intOf]; omega
    · obtain rfl : k = s.size := by omega
      have hp : plainG s.data.toList := by
        have h := HP.out
        rwa [List.take_of_length_le (by rw [size_data]; exact Nat.le_refl _)] at h
      have hs1 : s.size ≤ 100 := by omega
      obtain ⟨t1, ht1⟩ : ∃ t1, s ++ (⟨#[36, 46]⟩ : ByteArray) = t1 := ⟨_, rfl⟩
      obtain ⟨t, ht⟩ : ∃ t, t1 ++ s = t := ⟨_, rfl⟩
      have htd : t.data.toList = s.data.toList ++ [36, 46] ++ s.data.toList := by rw [← ht, ← ht1]; simp [ByteArray.data_append]
      have ht1z : t1.size = s.size + 2 := by rw [← ht1, ByteArray.size_append]; rfl
      obtain ⟨dt, hdt⟩ : ∃ dt : ByteArray, (⟨(Lib.decDigits n).toArray⟩ : ByteArray) = dt := ⟨_, rfl⟩
      have hdd : dt.data.toList = Lib.decDigits n := by rw [← hdt]
      have hdz : dt.size ≤ 5 := by rw [← size_data, hdd]; exact dec_len5 n hn
      obtain ⟨u1, hu1⟩ : ∃ u1, s ++ dt = u1 := ⟨_, rfl⟩
      obtain ⟨u2, hu2⟩ : ∃ u2, u1 ++ (⟨#[46]⟩ : ByteArray) = u2 := ⟨_, rfl⟩
      obtain ⟨u3, hu3⟩ : ∃ u3, u2 ++ s = u3 := ⟨_, rfl⟩
      have hu1z : u1.size ≤ 105 := by rw [← hu1]; simp; omega
      have hu2z : u2.size ≤ 106 := by
        rw [← hu2, ByteArray.size_append]
        have : (⟨#[46]⟩ : ByteArray).size = 1 := rfl
        omega
      have hres : (⟨(s.data.toList ++ Lib.decDigits n ++ [46] ++ s.data.toList).toArray⟩ : ByteArray) = u3 := by
        apply ba_ext
        rw [← hu3, ← hu2, ← hu1, ← hdt]
        simp [ByteArray.data_append]
      obtain ⟨C, hC⟩ : ∃ C : ByteArray, (⟨(show6 n).toArray⟩ : ByteArray) = C := ⟨_, rfl⟩
      have hCd : C.data.toList = show6 n := by rw [← hC]
      have hCz : C.size = 6 := by rw [← size_data, hCd]; exact show6_len n hn
      obtain ⟨m, hm⟩ : ∃ m : Nat, 6 - dt.size = m := ⟨_, rfl⟩
      have hcut : C.extract m 6 = dt := by
        apply ba_ext
        rw [extract_data C m 6 (by omega), hCd, List.take_of_length_le (by rw [show6_len n hn]; exact Nat.le_refl _)]
        unfold show6
        have hml : (Lib.repeatL [48] (6 - (Lib.decDigits n).length)).length = m := by
          rw [Lib.repeatL_length, ← hm, ← size_data, hdd]; simp
        rw [← hml, List.drop_left, hdd]
      have hsub : (6 : Int) - (dt.size : Int) = (m : Int) := by omega
      have hwm : IntKind.i64.wrap (m : Int) = (m : Int) := by rw [IntKind.wrap_i64]; omega
      have hm6 : (m : Int) ≤ 6 := by omega
      have K1 := Lib.hid (fun W h => put_plain s n hn hs1 hp W h)
      have k2 := fun W h => put_mid s t n hn hs1 hp htd W h
      rw [hres] at k2
      have K2 := Lib.hid k2
      have k3 := fun W h => put_D n hn W h
      rw [hC] at k3
      have K3 := Lib.hid k3
      have k4 := fun W => ref_Decimal n W (by omega)
      rw [hdt] at k4
      have K4 := Lib.hid k4
      have a1 := fun W => run_string_add_sum (P := Tryd.prog) W s ⟨#[36, 46]⟩ (by show s.size + 2 ≤ _; omega)
      have a2 := fun W => run_string_add_sum (P := Tryd.prog) W t1 s (by omega)
      have a3 := fun W => run_string_add_sum (P := Tryd.prog) W s dt (by omega)
      have a4 := fun W => run_string_add_sum (P := Tryd.prog) W u1 ⟨#[46]⟩ (by show u1.size + 1 ≤ _; omega)
      have a5 := fun W => run_string_add_sum (P := Tryd.prog) W u2 s (by omega)
      rw [ht1] at a1; rw [ht] at a2; rw [hu1] at a3; rw [hu2] at a4; rw [hu3] at a5
      have KS := Lib.hid (fun (W W' : World) (h : TG W ∧ Below w.heap.size w W) (hb : Below W.heap.size W W') => (⟨h.1.below hb, h.2.trans (hb.mono h.2.size)⟩ : TG W' ∧ Below w.heap.size w W'))
      have hS1 : TG w1 ∧ Below w.heap.size w w1 := ⟨hw1, hb1⟩
      have A1 := Lib.hid a1; have A2 := Lib.hid a2; have A3 := Lib.hid a3; have A4 := Lib.hid a4; have A5 := Lib.hid a5
      have Q1 := Lib.hid hCz; have Q2 := Lib.hid hcut; have Q3 := Lib.hid hsub; have Q4 := Lib.hid hwm; have Q5 := Lib.hid hm6
      clear a1 a2 a3 a4 a5 hCz hcut hsub hwm hm6 k2 k3 k4 hu1 hu2 hu3 hu1z hu2z hres hC hCd hm hdt hdd hdz ht1 ht htd ht1z hp hs1 hn hw1 hb1 HP hk hlt hw KN
      go_wp2_with fail
      refine (K1.out _ hS1.1).mono ?_
      rintro e w2 ⟨rfl, hb2⟩
      have hS2 := KS.out _ _ hS1 hb2
      clear hS1 hb2 K1
      have a1 := A1.out; have a2 := A2.out
      clear A1 A2
      go_wp2_with fail
      refine (K2.out _ hS2.1).mono ?_
      rintro e w3 ⟨rfl, hb3⟩
      have hS3 := KS.out _ _ hS2 hb3
      clear hS2 hb3 K2 a1 a2
      go_wp2_with fail
      refine (K3.out _ hS3.1).mono ?_
      rintro e w4 ⟨rfl, hb4⟩
      have hS4 := KS.out _ _ hS3 hb4
      clear hS3 hb4 K3
      go_wp2_with fail
      refine (K4.out _).mono ?_
      rintro e w5 ⟨rfl, hb5⟩
      have hS5 := KS.out _ _ hS4 hb5
      clear hS4 hb5 K4
      have a3 := A3.out; have a4 := A4.out; have a5 := A5.out
      have q1 := Q1.out; have q2 := Q2.out; have q3 := Q3.out; have q4 := Q4.out; have q5 := Q5.out
      clear A3 A4 A5 Q1 Q2 Q3 Q4 Q5 KS
      go_wp2_with fail
      go_ret
      exact ⟨rfl, hS5.2⟩
theorem law8_PlainA (s : ByteArray) {Q : Prop} (_ : Q) (m : Int) (hm : (Lit.int .u16 m).wf = true) (w : World) (hw : TG w) :
    Calls Tryd.prog 5 #[.string s, .int .u16 m] w fun e w' => e = .returned (.bool true) ∧ Below w.heap.size w w' := by
  have h : 0 ≤ m ∧ m ≤ 65535 := by
    simp [Lit.wf] at hm
    have e1 : IntKind.u16.min = 0 := by decide
    have e2 : IntKind.u16.max = 65535 := by decide
    omega
  obtain ⟨n, rfl⟩ : ∃ n : Nat, m = (n : Int) := ⟨m.toNat, by omega⟩
  exact law8_Plain s n (by omega) w hw
end Go.Proofs.YtgalihmmlcnahaaDoor
