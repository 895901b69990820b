/-
  TokPlain: words without signs, with blanks between, are these, line by line.
-/
import Derived.Test.YtlgbdbaacjahpaaTokKn
import Derived.Test.YtlgbdbaacjahpaaTokB
import Derived.Test.YtlgbdbaacjahpaaStrs
import Derived.BigQuiet
import Derived.Deep.QuietTactic
import Derived.IntWalk
namespace Go.Proofs.Ytlgbdbaacjahpaa
open Go.RowKit Go.Shelf
set_option maxRecDepth 20000
set_option linter.unusedVariables false

theorem strF_of (l : List UInt8) : ∃ s : ByteArray, s.data.toList = l ∧ s.size = l.length ∧ strV l = .string s := ⟨⟨l.toArray⟩, by simp, by show l.toArray.size = _; simp, rfl⟩
theorem mkF_size (l : List UInt8) : (⟨l.toArray⟩ : ByteArray).size = l.length := by show l.toArray.size = _; simp
theorem mkF_append (a b : List UInt8) : (⟨a.toArray⟩ : ByteArray) ++ ⟨b.toArray⟩ = ⟨(a ++ b).toArray⟩ := by
  have h : ∀ {a b : ByteArray}, a.data.toList = b.data.toList → a = b := by
    intro a b h; obtain ⟨⟨a⟩⟩ := a; obtain ⟨⟨b⟩⟩ := b; simp at h; rw [h]
  apply h; simp [ByteArray.data_append]
def PlainR (k : Nat) (xs : List (List UInt8)) (s : Value) (i : Nat) : Prop := s = .string ⟨(tP k 0 (xs.take i)).toArray⟩ ∧ (∀ x ∈ xs.take i, PlainW x ∧ x.length ≤ 50)
theorem tP_le (k : Nat) : ∀ (l : List (List UInt8)) (i : Nat), (∀ x ∈ l, PlainW x ∧ x.length ≤ 50) → (tP k i l).length ≤ 51 * l.length := by
  intro l
  induction l with
  | nil => intro i _; simp [tP]
  | cons w l ih =>
    intro i h
    have h1 := (h w (by simp)).2
    have h2 := ih (i + 1) (fun x hx => h x (by simp [hx]))
    rw [tP, List.length_append, List.length_cons, List.length_cons]
    omega
theorem plain_at {kk k i : Nat} {xs : List (List UInt8)} (hk0 : 0 < kk) (hx : xs.length = k) (hi : i < k) : i / kk < (k + kk - 1) / kk ∧ ∃ e L, (dsP kk xs ((k + kk - 1) / kk))[i / kk]? = some e ∧ e.line = i / kk + 1 ∧ e.words.length = L ∧ i % kk < L ∧ e.words[i % kk]? = some (xs[i]'(by omega), false) := by
  have h1 := Nat.div_add_mod i kk
  have h2 := Nat.mod_lt i hk0
  have hm : i / kk * kk = kk * (i / kk) := Nat.mul_comm _ _
  have hq : i / kk < (k + kk - 1) / kk := by
    rw [Nat.lt_iff_add_one_le, Nat.le_div_iff_mul_le hk0, Nat.add_mul, hm]
    omega
  refine ⟨hq, entOf kk xs (i / kk), _, ?_, rfl, rfl, ?_, ?_⟩
  · unfold dsP
    rw [List.getElem?_map, List.getElem?_range hq]; rfl
  · simp only [entOf, List.length_map, List.length_take, List.length_drop]
    omega
  · simp only [entOf, List.getElem?_map]
    rw [List.getElem?_take, if_pos h2, List.getElem?_drop]
    rw [show i / kk * kk + i % kk = i by omega, List.getElem?_eq_getElem (by omega)]
    rfl
set_option maxRecDepth 100000 in
set_option maxHeartbeats 8000000 in
theorem law7_Plain (v : Value) (xs : List (List UInt8)) (m : Int) (w : World) (hA : StrsArg w v xs) (hm0 : (Lit.int .u8 m).wf = true) : Calls Try.prog 4 #[v, .int .u8 m] w fun e w' => e = .returned (.bool true) ∧ Below w.heap.size w w' := by
  have hm : 0 ≤ m ∧ m ≤ 255 := by
    have h := hm0
    simp [Lit.wf] at h
    have e1 : IntKind.u8.min = 0 := by decide
    have e2 : IntKind.u8.max = 255 := by decide
    omega
  obtain ⟨hat, hn, hx⟩ := hA
  unfold maxLen at hn
  obtain ⟨a, c, rfl, hcells⟩ := hat
  by_cases h40 : 40 < (xs.length : Int)
  · clear hcells hx
    generalize xs.length = n at *
    go_enter Try.func4, Try.ntmps4
    go_wp2_with (go_at_call 7; refine (law7_known _).mono ?_; rintro e w1 ⟨rfl, hb1⟩)
    go_ret
    exact ⟨rfl, hb1⟩
  have h40' : (xs.length : Int) ≤ 40 := by omega
  clear h40
  obtain ⟨n, hxn⟩ : ∃ n, xs.length = n := ⟨_, rfl⟩
  obtain ⟨hm1, hm2⟩ := hm
  clear hm0
  have hkm : ∃ kk : Nat, 1 + m % 5 = (kk : Int) ∧ 0 < kk ∧ kk ≤ 5 := ⟨(1 + m % 5).toNat, by omega, by omega, by omega⟩
  obtain ⟨kk, hkk, hk0, hk5⟩ := hkm
  have HKK := Lib.hid hkk
  rw [hxn] at hn h40' ⊢
  have HXN := Lib.hid hxn; clear hxn hkk
  have HA : Hid (xs = [] ∨ ∃ b off, a = some ⟨b, off, none⟩ ∧ b < w.heap.size ∧ ∀ j (hj : j < xs.length), w.cell? ⟨b, off + j, none⟩ = some (strV xs[j])) := Lib.hid hcells
  clear hcells
  go_enter Try.func4, Try.ntmps4
  go_wp2_with (go_at_call 7; refine (law7_known _).mono ?_; rintro e w1 ⟨rfl, hb1⟩)
  rw [HKK.out]
  have hk0' : (0 : Int) < (kk : Int) := by omega
  have hk5' : (kk : Int) ≤ 5 := by omega
  go_loop [6, 7] (fun s i => ∃ k : Nat, i = .int .i64 k ∧ k ≤ n ∧ PlainR kk xs s k) (fun _ i => n - (intOf i).toNat)
  case atStart => exact ⟨0, rfl, Nat.zero_le _, rfl, by simp⟩
  case round =>
    obtain ⟨k, rfl, hk, rfl, HL0⟩ := hrel
    have HL := Lib.hid HL0
    clear HL0
    by_cases hlt : k < n
    · have hkx : k < xs.length := by rw [HXN.out]; exact hlt
      obtain ⟨b, off, rfl, hb, hcells⟩ : ∃ b off, a = some ⟨b, off, none⟩ ∧ b < w.heap.size ∧ ∀ j (hj : j < xs.length), w.cell? ⟨b, off + j, none⟩ = some (strV xs[j]) := by
        rcases HA.out with e | h
        · subst e; simp at hkx
        · exact h
      obtain ⟨sk, hsk0, hskz0, hskv0⟩ := strF_of xs[k]
      have HSK := Lib.hid (And.intro hsk0 (And.intro hskz0 hskv0)); clear hsk0 hskz0 hskv0
      have hck : w1.cell? ⟨b, off + k, none⟩ = some (.string sk) := by rw [← HSK.out.2.2]; exact (hb1.cell (p := ⟨b, off + k, none⟩) hb).trans (hcells k hkx)
      have hskm : sk.size ≤ 9223372036854775807 := by have := hx xs[k] (List.getElem_mem hkx); have := HSK.out.2.1; unfold maxLen at *; omega
      clear hcells hx
      have hlti : (k : Int) < (n : Int) := by omega
      by_cases h50 : 50 < (sk.size : Int)
      · go_wp2
        go_ret
        exact ⟨rfl, hb1⟩
      have h50' : (sk.size : Int) ≤ 50 := by omega
      clear h50
      by_cases hz : sk.toList = []
      · have hze : sk.toList.isEmpty = true := by rw [hz]; rfl
        go_wp2
        go_ret
        exact ⟨rfl, hb1⟩
      have hze : sk.toList.isEmpty = false := by simpa using hz
      go_wp2
      go_loop [8] (fun j => ∃ t : Nat, j = .int .i64 t ∧ t ≤ sk.size ∧ Hid (∀ d ∈ sk.data.toList.take t, PlainC d)) (fun j => sk.size - (intOf j).toNat)
      case atStart => exact ⟨0, rfl, Nat.zero_le _, Lib.hid (by simp)⟩
      case round =>
        obtain ⟨t, rfl, ht, HT⟩ := hrel
        by_cases htl : t < sk.size
        · obtain ⟨d, hdv⟩ : ∃ d, sk[t]'htl = d := ⟨_, rfl⟩
          have hti : (t : Int) < (sk.size : Int) := by omega
          have HC : Hid (sk.data.toList.take (t + 1) = sk.data.toList.take t ++ [d]) := Lib.hid (by rw [List.take_succ_eq_append_getElem (by simpa using htl), ← hdv]; rfl)
          by_cases h0 : (d.toNat : Int) ≤ 32
          · go_wp2
            go_ret
            exact ⟨rfl, hb1⟩
          have h0' : 32 < (d.toNat : Int) := by omega
          clear h0
          by_cases h1 : d = 34
          · subst h1
            go_wp2
            go_ret
            exact ⟨rfl, hb1⟩
          by_cases h2 : d = 40
          · subst h2
            go_wp2
            go_ret
            exact ⟨rfl, hb1⟩
          by_cases h3 : d = 41
          · subst h3
            go_wp2
            go_ret
            exact ⟨rfl, hb1⟩
          by_cases h4 : d = 59
          · subst h4
            go_wp2
            go_ret
            exact ⟨rfl, hb1⟩
          by_cases h5 : d = 92
          · subst h5
            go_wp2
            go_ret
            exact ⟨rfl, hb1⟩
          have z1 := c_ne h1 34 rfl
          have z2 := c_ne h2 40 rfl
          have z3 := c_ne h3 41 rfl
          have z4 := c_ne h4 59 rfl
          have z5 := c_ne h5 92 rfl
          have HP := Lib.hid (plainC_of (c := d) (by omega) h1 h2 h3 h4 h5)
          clear h1 h2 h3 h4 h5
          go_wp2
          go_round
          case rel => exact ⟨t + 1, by go_num, by omega, Lib.hid (by rw [HC.out]; intro x hx; rcases List.mem_append.1 hx with h | h; exact HT.out x h; obtain rfl := List.mem_singleton.1 h; exact HP.out)⟩
          case measure => simp [intOf]; omega
        · obtain rfl : t = sk.size := by omega
          have HP : Hid (PlainW xs[k] ∧ xs[k].length ≤ 50) := Lib.hid (by
            have h1 := HSK.out.1
            have h2 := HSK.out.2.1
            refine ⟨⟨?_, fun d hd => HT.out d ?_⟩, by omega⟩
            · intro e
              rw [e] at h1
              exact hz (by rw [toList_data, h1])
            · rw [List.take_of_length_le (by simp), h1]; exact hd)
          have htake : xs.take (k + 1) = xs.take k ++ [xs[k]] := List.take_succ_eq_append_getElem hkx
          have hlen := tP_le kk (xs.take k) 0 HL.out
          have hl2 : (xs.take k).length ≤ k := List.length_take_le _ _
          have hl3 : (xs.take k).length = k := by rw [List.length_take]; omega
          have HS2 : Hid (tP kk 0 (xs.take (k + 1)) = tP kk 0 (xs.take k) ++ (xs[k] ++ [sepP kk k])) := Lib.hid (by rw [htake, tP_snoc, hl3, Nat.zero_add])
          have HL2 : Hid (∀ x ∈ xs.take (k + 1), PlainW x ∧ x.length ≤ 50) := Lib.hid (by rw [htake]; intro x hx; rcases List.mem_append.1 hx with h | h; exact HL.out x h; obtain rfl := List.mem_singleton.1 h; exact HP.out)
          have hsk2 : sk = ⟨xs[k].toArray⟩ := by
            have h := HSK.out.2.2
            unfold strV at h
            injection h with h
            exact h.symm
          obtain ⟨S, hS⟩ : ∃ S, tP kk 0 (xs.take k) = S := ⟨_, rfl⟩
          rw [hS] at hlen HS2 ⊢
          have hS50 : S.length ≤ 3000 := by omega
          have hx50 : xs[k].length ≤ 50 := HP.out.2
          have a1 := run_string_add_sum (P := Try.prog) w1 ⟨S.toArray⟩ sk (by rw [mkF_size]; omega)
          have e1 : (⟨S.toArray⟩ : ByteArray) ++ sk = ⟨(S ++ xs[k]).toArray⟩ := by rw [hsk2]; exact mkF_append _ _
          rw [e1] at a1
          generalize xs[k] = X at *
          have a2 := run_string_add_sum (P := Try.prog) w1 ⟨(S ++ X).toArray⟩ ⟨#[10]⟩ (by rw [mkF_size, List.length_append]; show _ + 1 ≤ _; omega)
          have a3 := run_string_add_sum (P := Try.prog) w1 ⟨(S ++ X).toArray⟩ ⟨#[32]⟩ (by rw [mkF_size, List.length_append]; show _ + 1 ≤ _; omega)
          have e2 : (⟨(S ++ X).toArray⟩ : ByteArray) ++ ⟨#[10]⟩ = ⟨(S ++ X ++ [10]).toArray⟩ := mkF_append _ [10]
          have e3 : (⟨(S ++ X).toArray⟩ : ByteArray) ++ ⟨#[32]⟩ = ⟨(S ++ X ++ [32]).toArray⟩ := mkF_append _ [32]
          rw [e2] at a2
          rw [e3] at a3
          have HSEP := Lib.hid (show sepP kk k = if k % kk = kk - 1 then 10 else 32 from rfl)
          clear e1 e2 e3 htake hlen hl2 hl3 hS hsk2 HSK HT HP hx50 hS50
          by_cases hsep : k % kk = kk - 1
          · have hz1 : (((k : Int) % (kk : Int)) == (kk : Int) - 1) = true := by
              have : ((k % kk : Nat) : Int) = (kk : Int) - 1 := by omega
              simpa using this
            have HSE := Lib.hid hsep
            clear hsep
            go_wp2
            go_round
            case rel => exact ⟨k + 1, by go_num, by omega, by rw [HS2.out, HSEP.out, if_pos HSE.out], HL2.out⟩
            case measure => simp [intOf]; omega
          · have hz1 : (((k : Int) % (kk : Int)) == (kk : Int) - 1) = false := by
              have : ((k % kk : Nat) : Int) ≠ (kk : Int) - 1 := by omega
              simpa using this
            have HSE := Lib.hid hsep
            clear hsep
            go_wp2
            go_round
            case rel => exact ⟨k + 1, by go_num, by omega, by rw [HS2.out, HSEP.out, if_neg HSE.out], HL2.out⟩
            case measure => simp [intOf]; omega
    · obtain rfl : k = n := by omega
      have hall : xs.take k = xs := List.take_of_length_le (by rw [HXN.out]; exact Nat.le_refl _)
      have hL := HL.out
      rw [hall] at hL ⊢
      have hlen := tP_le kk xs 0 hL
      have hent := plain_ent kk hk0 xs (fun x hx => (hL x hx).1)
      rw [HXN.out] at hent hlen
      have HL2 := Lib.hid hL
      clear HL hL hall hx
      have hP := fun W => kn_Entries ⟨(tP kk 0 xs).toArray⟩ (tP kk 0 xs) _ (by simp) hent W (by rw [mkF_size]; omega)
      clear hent hlen
      generalize (⟨(tP kk 0 xs).toArray⟩ : ByteArray) = S at *
      obtain ⟨q, hq⟩ : ∃ q, (k + kk - 1) / kk = q := ⟨_, rfl⟩
      rw [hq] at hP
      have hdl : (dsP kk xs q).length = q := by simp [dsP]
      unfold EntsPost at hP
      simp only [hdl] at hP
      have hqz : ((q : Int) != ((k : Int) + (kk : Int) - 1) / (kk : Int)) = false := by
        have : (((k + kk - 1) / kk : Nat) : Int) = ((k : Int) + (kk : Int) - 1) / (kk : Int) := by
          rw [Int.natCast_ediv]; congr 1; omega
        rw [← hq, this]; simp
      have HQ := Lib.hid hq; have HDL := Lib.hid hdl
      clear hq hdl
      go_wp2_with fail
      refine (hP _).mono ?_
      rintro e w2 ⟨a2, c2, rfl, E, hb2⟩
      have HB := Lib.hid (hb1.trans (hb2.mono hb1.size))
      have HB2 := Lib.hid hb2
      clear hP hb2
      obtain ⟨a2', c2', e, h⟩ := E
      rw [HDL.out] at e
      cases e
      go_wp2_with fail
      have HE := Lib.hid h
      clear h
      go_loopw [13] (fun i wr => ∃ i' : Nat, i = .int .i64 i' ∧ i' ≤ k ∧ Below w.heap.size w wr ∧ Below w2.heap.size w2 wr) (fun i _ => k - (intOf i).toNat)
      case atStart => exact ⟨0, rfl, Nat.zero_le _, HB.out, Below.refl _ _⟩
      case round =>
        obtain ⟨i, rfl, hi, hbr, hbr2⟩ := hrel
        by_cases hik : i < k
        · have hix : i < xs.length := by rw [HXN.out]; exact hik
          obtain ⟨hjq, e, L, he, hline, hL, hrL, hwd⟩ := plain_at hk0 HXN.out hik
          rw [HQ.out] at hjq he
          have hj : (i : Int) / (kk : Int) = ((i / kk : Nat) : Int) := by rw [Int.natCast_ediv]
          have hr : (i : Int) % (kk : Int) = ((i % kk : Nat) : Int) := by rw [Int.natCast_emod]
          obtain ⟨b, off, rfl, hb, hcells⟩ : ∃ b off, a = some ⟨b, off, none⟩ ∧ b < w.heap.size ∧ ∀ j (hj : j < xs.length), w.cell? ⟨b, off + j, none⟩ = some (strV xs[j]) := by
            rcases HA.out with e | h
            · subst e; simp at hix
            · exact h
          obtain ⟨sk, hsk0, hskz0, hskv0⟩ := strF_of xs[i]
          have hck : wr.cell? ⟨b, off + i, none⟩ = some (.string sk) := by rw [← hskv0]; exact (hbr.cell (p := ⟨b, off + i, none⟩) hb).trans (hcells i hix)
          rcases HE.out with h | ⟨g, rfl, hg, hc⟩
          · rw [h] at he; simp at he
          obtain ⟨hjl, hje⟩ := List.getElem?_eq_some_iff.1 he
          obtain ⟨aw, cw, p0, p1, p2, hw⟩ := hc (i / kk) hjl
          rw [hje] at p0 p1 p2 hw
          rw [hL] at p2
          rw [hline] at p0
          rcases hw with h | ⟨gw, rfl, hgw, hcw⟩
          · rw [h] at hwd; simp at hwd
          obtain ⟨hwl, hwe⟩ := List.getElem?_eq_some_iff.1 hwd
          obtain ⟨r0, r1⟩ := hcw (i % kk) hwl
          rw [hwe] at r0 r1
          rw [show strV (xs[i], false).1 = .string sk from hskv0] at r0
          have hjle := Nat.div_le_self i kk
          have hrle := Nat.mod_le i kk
          replace p0 := (hbr2.cell (p := ⟨g, i / kk * 3, none⟩) hg).trans p0
          replace p2 := (hbr2.cell (p := ⟨g, i / kk * 3 + 2, none⟩) hg).trans p2
          replace r0 := (hbr2.cell (p := ⟨gw, i % kk * 2, none⟩) hgw).trans r0
          replace r1 := (hbr2.cell (p := ⟨gw, i % kk * 2 + 1, none⟩) hgw).trans r1
          have HBR := Lib.hid hbr; have HBR2 := Lib.hid hbr2
          generalize i / kk = j at *
          generalize i % kk = r at *
          have hjq' : (j : Int) < (q : Int) := by omega
          have hrL' : (r : Int) < (L : Int) := by omega
          have hik' : (i : Int) < (k : Int) := by omega
          clear hcw hc hcells hwe hwd hje he hline hL hwl hjl hskv0 hskz0 hsk0 p1
          have hj0 : (0 : Int) ≤ (j : Int) := by omega
          have hr0 : (0 : Int) ≤ (r : Int) := by omega
          have hkz : ((kk : Int) == 0) = false := by simp; omega
          have hkz1 : ¬ kk = 0 := by omega
          have hkz2 : ¬ (kk : Int) = 0 := by omega
          have wj : IntKind.i64.wrap (j : Int) = (j : Int) := IntWalk.i64_in _ (by omega)
          have wr1 : IntKind.i64.wrap (r : Int) = (r : Int) := IntWalk.i64_in _ (by omega)
          have wj1 : IntKind.i64.wrap ((j : Int) + 1) = (j : Int) + 1 := IntWalk.i64_in _ (by omega)
          have hd1 : decide (q ≤ j) = false := by simp; omega
          have hd2 : decide (L ≤ r) = false := by simp; omega
          have hd3 : decide ((q : Int) ≤ (j : Int)) = false := by simp; omega
          have hd4 : decide ((L : Int) ≤ (r : Int)) = false := by simp; omega
          have hjt : (i : Int).tdiv (kk : Int) = (j : Int) := by rw [Int.tdiv_eq_ediv_of_nonneg (by omega)]; exact hj
          have hrt : (i : Int).tmod (kk : Int) = (r : Int) := by rw [Int.tmod_eq_emod_of_nonneg (by omega)]; exact hr
          clear hbr hbr2 hg hgw hb
          go_wp2
          go_quiet (fail)
          go_wp2
          go_roundw
          case rel => exact ⟨i + 1, by go_num, by omega, HBR.out.trans ⟨rfl, rfl, rfl, Nat.le_refl _, fun _ _ => rfl⟩, HBR2.out.trans ⟨rfl, rfl, rfl, Nat.le_refl _, fun _ _ => rfl⟩⟩
          case measure => simp [intOf]; omega
        · obtain rfl : i = k := by omega
          go_wp2
          go_ret
          exact ⟨rfl, hbr⟩
end Go.Proofs.Ytlgbdbaacjahpaa
