/-
  The document's Entries.
-/
import Derived.Test.YtlgbdbaacjahpaaTokLM
import Derived.BigQuiet
import Derived.OwnWalk
import Derived.Deep.QuietTactic
namespace Go.Proofs.Ytlgbdbaacjahpaa
open Go.RowKit Go.Shelf
set_option maxRecDepth 20000
set_option linter.unusedVariables false
set_option linter.unusedSimpArgs false

/-- Where a text is read up to the line's beginning a. -/
def EntR (B : Nat) (n0 : Nat) (w : World) (xs : List UInt8) (a ln k : Nat) (z : LS) (wr : World) : Prop :=
  LBox wr B B z ∧ (∃ m, xs.length - a < m ∧ lTxt (xs.length + 1) 1 xs ls0 = lTxt m ln (xs.drop a) z) ∧ LM a z ∧ (∀ j (h : j < xs.length), a ≤ j → j < k → xs[j] ≠ 10) ∧ Below n0 w wr
def REntPost (r : List Ent × Nat × Int) (w : World) (e : Ending) (w' : World) : Prop := ∃ v, e = .returned (.tuple #[v, .int .i64 (r.2.1 : Int), .int .i64 r.2.2]) ∧ REs w' w.heap.size v r.1 ∧ Below w.heap.size w w'
set_option maxRecDepth 100000 in
set_option maxHeartbeats 16000000 in
theorem ref_Entries (s : ByteArray) (xs : List UInt8) (hxs : s.data.toList = xs) (w : World) (hs : s.size ≤ 100000) :
    Calls Try.prog 9 #[.string s] w (REntPost (entL xs) w) := by
  have hlen : xs.length = s.size := by rw [← hxs]; simp
  have HX := Lib.hid hxs; have HLEN := Lib.hid hlen
  clear hxs hlen
  go_enter Try.func9, Try.ntmps9
  go_wp2_with fail
  have h0 : EntR w.heap.size w.heap.size w xs 0 1 0 ls0 (w.alloc (.cells #[.slice none 0 0, .int .i64 0, .bool false, .slice none 0 0, .bool false, .int .i64 0, .int .i64 0, .string ⟨#[]⟩, .bool false] 54)) :=
    ⟨⟨.slice none 0 0, .slice none 0 0, knew w _, ⟨[], OwnK.nil _ _, rfl, fun j h => absurd h (Nat.not_lt_zero j)⟩, OwnK.nil _ _⟩, ⟨xs.length + 1, by omega, rfl⟩, ⟨Nat.le_refl _, Nat.le_refl _, by decide, Nat.le_refl _⟩, by intro j h1 h2 h3; omega, (Below.refl _ w).alloc (Nat.le_refl _) _⟩
  have H0 := Lib.hid h0
  clear h0
  go_loopw [6, 7, 8] (fun a n i wr => ∃ (a' ln k : Nat) (z : LS), a = .int .i64 a' ∧ n = .int .i64 ln ∧ i = .int .i64 k ∧ a' ≤ k ∧ k ≤ s.size + 1 ∧ ln ≤ a' + 1 ∧ (k ≤ s.size ∨ s.size ≤ a') ∧ Hid (EntR w.heap.size w.heap.size w xs a' ln k z wr)) (fun _ _ i _ => s.size + 1 - (intOf i).toNat)
  case atStart => exact ⟨0, 1, 0, ls0, rfl, rfl, rfl, Nat.le_refl _, Nat.zero_le _, by omega, .inl (Nat.zero_le _), H0⟩
  case round =>
    obtain ⟨a, ln, k, z, rfl, rfl, rfl, hak, hk, hln, hor, HR⟩ := hrel
    by_cases hke : k = s.size + 1
    · have hki : ¬ ((k : Int) ≤ (s.size : Int)) := by omega
      have HT : Hid (lTxt (xs.length + 1) 1 xs ls0 = (z, 0, 0)) := Lib.hid (by
        obtain ⟨m, _, e⟩ := HR.out.2.1
        rw [e, List.drop_of_length_le (by rw [HLEN.out]; omega), lTxt_nil])
      clear hke
      obtain ⟨vo, ve, hbx, hrow⟩ := HR.out.1
      obtain ⟨ao, no, co, rfl⟩ : ∃ a k c, vo = .slice a k c := by
        obtain ⟨ds, g1, _⟩ := hrow.1
        obtain ⟨a, c, e⟩ := g1.shape
        exact ⟨_, _, _, e⟩
      have hc5 := kcell hbx 5 (.int .i64 (z.opn : Int)) rfl
      have hc6 := kcell hbx 6 (.int .i64 (z.first : Int)) rfl
      have hc0 := kcell hbx 0 (.slice ao no co) rfl
      have HRW := Lib.hid hrow
      have hw0 : w.heap.size ≤ wr.heap.size := HR.out.2.2.2.2.size
      clear hbx hrow
      by_cases hop : z.opn = 0
      · rw [hop] at hc5
        have HE : Hid (entL xs = (z.out, 0, 0)) := Lib.hid (by unfold entL; rw [HT.out]; rw [if_neg (by simp), if_neg (by show ¬ 0 < z.opn; omega)])
        clear hop
        go_wp2_with fail
        go_ret3
        rw [HE.out]
        exact ⟨_, rfl, HRW.out.1, HR.out.2.2.2.2⟩
      · have hop1 : (0 : Int) < (z.opn : Int) := by omega
        have HE : Hid (entL xs = ([], z.first, 2)) := Lib.hid (by unfold entL; rw [HT.out]; rw [if_neg (by simp), if_pos (by show 0 < z.opn; omega)])
        clear hop
        go_wp2_with fail
        go_quiet (fail)
        go_wp2_with fail
        go_ret3
        rw [HE.out]
        exact ⟨_, rfl, ⟨[], OwnK.nil _ _, rfl, fun j h => absurd h (Nat.not_lt_zero j)⟩, HR.out.2.2.2.2.trans ⟨rfl, rfl, rfl, Nat.le_refl _, fun _ _ => rfl⟩⟩
    have hks : k ≤ s.size := by omega
    have hki : (k : Int) ≤ (s.size : Int) := by omega
    have haki : (a : Int) ≤ (k : Int) := by omega
    clear hke hor
    by_cases hlt : k < s.size
    · obtain ⟨c, hcv⟩ : ∃ c, s[k]'hlt = c := ⟨_, rfl⟩
      have hti : (k : Int) < (s.size : Int) := by omega
      have hkx : k < xs.length := by rw [HLEN.out]; exact hlt
      have hxc : xs[k]'hkx = c := by rw [← hcv]; have h := HX.out; subst h; simp; rfl
      have HXC := Lib.hid hxc
      clear hxc
      have hne : ((k : Int) == (s.size : Int)) = false := by simp; omega
      by_cases h10 : c = 10
      · subst h10
        have T1 : Hid (xs.drop a = (xs.drop a).take (k - a) ++ 10 :: xs.drop (k + 1)) := Lib.hid (by
          have h := (List.take_append_drop (k - a) (xs.drop a)).symm
          rw [List.drop_drop, show a + (k - a) = k by omega, List.drop_eq_getElem_cons hkx, HXC.out] at h
          exact h)
        obtain ⟨T, hT⟩ : ∃ T, (xs.drop a).take (k - a) = T := ⟨_, rfl⟩
        rw [hT] at T1
        have HT10 : Hid (∀ d ∈ T, d ≠ 10) := Lib.hid (by
          intro d hd
          rw [← hT] at hd
          obtain ⟨j, hj, e⟩ := List.mem_iff_getElem.1 hd
          rw [List.getElem_take, List.getElem_drop] at e
          rw [List.length_take, List.length_drop] at hj
          rw [← e]
          exact HR.out.2.2.2.1 _ (by omega) (by omega) (by omega))
        have hTl : T.length = k - a := by rw [← hT, List.length_take, List.length_drop, HLEN.out]; omega
        obtain ⟨S1, hS1⟩ : ∃ S1, s.extract a k = S1 := ⟨_, rfl⟩
        have hS1T : S1.data.toList = T := by rw [← hS1, ext_bytes, HX.out, hT]
        have hS1z : S1.size = k - a := by rw [← hTl, ← hS1T]; simp
        have hS1b : S1.size ≤ 100000 := by omega
        have hS1bi : (S1.size : Int) ≤ 100000 := by omega
        have HS1T := Lib.hid hS1T; have HTL := Lib.hid hTl; have HS1Z := Lib.hid hS1z
        clear hS1T hTl hT hS1z
        by_cases hpos : 0 < S1.size
        · have hposi : (0 : Int) < (S1.size : Int) := by omega
          have hpos1 : (1 : Int) ≤ (S1.size : Int) := by omega
          have hpos2 : (S1.size : Int) - 1 < (S1.size : Int) := by omega
          have hq1 : S1.size - 1 < S1.size := by omega
          obtain ⟨d, hdv⟩ : ∃ d, S1[S1.size - 1]'hq1 = d := ⟨_, rfl⟩
          have HLAST : Hid (T.getLast? = some d) := Lib.hid (by
            rw [List.getLast?_eq_getElem?, List.getElem?_eq_some_iff]
            have h := HS1T.out
            subst h
            refine ⟨by simp; omega, ?_⟩
            rw [← hdv]; simp; rfl)
          by_cases h13 : d = 13
          · subst h13
            obtain ⟨S2, hS2e⟩ : ∃ S2, S1.extract 0 (S1.size - 1) = S2 := ⟨_, rfl⟩
            have HN : Hid (noCR T = T.dropLast) := Lib.hid (by unfold noCR; rw [HLAST.out, if_pos rfl])
            have HS2T : Hid (S2.data.toList = noCR T) := Lib.hid (by rw [HN.out, ← hS2e, ext_bytes, HS1T.out, List.drop_zero, Nat.sub_zero, List.dropLast_eq_take, ← HS1T.out]; simp)
            have HS2L : Hid ((noCR T).length ≤ k - a) := Lib.hid (by have := noCR_len T; rw [HTL.out] at this; exact this)
            obtain ⟨⟨z2, er⟩, hq⟩ : ∃ q, lLine (blankOf (noCR T)) ln (noCR T) z = q := ⟨_, rfl⟩
            have hP := lex_line w.heap.size w.heap.size z S2 (noCR T) HS2T.out ln a a wr HR.out.1 (Nat.le_refl _) HR.out.2.2.2.2.size ⟨HR.out.2.2.1.1, HR.out.2.2.1.2.1, HR.out.2.2.1.2.2.1, HR.out.2.2.1.2.2.2⟩ (by omega) (by have h := HS2L.out; rw [← HS2T.out] at h; simp at h; omega)
            rw [hq] at hP
            have HLM : Hid (er = 0 → LM (a + ((noCR T)).length + 1) z2) := Lib.hid (fun h => by have := line_LM (blankOf (noCR T)) ln a (noCR T) z HR.out.2.2.1 (by rw [hq]; exact h); rw [hq] at this; exact this)
            have HQ := Lib.hid hq
            clear hq
            by_cases her : er = 0
            · subst her
              go_wp2_with fail
              refine hP.mono ?_
              rintro e w2 ⟨rfl, hb2, hS2⟩
              have HS2 := Lib.hid (hS2 rfl); have HB2 := Lib.hid (HR.out.2.2.2.2.trans hb2)
              clear hP hb2 hS2
              try clear hdv
              try clear hS1
              try clear hS2e
              go_wp2_with fail
              go_roundw
              case rel =>
                refine ⟨k + 1, ln + 1, k + 1, z2, by go_num, by go_num, by go_num, Nat.le_refl _, by omega, by omega, .inl (by omega), Lib.hid ⟨HS2.out, ?_, (HLM.out (by trivial)).mono (by have := HS2L.out; omega), by intro j h1 h2 h3; omega, HB2.out⟩⟩
                obtain ⟨m, hm, e⟩ := HR.out.2.1
                obtain ⟨m, rfl⟩ : ∃ m', m = m' + 1 := ⟨m - 1, by omega⟩
                refine ⟨m, by rw [HLEN.out] at hm ⊢; omega, ?_⟩
                rw [e, T1.out, lTxt_line m ln T _ z HT10.out, HQ.out, if_pos rfl]
              case measure => simp [intOf]; omega
            · have hne : ((er : Int) != 0) = true := by simpa using her
              have HER := Lib.hid her
              clear her
              go_wp2_with fail
              refine hP.mono ?_
              rintro e w2 ⟨rfl, hb2, _⟩
              have HB2 := Lib.hid (HR.out.2.2.2.2.trans hb2)
              clear hP hb2
              try clear hdv
              try clear hS1
              try clear hS2e
              go_wp2_with fail
              go_ret3
              have hE : entL xs = ([], ln, er) := by
                unfold entL
                rw [show lTxt (xs.length + 1) 1 xs ls0 = (z2, ln, er) by obtain ⟨m, hm, e⟩ := HR.out.2.1; obtain ⟨m, rfl⟩ : ∃ m', m = m' + 1 := ⟨m - 1, by omega⟩; rw [e, T1.out, lTxt_line m ln T _ z HT10.out, HQ.out, if_neg HER.out]]
                rw [if_pos HER.out]
              rw [hE]
              exact ⟨_, rfl, ⟨[], OwnK.nil _ _, rfl, fun j h => absurd h (Nat.not_lt_zero j)⟩, HB2.out⟩
          · have hd13 : ((d.toNat : Int) == 13) = false := c_ne h13 13 rfl
            have HN : Hid (noCR T = T) := Lib.hid (by unfold noCR; rw [HLAST.out, if_neg (by simpa using h13)])
            clear h13
            obtain ⟨⟨z2, er⟩, hq⟩ : ∃ q, lLine (blankOf T) ln T z = q := ⟨_, rfl⟩
            have hP := lex_line w.heap.size w.heap.size z S1 T HS1T.out ln a a wr HR.out.1 (Nat.le_refl _) HR.out.2.2.2.2.size ⟨HR.out.2.2.1.1, HR.out.2.2.1.2.1, HR.out.2.2.1.2.2.1, HR.out.2.2.1.2.2.2⟩ (by omega) (by have := HS1Z.out; omega)
            rw [hq] at hP
            have HLM : Hid (er = 0 → LM (a + (T).length + 1) z2) := Lib.hid (fun h => by have := line_LM (blankOf T) ln a T z HR.out.2.2.1 (by rw [hq]; exact h); rw [hq] at this; exact this)
            have HQ := Lib.hid hq
            clear hq
            by_cases her : er = 0
            · subst her
              go_wp2_with fail
              refine hP.mono ?_
              rintro e w2 ⟨rfl, hb2, hS2⟩
              have HS2 := Lib.hid (hS2 rfl); have HB2 := Lib.hid (HR.out.2.2.2.2.trans hb2)
              clear hP hb2 hS2
              try clear hdv
              try clear hS1
              try clear hS2e
              go_wp2_with fail
              go_roundw
              case rel =>
                refine ⟨k + 1, ln + 1, k + 1, z2, by go_num, by go_num, by go_num, Nat.le_refl _, by omega, by omega, .inl (by omega), Lib.hid ⟨HS2.out, ?_, (HLM.out (by trivial)).mono (by have := HTL.out; omega), by intro j h1 h2 h3; omega, HB2.out⟩⟩
                obtain ⟨m, hm, e⟩ := HR.out.2.1
                obtain ⟨m, rfl⟩ : ∃ m', m = m' + 1 := ⟨m - 1, by omega⟩
                refine ⟨m, by rw [HLEN.out] at hm ⊢; omega, ?_⟩
                rw [e, T1.out, lTxt_line m ln T _ z HT10.out, HN.out, HQ.out, if_pos rfl]
              case measure => simp [intOf]; omega
            · have hne : ((er : Int) != 0) = true := by simpa using her
              have HER := Lib.hid her
              clear her
              go_wp2_with fail
              refine hP.mono ?_
              rintro e w2 ⟨rfl, hb2, _⟩
              have HB2 := Lib.hid (HR.out.2.2.2.2.trans hb2)
              clear hP hb2
              try clear hdv
              try clear hS1
              try clear hS2e
              go_wp2_with fail
              go_ret3
              have hE : entL xs = ([], ln, er) := by
                unfold entL
                rw [show lTxt (xs.length + 1) 1 xs ls0 = (z2, ln, er) by obtain ⟨m, hm, e⟩ := HR.out.2.1; obtain ⟨m, rfl⟩ : ∃ m', m = m' + 1 := ⟨m - 1, by omega⟩; rw [e, T1.out, lTxt_line m ln T _ z HT10.out, HN.out, HQ.out, if_neg HER.out]]
                rw [if_pos HER.out]
              rw [hE]
              exact ⟨_, rfl, ⟨[], OwnK.nil _ _, rfl, fun j h => absurd h (Nat.not_lt_zero j)⟩, HB2.out⟩
        · have hposi : ¬ ((0 : Int) < (S1.size : Int)) := by omega
          have HN : Hid (noCR T = T) := Lib.hid (by
            have : T = [] := List.eq_nil_of_length_eq_zero (by rw [HTL.out, ← HS1Z.out]; omega)
            rw [this]; rfl)
          clear hpos
          obtain ⟨⟨z2, er⟩, hq⟩ : ∃ q, lLine (blankOf T) ln T z = q := ⟨_, rfl⟩
          have hP := lex_line w.heap.size w.heap.size z S1 T HS1T.out ln a a wr HR.out.1 (Nat.le_refl _) HR.out.2.2.2.2.size ⟨HR.out.2.2.1.1, HR.out.2.2.1.2.1, HR.out.2.2.1.2.2.1, HR.out.2.2.1.2.2.2⟩ (by omega) (by have := HS1Z.out; omega)
          rw [hq] at hP
          have HLM : Hid (er = 0 → LM (a + (T).length + 1) z2) := Lib.hid (fun h => by have := line_LM (blankOf T) ln a T z HR.out.2.2.1 (by rw [hq]; exact h); rw [hq] at this; exact this)
          have HQ := Lib.hid hq
          clear hq
          by_cases her : er = 0
          · subst her
            go_wp2_with fail
            refine hP.mono ?_
            rintro e w2 ⟨rfl, hb2, hS2⟩
            have HS2 := Lib.hid (hS2 rfl); have HB2 := Lib.hid (HR.out.2.2.2.2.trans hb2)
            clear hP hb2 hS2
            try clear hdv
            try clear hS1
            try clear hS2e
            go_wp2_with fail
            go_roundw
            case rel =>
              refine ⟨k + 1, ln + 1, k + 1, z2, by go_num, by go_num, by go_num, Nat.le_refl _, by omega, by omega, .inl (by omega), Lib.hid ⟨HS2.out, ?_, (HLM.out (by trivial)).mono (by have := HTL.out; omega), by intro j h1 h2 h3; omega, HB2.out⟩⟩
              obtain ⟨m, hm, e⟩ := HR.out.2.1
              obtain ⟨m, rfl⟩ : ∃ m', m = m' + 1 := ⟨m - 1, by omega⟩
              refine ⟨m, by rw [HLEN.out] at hm ⊢; omega, ?_⟩
              rw [e, T1.out, lTxt_line m ln T _ z HT10.out, HN.out, HQ.out, if_pos rfl]
            case measure => simp [intOf]; omega
          · have hne : ((er : Int) != 0) = true := by simpa using her
            have HER := Lib.hid her
            clear her
            go_wp2_with fail
            refine hP.mono ?_
            rintro e w2 ⟨rfl, hb2, _⟩
            have HB2 := Lib.hid (HR.out.2.2.2.2.trans hb2)
            clear hP hb2
            try clear hdv
            try clear hS1
            try clear hS2e
            go_wp2_with fail
            go_ret3
            have hE : entL xs = ([], ln, er) := by
              unfold entL
              rw [show lTxt (xs.length + 1) 1 xs ls0 = (z2, ln, er) by obtain ⟨m, hm, e⟩ := HR.out.2.1; obtain ⟨m, rfl⟩ : ∃ m', m = m' + 1 := ⟨m - 1, by omega⟩; rw [e, T1.out, lTxt_line m ln T _ z HT10.out, HN.out, HQ.out, if_neg HER.out]]
              rw [if_pos HER.out]
            rw [hE]
            exact ⟨_, rfl, ⟨[], OwnK.nil _ _, rfl, fun j h => absurd h (Nat.not_lt_zero j)⟩, HB2.out⟩
      · have z10 : ((c.toNat : Int) != 10) = true := by have := c_ne h10 10 rfl; simp only [bne, this, Bool.not_false]
        have H10 := Lib.hid h10
        clear h10
        go_wp2_with fail
        go_roundw
        case rel =>
          refine ⟨a, ln, k + 1, z, rfl, rfl, by go_num, by omega, by omega, by omega, .inl (by omega), Lib.hid ⟨HR.out.1, HR.out.2.1, HR.out.2.2.1, ?_, HR.out.2.2.2.2⟩⟩
          intro j h1 h2 h3
          by_cases hjk : j = k
          · subst hjk; rw [HXC.out]; exact H10.out
          · exact HR.out.2.2.2.1 j h1 h2 (by omega)
        case measure => simp [intOf]; omega
    · obtain rfl : k = s.size := by omega
      have hti : ¬ ((s.size : Int) < (s.size : Int)) := by omega
      by_cases hae : a = s.size
      · subst hae
        have HT : Hid (lTxt (xs.length + 1) 1 xs ls0 = (z, 0, 0)) := Lib.hid (by
          obtain ⟨m, _, e⟩ := HR.out.2.1
          rw [e, List.drop_of_length_le (by rw [HLEN.out]; exact Nat.le_refl _), lTxt_nil])
        obtain ⟨vo, ve, hbx, hrow⟩ := HR.out.1
        obtain ⟨ao, no, co, rfl⟩ : ∃ a k c, vo = .slice a k c := by
          obtain ⟨ds, g1, _⟩ := hrow.1
          obtain ⟨a, c, e⟩ := g1.shape
          exact ⟨_, _, _, e⟩
        have hc5 := kcell hbx 5 (.int .i64 (z.opn : Int)) rfl
        have hc6 := kcell hbx 6 (.int .i64 (z.first : Int)) rfl
        have hc0 := kcell hbx 0 (.slice ao no co) rfl
        have HRW := Lib.hid hrow
        have hw0 : w.heap.size ≤ wr.heap.size := HR.out.2.2.2.2.size
        clear hbx hrow
        by_cases hop : z.opn = 0
        · rw [hop] at hc5
          have HE : Hid (entL xs = (z.out, 0, 0)) := Lib.hid (by unfold entL; rw [HT.out]; rw [if_neg (by simp), if_neg (by show ¬ 0 < z.opn; omega)])
          clear hop
          go_wp2_with fail
          go_ret3
          rw [HE.out]
          exact ⟨_, rfl, HRW.out.1, HR.out.2.2.2.2⟩
        · have hop1 : (0 : Int) < (z.opn : Int) := by omega
          have HE : Hid (entL xs = ([], z.first, 2)) := Lib.hid (by unfold entL; rw [HT.out]; rw [if_neg (by simp), if_pos (by show 0 < z.opn; omega)])
          clear hop
          go_wp2_with fail
          go_quiet (fail)
          go_wp2_with fail
          go_ret3
          rw [HE.out]
          exact ⟨_, rfl, ⟨[], OwnK.nil _ _, rfl, fun j h => absurd h (Nat.not_lt_zero j)⟩, HR.out.2.2.2.2.trans ⟨rfl, rfl, rfl, Nat.le_refl _, fun _ _ => rfl⟩⟩
      · have hae1 : ((a : Int) == (s.size : Int)) = false := by simp; omega
        obtain ⟨T, hT⟩ : ∃ T, xs.drop a = T := ⟨_, rfl⟩
        have HTE := Lib.hid hT
        have hTl : T.length = s.size - a := by rw [← hT, List.length_drop, HLEN.out]
        have HT10 : Hid (∀ d ∈ T, d ≠ 10) := Lib.hid (by
          intro d hd
          rw [← hT] at hd
          obtain ⟨j, hj, e⟩ := List.mem_iff_getElem.1 hd
          rw [List.getElem_drop] at e
          rw [List.length_drop] at hj
          rw [← e]
          exact HR.out.2.2.2.1 _ (by omega) (by omega) (by have := HLEN.out; omega))
        have HTN : Hid (T ≠ []) := Lib.hid (by rintro rfl; simp at hTl; omega)
        obtain ⟨S1, hS1⟩ : ∃ S1, s.extract a s.size = S1 := ⟨_, rfl⟩
        have hS1T : S1.data.toList = T := by rw [← hS1, ext_bytes, HX.out, hT, List.take_of_length_le (by rw [hTl]; exact Nat.le_refl _)]
        have hS1z : S1.size = s.size - a := by rw [← hTl, ← hS1T]; simp
        have hS1b : S1.size ≤ 100000 := by omega
        have hS1bi : (S1.size : Int) ≤ 100000 := by omega
        have HS1T := Lib.hid hS1T; have HTL := Lib.hid hTl; have HS1Z := Lib.hid hS1z
        clear hS1T hTl hT hae hS1z
        obtain ⟨⟨z2, er⟩, hq⟩ : ∃ q, lLine (blankOf T) ln T z = q := ⟨_, rfl⟩
        have hP := lex_line w.heap.size w.heap.size z S1 T HS1T.out ln a a wr HR.out.1 (Nat.le_refl _) HR.out.2.2.2.2.size ⟨HR.out.2.2.1.1, HR.out.2.2.1.2.1, HR.out.2.2.1.2.2.1, HR.out.2.2.1.2.2.2⟩ (by omega) (by have := HS1Z.out; omega)
        rw [hq] at hP
        have HLM : Hid (er = 0 → LM (a + (T).length + 1) z2) := Lib.hid (fun h => by have := line_LM (blankOf T) ln a T z HR.out.2.2.1 (by rw [hq]; exact h); rw [hq] at this; exact this)
        have HQ := Lib.hid hq
        clear hq
        by_cases her : er = 0
        · subst her
          go_wp2_with fail
          refine hP.mono ?_
          rintro e w2 ⟨rfl, hb2, hS2⟩
          have HS2 := Lib.hid (hS2 rfl); have HB2 := Lib.hid (HR.out.2.2.2.2.trans hb2)
          clear hP hb2 hS2
          try clear hdv
          try clear hS1
          try clear hS2e
          go_wp2_with fail
          go_roundw
          case rel =>
            refine ⟨s.size + 1, ln + 1, s.size + 1, z2, by go_num, by go_num, by go_num, Nat.le_refl _, by omega, by omega, .inr (by omega), Lib.hid ⟨HS2.out, ?_, (HLM.out (by trivial)).mono (by have := HTL.out; omega), by intro j h1 h2 h3; omega, HB2.out⟩⟩
            obtain ⟨m, hm, e⟩ := HR.out.2.1
            obtain ⟨m, rfl⟩ : ∃ m', m = m' + 1 := ⟨m - 1, by omega⟩
            refine ⟨1, by rw [HLEN.out]; omega, ?_⟩
            rw [e, HTE.out, lTxt_last m ln T z HTN.out HT10.out, HQ.out, if_pos rfl, List.drop_of_length_le (by rw [HLEN.out]; omega), lTxt_nil]
          case measure => simp [intOf] <;> omega
        · have hne : ((er : Int) != 0) = true := by simpa using her
          have HER := Lib.hid her
          clear her
          go_wp2_with fail
          refine hP.mono ?_
          rintro e w2 ⟨rfl, hb2, _⟩
          have HB2 := Lib.hid (HR.out.2.2.2.2.trans hb2)
          clear hP hb2
          try clear hdv
          try clear hS1
          try clear hS2e
          go_wp2_with fail
          go_ret3
          have hE : entL xs = ([], ln, er) := by
            unfold entL
            rw [show lTxt (xs.length + 1) 1 xs ls0 = (z2, ln, er) by obtain ⟨m, hm, e⟩ := HR.out.2.1; obtain ⟨m, rfl⟩ : ∃ m', m = m' + 1 := ⟨m - 1, by omega⟩; rw [e, HTE.out, lTxt_last m ln T z HTN.out HT10.out, HQ.out, if_neg HER.out]]
            rw [if_pos HER.out]
          rw [hE]
          exact ⟨_, rfl, ⟨[], OwnK.nil _ _, rfl, fun j h => absurd h (Nat.not_lt_zero j)⟩, HB2.out⟩
end Go.Proofs.Ytlgbdbaacjahpaa
