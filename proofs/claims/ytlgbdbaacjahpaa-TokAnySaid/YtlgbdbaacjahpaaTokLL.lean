/-
  The document's Lexer in memory: line.
-/
import Derived.Test.YtlgbdbaacjahpaaTokLQ
import Derived.Test.YtlgbdbaacjahpaaTokN
namespace Go.Proofs.Ytlgbdbaacjahpaa
open Go.RowKit Go.Shelf
set_option maxRecDepth 20000
set_option linter.unusedVariables false
set_option linter.unusedSimpArgs false

theorem lFl_false (n : Nat) (y : LS) : lFl false n y = lFlush n y := by unfold lFl lFlush; cases y.inn <;> simp
theorem lQuote_suffix : ∀ (m : Nat) (l w : List UInt8), l.length ≤ m → ∀ p, lQuote w l = some p → p.2 <:+ l ∧ p.2.length < l.length := by
  intro m
  induction m with
  | zero =>
    intro l w hl p h
    obtain rfl : l = [] := List.eq_nil_of_length_eq_zero (by omega)
    rw [lQ_nil] at h; cases h
  | succ m ih =>
    intro l w hl p h
    match l with
    | [] => rw [lQ_nil] at h; cases h
    | c :: r =>
      rw [lQ_cons] at h
      simp only [List.length_cons] at hl ⊢
      by_cases h1 : c = 34
      · rw [if_pos h1] at h; cases h; exact ⟨List.suffix_cons _ _, Nat.lt_succ_self _⟩
      rw [if_neg h1] at h
      by_cases h2 : c = 92
      · rw [if_pos h2] at h
        match r with
        | [] => cases h
        | y :: r2 =>
          simp only [List.length_cons] at hl ⊢
          obtain ⟨a, b⟩ := ih r2 _ (by omega) p h
          exact ⟨a.trans ((List.suffix_cons y r2).trans (List.suffix_cons c (y :: r2))), by omega⟩
      · rw [if_neg h2] at h
        obtain ⟨a, b⟩ := ih r _ (by omega) p h
        exact ⟨a.trans (List.suffix_cons c r), by omega⟩
theorem drop_suffix {l r : List UInt8} (h : r <:+ l) : l.drop (l.length - r.length) = r := by
  obtain ⟨t, rfl⟩ := h
  simp
theorem flush_ewords (n : Nat) (y : LS) : (lFlush n y).ewords.length ≤ y.ewords.length + 1 := by unfold lFlush lPut; split <;> simp
theorem flush_w (n : Nat) (y : LS) : (lFlush n y).w.length ≤ y.w.length := by unfold lFlush lPut; split <;> simp
theorem flush_opn (n : Nat) (y : LS) : (lFlush n y).opn = y.opn := by unfold lFlush lPut; split <;> rfl
theorem begin_ewords (b : Bool) (y : LS) : (lBegin b y).ewords = y.ewords := by unfold lBegin; split <;> rfl
theorem begin_wL (b : Bool) (y : LS) : (lBegin b y).w = y.w := by unfold lBegin; split <;> rfl
theorem begin_opn (b : Bool) (y : LS) : (lBegin b y).opn = y.opn := by unfold lBegin; split <;> rfl
theorem flush_out (n : Nat) (y : LS) : (lFlush n y).out = y.out := by unfold lFlush lPut; split <;> rfl
theorem begin_out (b : Bool) (y : LS) : (lBegin b y).out = y.out := by unfold lBegin; split <;> rfl
/-- The bounds of the state at place k. -/
def LMax (E M k : Nat) (y : LS) : Prop := y.ewords.length ≤ E + k ∧ y.w.length ≤ M + k ∧ y.opn ≤ 8 ∧ y.out.length ≤ E
theorem LMax.flush {E M k n : Nat} {y : LS} (h : LMax E M k y) : LMax E M (k + 1) (lFlush n y) := by
  obtain ⟨h1, h2, h3, h4⟩ := h
  have := flush_ewords n y
  have := flush_w n y
  have := flush_opn n y
  have := flush_out n y
  exact ⟨by omega, by omega, by omega, by rw [this]; exact h4⟩
theorem LMax.begin {E M k : Nat} {b : Bool} {y : LS} (h : LMax E M k y) : LMax E M k (lBegin b y) := by
  obtain ⟨h1, h2, h3, h4⟩ := h
  unfold LMax
  rw [begin_ewords, begin_wL, begin_opn, begin_out]
  exact ⟨h1, h2, h3, h4⟩
def LinePost (B base : Nat) (r : LS × Int) (w : World) (e : Ending) (w' : World) : Prop := e = .returned (.int .i64 r.2) ∧ Below base w w' ∧ (r.2 = 0 → LBox w' B base r.1)
def LineR (B base : Nat) (b : Bool) (n : Nat) (xs : List UInt8) (y : LS) (E M : Nat) (w : World) (k : Nat) (y' : LS) (wr : World) : Prop :=
  LBox wr B base y' ∧ lLine b n xs y = lLine b n (xs.drop k) y' ∧ LMax E M k y' ∧ Below base w wr
set_option maxRecDepth 100000 in
set_option maxHeartbeats 16000000 in
theorem lex_line (B base : Nat) (y : LS) (s : ByteArray) (xs : List UInt8) (hxs : s.data.toList = xs) (n : Nat) (E M : Nat) (w : World) (hS : LBox w B base y) (hBb : base ≤ B) (hbase : base ≤ w.heap.size) (hmx : LMax E M 0 y) (hE : E ≤ 100000) (hM : M + s.size ≤ 100000) :
    Calls Try.prog 12 #[.pointer (some ⟨B, 0, none⟩), .string s, .int .i64 (n : Int)] w (LinePost B base (lLine (blankOf xs) n xs y) w) := by
  have hlen : xs.length = s.size := by rw [← hxs]; simp
  obtain ⟨b, hb⟩ : ∃ b, blankOf xs = b := ⟨_, rfl⟩
  have HX := Lib.hid hxs; have HLEN := Lib.hid hlen; have HBL := Lib.hid hb
  have HR0 : Hid (LineR B base b n xs y E M w 0 y w) := Lib.hid ⟨hS, rfl, hmx, Below.refl _ _⟩
  rw [hb]
  clear hxs hlen hb hS hmx
  go_enter Try.func12, Try.ntmps12
  go_upto_region 1 with (fail)
  go_cut [7] (fun v wx => v = .bool b ∧ wx = w)
  case first =>
    by_cases h0 : 0 < s.size
    · obtain ⟨c, hcv⟩ : ∃ c, s[0]'h0 = c := ⟨_, rfl⟩
      have hlx : 0 < xs.length := by rw [HLEN.out]; exact h0
      have hxc : xs[0]'hlx = c := by rw [← hcv]; have h := HX.out; subst h; simp; rfl
      have HB2 : Hid (decide (c = 32 ∨ c = 9) = b) := Lib.hid (by
        rw [← HBL.out]
        obtain ⟨d, r, e⟩ := List.exists_cons_of_ne_nil (List.length_pos_iff.1 hlx)
        subst e
        simp only [List.getElem_cons_zero] at hxc
        rw [hxc]; rfl)
      have h0i : (0 : Int) < (s.size : Int) := by omega
      clear hxc
      by_cases h1 : c = 32
      · subst h1
        go_wp2_with fail
        go_meet
        exact ⟨by rw [← HB2.out]; rfl, rfl⟩
      · by_cases h2 : c = 9
        · subst h2
          go_wp2_with fail
          go_meet
          exact ⟨by rw [← HB2.out]; rfl, rfl⟩
        · have z1 := c_ne h1 32 rfl
          have z2 := c_ne h2 9 rfl
          have HB3 : Hid (b = false) := Lib.hid (by rw [← HB2.out]; simp [h1, h2])
          clear h1 h2
          go_wp2_with fail
          go_meet
          exact ⟨by rw [HB3.out], rfl⟩
    · have h0i : ¬ ((0 : Int) < (s.size : Int)) := by omega
      have HB3 : Hid (b = false) := Lib.hid (by
        rw [← HBL.out]
        have : xs = [] := List.eq_nil_of_length_eq_zero (by rw [HLEN.out]; omega)
        rw [this]; rfl)
      clear h0
      go_wp2_with fail
      go_meet
      exact ⟨by rw [HB3.out], rfl⟩
  case rest =>
    obtain ⟨rfl, hww⟩ := hcut
    subst hww
    rename World => w
    go_wp2_with fail
    go_loopw [8] (fun i wr => ∃ (k : Nat) (z : LS), i = .int .i64 k ∧ k ≤ s.size ∧ Hid (LineR B base b n xs y E M w k z wr)) (fun i _ => s.size - (intOf i).toNat)
    case atStart => exact ⟨0, y, rfl, Nat.zero_le _, HR0⟩
    case round =>
      obtain ⟨k, z, rfl, hk, HR⟩ := hrel
      by_cases hlt : k < s.size
      · obtain ⟨c, hcv⟩ : ∃ c, s[k]'hlt = c := ⟨_, rfl⟩
        have hti : (k : Int) < (s.size : Int) := by omega
        have hkx : k < xs.length := by rw [HLEN.out]; exact hlt
        have hxc : xs[k]'hkx = c := by rw [← hcv]; have h := HX.out; subst h; simp; rfl
        have HD : Hid (xs.drop k = c :: xs.drop (k + 1)) := Lib.hid (by rw [List.drop_eq_getElem_cons hkx, hxc])
        clear hxc
        by_cases h59 : c = 59
        · subst h59
          have HRES : Hid (lLine b n xs y = (lEnd (lFlush n z), 0)) := Lib.hid (by rw [HR.out.2.1, HD.out, lL_remark])
          have hP := lex_flush B base z false n wr HR.out.1 hBb (by have := HR.out.2.2.1.1; omega)
          rw [lFl_false] at hP
          go_wp2_with fail
          refine hP.mono ?_
          rintro e w2 ⟨rfl, hS2, hb2⟩
          have HB2 := Lib.hid (HR.out.2.2.2.trans hb2)
          have hQ := lex_end B base (lFlush n z) w2 hS2 (Nat.le_trans hbase HB2.out.size) hBb (by rw [flush_out]; have := HR.out.2.2.1.2.2.2; omega)
          clear hP hS2 hb2
          go_wp2_with fail
          refine hQ.mono ?_
          rintro e w3 ⟨rfl, hS3, hb3⟩
          have HS3 := Lib.hid hS3; have HB3 := Lib.hid hb3
          clear hQ hS3 hb3
          go_wp2_with fail
          go_ret
          rw [HRES.out]
          exact ⟨rfl, HB2.out.trans HB3.out, fun _ => HS3.out⟩
        by_cases h32 : c = 32
        · subst h32
          have HBLK := Lib.hid (fun r => lL_blank (c := 32) b n r z (by decide))
          have hP := lex_flush B base z false n wr HR.out.1 hBb (by have := HR.out.2.2.1.1; omega)
          rw [lFl_false] at hP
          go_wp2_with fail
          refine hP.mono ?_
          rintro e w2 ⟨rfl, hS2, hb2⟩
          have HS2 := Lib.hid hS2; have HB2 := Lib.hid (HR.out.2.2.2.trans hb2); have HM2 := Lib.hid (LMax.flush (n := n) HR.out.2.2.1)
          clear hP hS2 hb2
          go_wp2_with fail
          go_roundw
          case rel => exact ⟨k + 1, lFlush n z, by go_num, by omega, Lib.hid ⟨HS2.out, by rw [HR.out.2.1, HD.out, HBLK.out], HM2.out, HB2.out⟩⟩
          case measure => simp [intOf]; omega
        by_cases h9 : c = 9
        · subst h9
          have HBLK := Lib.hid (fun r => lL_blank (c := 9) b n r z (by decide))
          have hP := lex_flush B base z false n wr HR.out.1 hBb (by have := HR.out.2.2.1.1; omega)
          rw [lFl_false] at hP
          go_wp2_with fail
          refine hP.mono ?_
          rintro e w2 ⟨rfl, hS2, hb2⟩
          have HS2 := Lib.hid hS2; have HB2 := Lib.hid (HR.out.2.2.2.trans hb2); have HM2 := Lib.hid (LMax.flush (n := n) HR.out.2.2.1)
          clear hP hS2 hb2
          go_wp2_with fail
          go_roundw
          case rel => exact ⟨k + 1, lFlush n z, by go_num, by omega, Lib.hid ⟨HS2.out, by rw [HR.out.2.1, HD.out, HBLK.out], HM2.out, HB2.out⟩⟩
          case measure => simp [intOf]; omega
        by_cases h40 : c = 40
        · subst h40
          have hP := lex_flush B base z false n wr HR.out.1 hBb (by have := HR.out.2.2.1.1; omega)
          rw [lFl_false] at hP
          go_wp2_with fail
          refine hP.mono ?_
          rintro e w2 ⟨rfl, hS2, hb2⟩
          have HS2 := Lib.hid hS2; have HB2 := Lib.hid (HR.out.2.2.2.trans hb2); have HM2 := Lib.hid (LMax.flush (n := n) HR.out.2.2.1)
          clear hP hS2 hb2
          have hP := lex_begin B base (lFlush n z) b w2 HS2.out hBb
          go_wp2_with fail
          refine hP.mono ?_
          rintro e w3 ⟨rfl, hS3, hb3⟩
          have HB3 := Lib.hid (HB2.out.trans hb3); have HM3 := Lib.hid (LMax.begin (b := b) HM2.out)
          clear hP hb3
          obtain ⟨z3, hz3⟩ : ∃ z3, lBegin b (lFlush n z) = z3 := ⟨_, rfl⟩
          have HZ3 := Lib.hid hz3
          rw [hz3] at hS3
          have HM4 : Hid (LMax E M (k + 1) z3) := Lib.hid (by rw [← hz3]; exact HM3.out)
          clear hz3
          have HOP := Lib.hid (lL_open b n (xs.drop (k + 1)) z)
          have hopn : z3.opn ≤ 8 := HM4.out.2.2.1
          obtain ⟨vo, ve, hbx, hrow⟩ := hS3
          have hc5 := kcell hbx 5 (.int .i64 (z3.opn : Int)) rfl
          have hf5 := kfrozen hbx 5
          have hc6 := kcell hbx 6 (.int .i64 (z3.first : Int)) rfl
          have hf6 := kfrozen hbx 6
          have HBX := Lib.hid hbx; have HRW := Lib.hid hrow
          obtain ⟨q, hq⟩ : ∃ q, z3.opn = q := ⟨_, rfl⟩
          have HQ := Lib.hid hq
          rw [hq] at hc5 hopn
          clear hbx hrow hq
          have hq1 : IntKind.i64.wrap ((q : Int) + 1) = (q : Int) + 1 := IntWalk.i64_in _ (by omega)
          by_cases hq0 : q = 0
          · subst hq0
            have hx6 := kset HBX.out 6 (.int .i64 (n : Int))
            have hx5 := kset hx6 5 (.int .i64 ((1 : Nat) : Int))
            have hS5 : LBox ((w3.setCell ⟨B, 6, none⟩ (.int .i64 (n : Int))).setCell ⟨B, 5, none⟩ (.int .i64 1)) B base { z3 with first := n, opn := 1 } := ⟨vo, ve, hx5, LRow.set (LRow.set (y := { z3 with first := n, opn := 1 }) HRW.out HBX.out 6 _) hx6 5 _⟩
            have HS5 := Lib.hid hS5
            clear hx6 hx5 hS5
            go_wp2_with fail
            go_roundw
            case rel => exact ⟨k + 1, { z3 with first := n, opn := 1 }, by go_num, by omega, Lib.hid ⟨HS5.out, by rw [HR.out.2.1, HD.out, HOP.out, HZ3.out, HQ.out]; rfl, ⟨HM4.out.1, HM4.out.2.1, by show 1 ≤ 8; omega, HM4.out.2.2.2⟩, (HB3.out.setCell (p := ⟨B, 6, none⟩) hBb _).setCell (p := ⟨B, 5, none⟩) hBb _⟩⟩
            case measure => simp [intOf]; omega
          · have hz0 : ((q : Int) == 0) = false := by simp; omega
            have HQ0 := Lib.hid hq0
            have hx5 := kset HBX.out 5 (.int .i64 ((q + 1 : Nat) : Int))
            have hS5 : LBox (w3.setCell ⟨B, 5, none⟩ (.int .i64 ((q : Int) + 1))) B base { z3 with opn := q + 1 } := ⟨vo, ve, hx5, LRow.set (y := { z3 with opn := q + 1 }) HRW.out HBX.out 5 _⟩
            have HS5 := Lib.hid hS5
            clear hx5 hS5 hq0
            by_cases hq8 : q = 8
            · subst hq8
              go_wp2_with fail
              go_ret
              rw [HR.out.2.1, HD.out, HOP.out, HZ3.out, HQ.out, if_pos (by decide)]
              exact ⟨rfl, HB3.out.setCell (p := ⟨B, 5, none⟩) hBb _, fun h => absurd (show (10 : Int) = 0 from h) (by decide)⟩
            · have h8i : (q : Int) + 1 ≤ 8 := by omega
              have HQ8 : Hid (¬ 8 < q + 1) := Lib.hid (by omega)
              clear hq8
              go_wp2_with fail
              go_roundw
              case rel => exact ⟨k + 1, { z3 with opn := q + 1 }, by go_num, by omega, Lib.hid ⟨HS5.out, by rw [HR.out.2.1, HD.out, HOP.out, HZ3.out, HQ.out, if_neg HQ8.out, if_neg HQ0.out], ⟨HM4.out.1, HM4.out.2.1, by show q + 1 ≤ 8; omega, HM4.out.2.2.2⟩, HB3.out.setCell (p := ⟨B, 5, none⟩) hBb _⟩⟩
              case measure => simp [intOf]; omega
        by_cases h41 : c = 41
        · subst h41
          have hP := lex_flush B base z false n wr HR.out.1 hBb (by have := HR.out.2.2.1.1; omega)
          rw [lFl_false] at hP
          go_wp2_with fail
          refine hP.mono ?_
          rintro e w2 ⟨rfl, hS2, hb2⟩
          have HS2 := Lib.hid hS2; have HB2 := Lib.hid (HR.out.2.2.2.trans hb2); have HM2 := Lib.hid (LMax.flush (n := n) HR.out.2.2.1)
          clear hP hS2 hb2
          have HOP := Lib.hid (lL_shut b n (xs.drop (k + 1)) z)
          obtain ⟨z3, hz3⟩ : ∃ z3, lFlush n z = z3 := ⟨_, rfl⟩
          have HZ3 := Lib.hid hz3
          have hS3 := HS2.out
          rw [hz3] at hS3
          have HM4 : Hid (LMax E M (k + 1) z3) := Lib.hid (by rw [← hz3]; exact HM2.out)
          clear hz3
          have hopn : z3.opn ≤ 8 := HM4.out.2.2.1
          obtain ⟨vo, ve, hbx, hrow⟩ := hS3
          have hc5 := kcell hbx 5 (.int .i64 (z3.opn : Int)) rfl
          have hf5 := kfrozen hbx 5
          have HBX := Lib.hid hbx; have HRW := Lib.hid hrow
          by_cases hq0 : z3.opn = 0
          · rw [hq0] at hc5
            have HQ0 := Lib.hid hq0
            clear hbx hrow hq0
            go_wp2_with fail
            go_ret
            rw [HR.out.2.1, HD.out, HOP.out, HZ3.out, if_pos HQ0.out]
            exact ⟨rfl, HB2.out, fun h => absurd (show (2 : Int) = 0 from h) (by decide)⟩
          · obtain ⟨q, hq⟩ : ∃ q, z3.opn = q + 1 := ⟨z3.opn - 1, by omega⟩
            rw [hq] at hc5 hopn
            have HQ := Lib.hid hq
            have hx5 := kset HBX.out 5 (.int .i64 (q : Int))
            have hS5 : LBox (w2.setCell ⟨B, 5, none⟩ (.int .i64 (q : Int))) B base { z3 with opn := q } := ⟨vo, ve, hx5, LRow.set (y := { z3 with opn := q }) HRW.out HBX.out 5 _⟩
            have HS5 := Lib.hid hS5
            clear hbx hrow hq0 hq hx5 hS5
            have hwq : IntKind.i64.wrap (q : Int) = (q : Int) := IntWalk.i64_in _ (by omega)
            have hz0 : (((q + 1 : Nat) : Int) == 0) = false := by simp; omega
            go_wp2_with fail
            go_roundw
            case rel => exact ⟨k + 1, { z3 with opn := q }, by go_num, by omega, Lib.hid ⟨HS5.out, by rw [HR.out.2.1, HD.out, HOP.out, HZ3.out, HQ.out, if_neg (by omega), Nat.add_sub_cancel], ⟨HM4.out.1, HM4.out.2.1, by show q ≤ 8; omega, HM4.out.2.2.2⟩, HB2.out.setCell (p := ⟨B, 5, none⟩) hBb _⟩⟩
            case measure => simp [intOf]; omega
        by_cases h34 : c = 34
        · subst h34
          have hP := lex_flush B base z false n wr HR.out.1 hBb (by have := HR.out.2.2.1.1; omega)
          rw [lFl_false] at hP
          go_wp2_with fail
          refine hP.mono ?_
          rintro e w2 ⟨rfl, hS2, hb2⟩
          have HS2 := Lib.hid hS2; have HB2 := Lib.hid (HR.out.2.2.2.trans hb2); have HM2 := Lib.hid (LMax.flush (n := n) HR.out.2.2.1)
          clear hP hS2 hb2
          have hP := lex_begin B base (lFlush n z) b w2 HS2.out hBb
          go_wp2_with fail
          refine hP.mono ?_
          rintro e w3 ⟨rfl, hS3, hb3⟩
          have HB3 := Lib.hid (HB2.out.trans hb3); have HM3 := Lib.hid (LMax.begin (b := b) HM2.out)
          clear hP hb3
          obtain ⟨z3, hz3⟩ : ∃ z3, lBegin b (lFlush n z) = z3 := ⟨_, rfl⟩
          have HZ3 := Lib.hid hz3
          rw [hz3] at hS3
          have HM4 : Hid (LMax E M (k + 1) z3) := Lib.hid (by rw [← hz3]; exact HM3.out)
          clear hz3
          have hP := lex_quote B base z3 s xs HX.out k n w3 hS3 hBb (by have := HM4.out.1; omega) hlt (by omega) (by have := HM4.out.2.1; omega)
          clear hS3
          cases hq : lQuote z3.w (xs.drop (k + 1)) with
          | none =>
            rw [hq] at hP
            have HN : Hid (lLine b n xs y = (z, 2)) := Lib.hid (by rw [HR.out.2.1, HD.out]; exact lL_quote_no b n _ z (by rw [HZ3.out]; exact hq))
            clear hq
            go_wp2_with fail
            refine hP.mono ?_
            rintro e w4 ⟨hb4, rfl⟩
            have HB4 := Lib.hid (HB3.out.trans hb4)
            clear hP hb4
            go_wp2_with fail
            go_ret
            rw [HN.out]
            exact ⟨rfl, HB4.out, fun h => absurd (show (2 : Int) = 0 from h) (by decide)⟩
          | some p =>
            rw [hq] at hP
            obtain ⟨hsuf, hplt⟩ := lQuote_suffix _ _ _ (Nat.le_refl _) p hq
            have HN : Hid (lLine b n xs y = lLine b n p.2 (lPut true n { z3 with w := p.1 })) := Lib.hid (by rw [HR.out.2.1, HD.out, lL_quote b n _ z p (by rw [HZ3.out]; exact hq), HZ3.out])
            have hds := drop_suffix (hsuf.trans (List.drop_suffix (k + 1) xs))
            rw [HLEN.out] at hds
            have HDS := Lib.hid hds
            rw [List.length_drop, HLEN.out] at hplt
            obtain ⟨t, ht⟩ : ∃ t, s.size - p.2.length = t := ⟨_, rfl⟩
            have ht1 : k + 2 ≤ t := by omega
            have ht2 : t ≤ s.size := by omega
            unfold QuoPost at hP
            simp only [ht] at hP
            rw [ht] at HDS
            clear hq hds hsuf hplt ht
            go_wp2_with fail
            refine hP.mono ?_
            rintro e w4 ⟨hb4, rfl, hS4⟩
            have HB4 := Lib.hid (HB3.out.trans hb4); have HS4 := Lib.hid hS4
            clear hP hb4 hS4
            go_wp2_with fail
            go_roundw
            case rel => exact ⟨t, lPut true n { z3 with w := p.1 }, rfl, ht2, Lib.hid ⟨HS4.out, by rw [HN.out, HDS.out], ⟨by have := HM4.out.1; show (z3.ewords ++ [(p.1, true)]).length ≤ E + t; rw [List.length_append, List.length_singleton]; omega, by show 0 ≤ M + t; omega, HM4.out.2.2.1, HM4.out.2.2.2⟩, HB4.out⟩⟩
            case measure => simp [intOf]; omega
        by_cases h92 : c = 92
        · subst h92
          by_cases hl1 : k + 1 < s.size
          · obtain ⟨d, hdv⟩ : ∃ d, s[k + 1]'hl1 = d := ⟨_, rfl⟩
            have hl1i : (k : Int) + 1 < (s.size : Int) := by omega
            have hkx1 : k + 1 < xs.length := by rw [HLEN.out]; exact hl1
            have hxc1 : xs[k + 1]'hkx1 = d := by rw [← hdv]; have h := HX.out; subst h; simp; rfl
            have HL0 : Hid (lLine b n xs y = lLine b n (xs.drop (k + 2)) { lBegin b z with inn := true, w := (lBegin b z).w ++ [92, d] }) := Lib.hid (by rw [HR.out.2.1, HD.out, List.drop_eq_getElem_cons hkx1, hxc1, lL_stroke])
            clear hxc1
            have HS2 := Lib.hid HR.out.1; have HB2 := Lib.hid HR.out.2.2.2; have HM2 := Lib.hid HR.out.2.2.1
            have hP := lex_begin B base z b wr HS2.out hBb
            go_wp2_with fail
            refine hP.mono ?_
            rintro e w3 ⟨rfl, hS3, hb3⟩
            have HB3 := Lib.hid (HB2.out.trans hb3); have HM3 := Lib.hid (LMax.begin (b := b) HM2.out)
            clear hP hb3
            obtain ⟨z3, hz3⟩ : ∃ z3, lBegin b z = z3 := ⟨_, rfl⟩
            have HZ3 := Lib.hid hz3
            rw [hz3] at hS3
            have HM4 : Hid (LMax E M k z3) := Lib.hid (by rw [← hz3]; exact HM3.out)
            clear hz3
            have hx0 := (id hS3)
            obtain ⟨vo, ve, hbx, hrow⟩ := hS3
            have hf8 := kfrozen hbx 8
            have hc8 := kcell hbx 8 (.bool z3.inn) rfl
            have HBX := Lib.hid hbx; have HRW := Lib.hid hrow
            have hx8 := kset hbx 8 (.bool true)
            have hr8 := LRow.set (y := { z3 with inn := true }) hrow hbx 8 (.bool true)
            have HX8 := Lib.hid hx8; have HR8 := Lib.hid hr8
            have HBW := Lib.hid (HB3.out.setCell (p := ⟨B, 8, none⟩) hBb (.bool true))
            clear hbx hrow hx8 hr8 hx0
            go_wp2_with fail
            clear hc8 hf8
            obtain ⟨wx, hwx⟩ : ∃ wx, w3.setCell ⟨B, 8, none⟩ (.bool true) = wx := ⟨_, rfl⟩
            rw [hwx] at HX8 HR8 HBW ⊢
            clear hwx
            have hc7 := kcell HX8.out 7 (.string ⟨z3.w.toArray⟩) rfl
            have hf7 := kfrozen HX8.out 7
            have a1 := run_string_add_sum (P := Try.prog) wx.drew ⟨z3.w.toArray⟩ (s.extract k (k + 2)) (by rw [mkQ_size, ByteArray.size_extract]; have := HM4.out.2.1; omega)
            rw [add_ext2 hl1, hcv, hdv] at a1
            have wk : IntKind.i64.wrap ((k : Int) + 2) = (k : Int) + 2 := IntWalk.i64_in _ (by omega)
            have b1 : (0 : Int) ≤ (k : Int) := by omega
            have b2 : (k : Int) ≤ (k : Int) + 2 := by omega
            have b3 : (k : Int) + 2 ≤ (s.size : Int) := by omega
            have b4 : ((k : Int) + 2).toNat = k + 2 := by omega
            refine kregion_tail 13 (by kernel_rfl) (by kernel_rfl) ?_
            have hbw : Below base w wx.drew := kdrew HBW.out
            replace hc7 : wx.drew.cell? _ = _ := hc7
            replace hf7 : wx.drew.frozen? _ = _ := hf7
            replace HX8 : Hid (wx.drew.heap[B]? = _) := HX8
            replace HR8 : Hid (LRow wx.drew base vo ve { z3 with inn := true }) := HR8
            simp only [List.take_succ_cons, List.take_zero, List.drop_succ_cons, List.drop_zero]
            clear HBW
            generalize wx.drew = wd at *
            repeat still_step
            refine wpStill_nil ?_
            go_wp2_with fail
            go_roundw
            case rel => exact ⟨k + 2, { z3 with inn := true, w := z3.w ++ [92, d] }, by go_num, by omega, Lib.hid ⟨LBox.word (y := { z3 with inn := true }) HX8.out HR8.out, by rw [HL0.out, HZ3.out], ⟨by have := HM4.out.1; show z3.ewords.length ≤ _; omega, by have := HM4.out.2.1; show (z3.w ++ [92, d]).length ≤ _; rw [List.length_append]; simp; omega, HM4.out.2.2.1, HM4.out.2.2.2⟩, hbw.setCell (p := ⟨B, 7, none⟩) hBb _⟩⟩
            case measure => simp [intOf]; omega
          · have hl1i : ¬ ((k : Int) + 1 < (s.size : Int)) := by omega
            have hl1j : (s.size : Int) ≤ (k : Int) + 1 := by omega
            have HN : Hid (lLine b n xs y = (z, 2)) := Lib.hid (by rw [HR.out.2.1, HD.out, List.drop_of_length_le (l := xs) (by rw [HLEN.out]; omega), lL_stroke_no])
            clear hl1
            go_wp2_with fail
            go_ret
            rw [HN.out]
            exact ⟨rfl, HR.out.2.2.2, fun h => absurd (show (2 : Int) = 0 from h) (by decide)⟩
        have HL0 : Hid (lLine b n xs y = lLine b n (xs.drop (k + 1)) { lBegin b z with inn := true, w := (lBegin b z).w ++ [c] }) := Lib.hid (by rw [HR.out.2.1, HD.out, lL_else b n _ z h59 (by rintro (h | h); exact h32 h; exact h9 h) h40 h41 h34 h92])
        have z32 := c_ne h32 32 rfl
        have z9 := c_ne h9 9 rfl
        have z40 := c_ne h40 40 rfl
        have z41 := c_ne h41 41 rfl
        have z34 := c_ne h34 34 rfl
        have z92 := c_ne h92 92 rfl
        have z59 : ((c.toNat : Int) != 59) = true := by have := c_ne h59 59 rfl; simp only [bne, this, Bool.not_false]
        clear h32 h9 h40 h41 h34 h92 h59
        have HS2 := Lib.hid HR.out.1; have HB2 := Lib.hid HR.out.2.2.2; have HM2 := Lib.hid HR.out.2.2.1
        have hP := lex_begin B base z b wr HS2.out hBb
        go_wp2_with fail
        refine hP.mono ?_
        rintro e w3 ⟨rfl, hS3, hb3⟩
        have HB3 := Lib.hid (HB2.out.trans hb3); have HM3 := Lib.hid (LMax.begin (b := b) HM2.out)
        clear hP hb3
        obtain ⟨z3, hz3⟩ : ∃ z3, lBegin b z = z3 := ⟨_, rfl⟩
        have HZ3 := Lib.hid hz3
        rw [hz3] at hS3
        have HM4 : Hid (LMax E M k z3) := Lib.hid (by rw [← hz3]; exact HM3.out)
        clear hz3
        have hx0 := (id hS3)
        obtain ⟨vo, ve, hbx, hrow⟩ := hS3
        have hf8 := kfrozen hbx 8
        have hc8 := kcell hbx 8 (.bool z3.inn) rfl
        have HBX := Lib.hid hbx; have HRW := Lib.hid hrow
        have hx8 := kset hbx 8 (.bool true)
        have hr8 := LRow.set (y := { z3 with inn := true }) hrow hbx 8 (.bool true)
        have HX8 := Lib.hid hx8; have HR8 := Lib.hid hr8
        have HBW := Lib.hid (HB3.out.setCell (p := ⟨B, 8, none⟩) hBb (.bool true))
        clear hbx hrow hx8 hr8 hx0
        go_wp2_with fail
        clear hc8 hf8
        obtain ⟨wx, hwx⟩ : ∃ wx, w3.setCell ⟨B, 8, none⟩ (.bool true) = wx := ⟨_, rfl⟩
        rw [hwx] at HX8 HR8 HBW ⊢
        clear hwx
        have hc7 := kcell HX8.out 7 (.string ⟨z3.w.toArray⟩) rfl
        have hf7 := kfrozen HX8.out 7
        have a1 := run_string_add_sum (P := Try.prog) wx.drew ⟨z3.w.toArray⟩ (s.extract k (k + 1)) (by rw [mkQ_size, ByteArray.size_extract]; have := HM4.out.2.1; omega)
        rw [add_ext hlt, hcv] at a1
        have wk : IntKind.i64.wrap ((k : Int) + 1) = (k : Int) + 1 := IntWalk.i64_in _ (by omega)
        have b1 : (0 : Int) ≤ (k : Int) := by omega
        have b2 : (k : Int) ≤ (k : Int) + 1 := by omega
        have b3 : (k : Int) + 1 ≤ (s.size : Int) := by omega
        have b4 : ((k : Int) + 1).toNat = k + 1 := by omega
        refine kregion_tail 13 (by kernel_rfl) (by kernel_rfl) ?_
        have hbw : Below base w wx.drew := kdrew HBW.out
        replace hc7 : wx.drew.cell? _ = _ := hc7
        replace hf7 : wx.drew.frozen? _ = _ := hf7
        replace HX8 : Hid (wx.drew.heap[B]? = _) := HX8
        replace HR8 : Hid (LRow wx.drew base vo ve { z3 with inn := true }) := HR8
        simp only [List.take_succ_cons, List.take_zero, List.drop_succ_cons, List.drop_zero]
        clear HBW
        generalize wx.drew = wd at *
        repeat still_step
        refine wpStill_nil ?_
        go_wp2_with fail
        go_roundw
        case rel => exact ⟨k + 1, { z3 with inn := true, w := z3.w ++ [c] }, by go_num, by omega, Lib.hid ⟨LBox.word (y := { z3 with inn := true }) HX8.out HR8.out, by rw [HL0.out, HZ3.out], ⟨by have := HM4.out.1; show z3.ewords.length ≤ _; omega, by have := HM4.out.2.1; show (z3.w ++ [c]).length ≤ _; rw [List.length_append]; simp; omega, HM4.out.2.2.1, HM4.out.2.2.2⟩, hbw.setCell (p := ⟨B, 7, none⟩) hBb _⟩⟩
        case measure => simp [intOf]; omega
      · obtain rfl : k = s.size := by omega
        have HRES : Hid (lLine b n xs y = (lEnd (lFlush n z), 0)) := Lib.hid (by rw [HR.out.2.1, List.drop_of_length_le (by rw [HLEN.out]; exact Nat.le_refl _), lL_nil])
        have hP := lex_flush B base z false n wr HR.out.1 hBb (by have := HR.out.2.2.1.1; omega)
        rw [lFl_false] at hP
        go_wp2_with fail
        refine hP.mono ?_
        rintro e w2 ⟨rfl, hS2, hb2⟩
        have HB2 := Lib.hid (HR.out.2.2.2.trans hb2)
        have hQ := lex_end B base (lFlush n z) w2 hS2 (Nat.le_trans hbase HB2.out.size) hBb (by rw [flush_out]; have := HR.out.2.2.1.2.2.2; omega)
        clear hP hS2 hb2
        go_wp2_with fail
        refine hQ.mono ?_
        rintro e w3 ⟨rfl, hS3, hb3⟩
        have HS3 := Lib.hid hS3; have HB3 := Lib.hid hb3
        clear hQ hS3 hb3
        go_wp2_with fail
        go_ret
        rw [HRES.out]
        exact ⟨rfl, HB2.out.trans HB3.out, fun _ => HS3.out⟩
end Go.Proofs.Ytlgbdbaacjahpaa
