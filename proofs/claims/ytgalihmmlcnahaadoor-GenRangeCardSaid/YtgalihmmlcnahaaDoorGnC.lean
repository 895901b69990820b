/-
  Decimals: number.Digits, number.Parse; the document's Number, Digit.
-/
import Derived.Test.YtgalihmmlcnahaaDoorTyA
namespace Go.Proofs.YtgalihmmlcnahaaDoor
open Go.RowKit Go.Shelf

theorem allDigits_snoc (l : List UInt8) (c : UInt8) : allDigits (l ++ [c]) = (allDigits l && digitU c) := by simp [allDigits]
theorem allDigits_take {l : List UInt8} (h : allDigits l = true) (k : Nat) : allDigits (l.take k) = true := by
  unfold allDigits at *; rw [List.all_eq_true] at *; exact fun x hx => h x (List.mem_of_mem_take hx)
theorem allDigits_not {l : List UInt8} {k : Nat} (hk : k < l.length) (h : digitU l[k] = false) : allDigits l = false := by
  cases e : allDigits l with
  | false => rfl
  | true => unfold allDigits at e; rw [List.all_eq_true] at e; rw [e _ (List.getElem_mem hk)] at h; cases h
theorem digit_boundsI {c : UInt8} (h : digitU c = true) : (48 : Int) ≤ (c.toNat : Int) ∧ (c.toNat : Int) ≤ 57 := by rw [digitU_iff] at h; omega
theorem digit_not {c : UInt8} (h : digitU c = false) : (c.toNat : Int) < 48 ∨ (48 ≤ (c.toNat : Int) ∧ 57 < (c.toNat : Int)) := by
  have : ¬ (48 ≤ c.toNat ∧ c.toNat ≤ 57) := by rw [← digitU_iff, h]; simp
  omega

set_option maxHeartbeats 400000 in
theorem ref_Digit (c : UInt8) (w : World) :
    Calls Tryd.prog 23 #[.int .u8 (c.toNat : Int)] w fun e w' => e = .returned (.bool (digitU c)) ∧ w = w' := by
  have h1 : (c.toNat : Int) ≤ 255 := by have := c.toNat_lt; omega
  by_cases h : (48 : Int) ≤ (c.toNat : Int)
  · go_enter Tryd.func23, Tryd.ntmps23
    go_wp2
    go_ret
    refine ⟨ret_bool ?_, rfl⟩
    show decide _ = _
    unfold digitU; congr 1; apply propext; omega
  · go_enter Tryd.func23, Tryd.ntmps23
    go_wp2
    go_ret
    refine ⟨ret_bool ?_, rfl⟩
    show false = _
    unfold digitU; symm; apply decide_eq_false; omega

set_option maxHeartbeats 1000000 in
theorem number_Digits (s : ByteArray) (w : World) (hs : s.size ≤ maxLen) :
    Calls Tryd.prog 22 #[.string s] w fun e w' => e = .returned (.bool (!s.data.toList.isEmpty && allDigits s.data.toList)) ∧ w' = w := by
  unfold maxLen at hs
  go_enter Tryd.func22, Tryd.ntmps22
  go_wp2
  go_loopw [6] (fun i wr => ∃ k : Nat, i = .int .i64 k ∧ k ≤ s.size ∧ Hid (allDigits (s.data.toList.take k) = true) ∧ wr = w) (fun i _ => s.size - (intOf i).toNat)
  case atStart => exact ⟨0, rfl, Nat.zero_le _, Lib.hid rfl, rfl⟩
  case round =>
    obtain ⟨k, rfl, hk, HD, rfl⟩ := hrel
    by_cases hlt : k < s.size
    · have hkl : k < s.data.toList.length := by rw [size_data]; exact hlt
      have hck : s[k] = s.data.toList[k] := rfl
      have HD2 : Hid (digitU s.data.toList[k] = true → allDigits (s.data.toList.take (k + 1)) = true) := Lib.hid (fun h => by
        rw [List.take_succ_eq_append_getElem hkl, allDigits_snoc, HD.out, h]; rfl)
      have H0 : Hid (digitU s.data.toList[k] = false → allDigits s.data.toList = false) := Lib.hid (allDigits_not hkl)
      rw [← hck] at HD2 H0
      clear hck
      have hcc : (s[k].toNat : Int) ≤ 255 := by have := s[k].toNat_lt; omega
      cases hd : digitU s[k] with
      | true =>
        obtain ⟨b1, b2⟩ := digit_boundsI hd
        have HD3 := Lib.hid (HD2.out hd)
        clear HD2 H0 hd
        go_wp2
        go_roundw
        case rel => exact ⟨k + 1, by go_num, by omega, HD3, trivial⟩
        case measure => simp [intOf]; omega
      | false =>
        have H1 := Lib.hid (H0.out hd)
        have hb := digit_not hd
        clear HD2 H0 hd
        rcases hb with b1 | ⟨b1, b2⟩
        all_goals
          go_wp2
          go_ret
          exact ⟨by rw [H1.out, Bool.and_false]; rfl, rfl⟩
    · obtain rfl : k = s.size := by omega
      have hA := HD.out
      rw [List.take_of_length_le (by rw [size_data]; exact Nat.le_refl _)] at hA
      have H1 := Lib.hid hA
      clear hA HD
      by_cases he : s.data.toList = []
      · have e1 : (s.toList == []) = true := by rw [toList_data, he]; rfl
        have H2 := Lib.hid he
        clear he
        go_wp2
        go_ret
        exact ⟨by rw [H2.out]; rfl, rfl⟩
      · have e1 : (s.toList == []) = false := by rw [toList_data]; simpa using he
        have H2 : Hid (s.data.toList.isEmpty = false) := Lib.hid (by simpa using he)
        clear he
        go_wp2
        go_ret
        exact ⟨by rw [H1.out, H2.out]; rfl, rfl⟩

/-- What number.Parse and Number answer. -/
def NumPost (l : List UInt8) (most : Nat) (w : World) (e : Ending) (w' : World) : Prop := e = .returned (.tuple #[.int .i64 ((numM l most).1 : Int), .int .i64 (numM l most).2]) ∧ w' = w
theorem num_fin {l : List UInt8} {most : Nat} {w : World} {e : Ending} (v : Nat) (er : Int) (h : numM l most = (v, er)) (he : e = .returned (.tuple #[.int .i64 (v : Int), .int .i64 er])) : NumPost l most w e w := by
  unfold NumPost; rw [h]; exact ⟨he, rfl⟩
theorem head_get (s : ByteArray) (h : 0 < s.size) : s.data.toList.head? = some s[0] := by
  rw [List.head?_eq_getElem?, List.getElem?_eq_getElem (by rw [size_data]; exact h)]; rfl
theorem num_over {l : List UInt8} {most k : Nat} (hf : formN l = true) (h : most < valL (l.take k)) : numM l most = (0, 7) := by
  have := valL_prefix (List.take_prefix k l)
  unfold numM; rw [hf, if_pos rfl, if_neg (by omega)]

set_option maxHeartbeats 4000000 in
theorem number_Parse (s : ByteArray) (most : Nat) (w : World) (hs : s.size ≤ maxLen) (hm : most ≤ 1152921504606846975) :
    Calls Tryd.prog 14 #[.string s, .int .i64 (most : Int)] w (NumPost s.data.toList most w) := by
  have hD := number_Digits s w hs
  unfold maxLen at hs
  have hfd : formN s.data.toList = ((!s.data.toList.isEmpty && allDigits s.data.toList) && !(decide (1 < s.data.toList.length) && decide (s.data.toList.head? = some 48))) := rfl
  by_cases hdg : (!s.data.toList.isEmpty && allDigits s.data.toList) = true
  · rw [hdg] at hD hfd
    simp only [Bool.and_eq_true] at hdg
    obtain ⟨hne, hall⟩ := hdg
    have hsz : 0 < s.size := by
      rw [← size_data]
      cases h : s.data.toList with
      | nil => rw [h] at hne; simp at hne
      | cons a b => simp
    have hh := head_get s hsz
    rw [hh, size_data] at hfd
    have hcc : (s[0].toNat : Int) ≤ 255 := by have := s[0].toNat_lt; omega
    by_cases hlead : 1 < s.size ∧ s[0] = 48
    · have H0 : Hid (numM s.data.toList most = (0, 2)) := Lib.hid (by unfold numM; rw [hfd, decide_eq_true hlead.1, hlead.2]; rfl)
      have h1 : (1 : Int) < (s.size : Int) := by omega
      have h2 : ((s[0].toNat : Int) == 48) = true := by rw [hlead.2]; rfl
      clear hfd hlead hh hne hall
      go_enter Tryd.func14, Tryd.ntmps14
      go_wp2_with (go_at_call 22; refine hD.mono ?_; rintro e w2 ⟨rfl, rfl⟩)
      go_ret2
      exact num_fin 0 2 H0.out rfl
    · have hF : formN s.data.toList = true := by
        rw [hfd]
        by_cases h : 1 < s.size
        · have : s[0] ≠ 48 := fun e => hlead ⟨h, e⟩
          simp [this]
        · simp [h]
      have HF := Lib.hid hF
      have HALL := Lib.hid hall
      have hcond : (¬ (1 : Int) < (s.size : Int)) ∨ ((1 : Int) < (s.size : Int) ∧ ((s[0].toNat : Int) == 48) = false) := by
        by_cases h : 1 < s.size
        · right
          refine ⟨by omega, ?_⟩
          have h3 : s[0] ≠ 48 := fun e => hlead ⟨h, e⟩
          simp only [beq_eq_false_iff_ne, ne_eq]
          intro e; apply h3; apply UInt8.toNat.inj; show s[0].toNat = 48; omega
        · left; omega
      clear hfd hlead hh hne hall hF
      have hmi : (0 : Int) ≤ (most : Int) := by omega
      have hmu : (most : Int) ≤ 1152921504606846975 := by omega
      rcases hcond with hc1 | ⟨hc1, hc2⟩
      all_goals
        go_enter Tryd.func14, Tryd.ntmps14
        go_wp2_with (go_at_call 22; refine hD.mono ?_; rintro e w2 ⟨rfl, rfl⟩)
        go_loopw [6, 24] (fun n i wr => ∃ (k v : Nat), i = .int .i64 k ∧ n = .int .i64 v ∧ k ≤ s.size ∧ v ≤ most ∧ Hid (valL (s.data.toList.take k) = v) ∧ wr = w2) (fun _ i _ => s.size - (intOf i).toNat)
        case atStart => exact ⟨0, 0, rfl, rfl, Nat.zero_le _, Nat.zero_le _, Lib.hid rfl, rfl⟩
        case round =>
          obtain ⟨k, v, rfl, rfl, hk, hv, HV, rfl⟩ := hrel
          by_cases hlt : k < s.size
          · have hkl : k < s.data.toList.length := by rw [size_data]; exact hlt
            have hck : s[k] = s.data.toList[k] := rfl
            have hd : digitU s[k] = true := by
              have := HALL.out; unfold allDigits at this; rw [List.all_eq_true] at this; exact this _ (by rw [hck]; exact List.getElem_mem hkl)
            obtain ⟨b1, b2⟩ := digit_boundsI hd
            have hv2 : valL (s.data.toList.take (k + 1)) = 10 * v + (s[k].toNat - 48) := by rw [List.take_succ_eq_append_getElem hkl, valL_snoc, HV.out, ← hck]
            have HV2 := Lib.hid hv2
            clear hck hd hv2 HV
            obtain ⟨d, hdd⟩ : ∃ d : Nat, s[k].toNat = 48 + d := ⟨s[k].toNat - 48, by omega⟩
            have hd9 : d ≤ 9 := by omega
            have hdi : (s[k].toNat : Int) - 48 = (d : Int) := by omega
            by_cases hov : most < 10 * v + d
            · have H0 : Hid (numM s.data.toList most = (0, 7)) := Lib.hid (num_over (k := k + 1) HF.out (by rw [HV2.out]; omega))
              clear HV2 hdd
              by_cases h1 : (most : Int) < (d : Int)
              · go_wp2
                go_ret2
                exact num_fin 0 7 H0.out rfl
              · have h2 : (d : Int) ≤ (most : Int) := by omega
                have h3 : ((most : Int) - (d : Int)) / 10 < (v : Int) := by omega
                have h4 : (0 : Int) ≤ (d : Int) := by omega
                clear h1 hov
                go_wp2
                go_ret2
                exact num_fin 0 7 H0.out rfl
            · have HV3 : Hid (valL (s.data.toList.take (k + 1)) = 10 * v + d) := Lib.hid (by rw [HV2.out]; omega)
              have h2 : (d : Int) ≤ (most : Int) := by omega
              have h3 : (v : Int) ≤ ((most : Int) - (d : Int)) / 10 := by omega
              have h4 : (0 : Int) ≤ (d : Int) := by omega
              have h5 : 10 * v + d ≤ most := by omega
              have h6 : (v : Int) ≤ 1152921504606846975 := by omega
              have h7 : (v : Int) * 10 + (d : Int) ≤ 1152921504606846975 := by omega
              clear HV2 hdd hov
              go_wp2
              go_roundw
              case rel => exact ⟨k + 1, 10 * v + d, by go_num, congrArg (Value.int .i64) (by omega), by omega, by omega, HV3, trivial⟩
              case measure => simp [intOf]; omega
          · obtain rfl : k = s.size := by omega
            have hV := HV.out
            rw [List.take_of_length_le (by rw [size_data]; exact Nat.le_refl _)] at hV
            have H0 : Hid (numM s.data.toList most = (v, 0)) := Lib.hid (by unfold numM; rw [HF.out, if_pos rfl, hV, if_pos hv])
            clear hV HV
            go_wp2
            go_ret2
            exact num_fin v 0 H0.out rfl
  · have hd0 : (!s.data.toList.isEmpty && allDigits s.data.toList) = false := by simpa using hdg
    rw [hd0] at hD
    have H0 : Hid (numM s.data.toList most = (0, 2)) := Lib.hid (by unfold numM; rw [hfd, hd0]; rfl)
    clear hfd hd0 hdg
    go_enter Tryd.func14, Tryd.ntmps14
    go_wp2_with (go_at_call 22; refine hD.mono ?_; rintro e w2 ⟨rfl, rfl⟩)
    go_ret2
    exact num_fin 0 2 H0.out rfl

def NumSt (l : List UInt8) (most k v : Nat) (ov : Bool) : Prop := allDigits (l.take k) = true ∧ (ov = false → v ≤ most ∧ valL (l.take k) = v) ∧ (ov = true → most < valL (l.take k))
set_option maxHeartbeats 8000000 in
theorem ref_Number (s : ByteArray) (most : Nat) (w : World) (hs : s.size ≤ maxLen) (hm : most ≤ 115292150460684697) :
    Calls Tryd.prog 16 #[.string s, .int .i64 (most : Int)] w (NumPost s.data.toList most w) := by
  unfold maxLen at hs
  have hDg := fun c W => ref_Digit c W
  by_cases hemp : s.data.toList = []
  · have H0 : Hid (numM s.data.toList most = (0, 2)) := Lib.hid (by rw [hemp]; rfl)
    have e1 : (s.toList == []) = true := by rw [toList_data, hemp]; rfl
    clear hemp
    go_enter Tryd.func16, Tryd.ntmps16
    go_wp2
    go_ret2
    exact num_fin 0 2 H0.out rfl
  have e1 : (s.toList == []) = false := by rw [toList_data]; simpa using hemp
  have hsz : 0 < s.size := by
    rw [← size_data]
    cases h : s.data.toList with
    | nil => exact absurd h hemp
    | cons a b => simp
  have hh := head_get s hsz
  have hcc : (s[0].toNat : Int) ≤ 255 := by have := s[0].toNat_lt; omega
  have hfd : formN s.data.toList = (allDigits s.data.toList && !(decide (1 < s.size) && decide (s[0] = 48))) := by
    have : s.data.toList.isEmpty = false := by simpa using hemp
    unfold formN; rw [this, hh, size_data]; simp
  by_cases hlead : 1 < s.size ∧ s[0] = 48
  · have H0 : Hid (numM s.data.toList most = (0, 2)) := Lib.hid (by unfold numM; rw [hfd, decide_eq_true hlead.1, hlead.2]; simp)
    have h1 : (1 : Int) < (s.size : Int) := by omega
    have h2 : ((s[0].toNat : Int) == 48) = true := by rw [hlead.2]; rfl
    have h3 : (0 : Int) < (s.size : Int) := by omega
    clear hfd hlead hh hemp
    go_enter Tryd.func16, Tryd.ntmps16
    go_wp2
    go_ret2
    exact num_fin 0 2 H0.out rfl
  have hcond : ((s[0].toNat : Int) == 48) = false ∨ (((s[0].toNat : Int) == 48) = true ∧ ¬ (1 : Int) < (s.size : Int)) := by
    by_cases h : s[0] = 48
    · right; refine ⟨by rw [h]; rfl, ?_⟩; intro h2; exact hlead ⟨by omega, h⟩
    · left
      simp only [beq_eq_false_iff_ne, ne_eq]
      intro e; apply h; apply UInt8.toNat.inj; show s[0].toNat = 48; omega
  have HF : Hid (formN s.data.toList = allDigits s.data.toList) := Lib.hid (by
    rw [hfd]
    by_cases h : 1 < s.size
    · have : s[0] ≠ 48 := fun e => hlead ⟨h, e⟩
      simp [this]
    · simp [h])
  have h3 : (0 : Int) < (s.size : Int) := by omega
  have hmi : (0 : Int) ≤ (most : Int) := by omega
  clear hfd hlead hh hemp
  rcases hcond with hc1 | ⟨hc1, hc2⟩
  all_goals
    go_enter Tryd.func16, Tryd.ntmps16
    go_wp2
    go_loopw [6, 7, 8] (fun n o i wr => ∃ (k v : Nat) (ov : Bool), i = .int .i64 k ∧ n = .int .i64 v ∧ o = .bool ov ∧ k ≤ s.size ∧ v ≤ 10 * most + 9 ∧ NumSt s.data.toList most k v ov ∧ wr = w) (fun _ _ i _ => s.size - (intOf i).toNat)
    case atStart => exact ⟨0, 0, false, rfl, rfl, rfl, Nat.zero_le _, Nat.zero_le _, ⟨rfl, fun _ => ⟨Nat.zero_le _, rfl⟩, fun h => by cases h⟩, rfl⟩
    case round =>
      obtain ⟨k, v, ov, rfl, rfl, rfl, hk, hv, HV, rfl⟩ := hrel
      by_cases hlt : k < s.size
      · have hkl : k < s.data.toList.length := by rw [size_data]; exact hlt
        have hck : s[k] = s.data.toList[k] := rfl
        have hcc2 : (s[k].toNat : Int) ≤ 255 := by have := s[k].toNat_lt; omega
        cases hd : digitU s[k] with
        | false =>
          have H0 : Hid (numM s.data.toList most = (0, 2)) := Lib.hid (by unfold numM; rw [HF.out, allDigits_not hkl (by rw [← hck]; exact hd)]; rfl)
          have hDk := fun W => hDg s[k] W
          rw [hd] at hDk
          clear hd hck HV hDg
          go_wp2_with (go_at_call 23; refine (hDk _).mono ?_; rintro e w2 ⟨rfl, rfl⟩)
          go_ret2
          exact num_fin 0 2 H0.out rfl
        | true =>
          obtain ⟨b1, b2⟩ := digit_boundsI hd
          have hDk := fun W => hDg s[k] W
          rw [hd] at hDk
          have hA2 : allDigits (s.data.toList.take (k + 1)) = true := by rw [List.take_succ_eq_append_getElem hkl, allDigits_snoc, HV.1, ← hck, hd]; rfl
          have hv2 : valL (s.data.toList.take (k + 1)) = 10 * valL (s.data.toList.take k) + (s[k].toNat - 48) := by rw [List.take_succ_eq_append_getElem hkl, valL_snoc, ← hck]
          have HV2 := Lib.hid (And.intro hA2 hv2)
          clear hck hd hv2 hA2
          obtain ⟨d, hdd⟩ : ∃ d : Nat, s[k].toNat = 48 + d := ⟨s[k].toNat - 48, by omega⟩
          have hd9 : d ≤ 9 := by omega
          have hdi : (s[k].toNat : Int) - 48 = (d : Int) := by omega
          have h4 : (0 : Int) ≤ (d : Int) := by omega
          cases ov with
          | true =>
            have HN : NumSt s.data.toList most (k + 1) v true := ⟨HV2.out.1, (fun h => by cases h), fun _ => by have := HV.2.2 rfl; have := HV2.out.2; omega⟩
            clear HV HV2 hdd hDg
            go_wp2_with (go_at_call 23; refine (hDk _).mono ?_; rintro e w2 ⟨rfl, rfl⟩)
            go_roundw
            case rel => exact ⟨k + 1, v, true, by go_num, rfl, rfl, by omega, hv, HN, trivial⟩
            case measure => simp [intOf]; omega
          | false =>
            obtain ⟨hvm, hvv⟩ := HV.2.1 rfl
            have HVV := Lib.hid hvv
            clear hvv
            have h6 : 10 * (v : Int) + (d : Int) ≤ 1152921504606846979 := by omega
            by_cases hov : (most : Int) < 10 * (v : Int) + (d : Int)
            · have HN : NumSt s.data.toList most (k + 1) (10 * v + d) true := ⟨HV2.out.1, (fun h => by cases h), fun _ => by rw [HV2.out.2, HVV.out]; omega⟩
              clear HV HV2 hdd hDg HVV
              go_wp2_with (go_at_call 23; refine (hDk _).mono ?_; rintro e w2 ⟨rfl, rfl⟩)
              go_roundw
              case rel => exact ⟨k + 1, 10 * v + d, true, by go_num, congrArg (Value.int .i64) (by omega), rfl, by omega, by omega, HN, trivial⟩
              case measure => simp [intOf]; omega
            · have hov2 : 10 * (v : Int) + (d : Int) ≤ (most : Int) := by omega
              have HN : NumSt s.data.toList most (k + 1) (10 * v + d) false := ⟨HV2.out.1, (fun _ => ⟨by omega, by rw [HV2.out.2, HVV.out]; omega⟩), fun h => by cases h⟩
              clear HV HV2 hdd hDg HVV hov
              go_wp2_with (go_at_call 23; refine (hDk _).mono ?_; rintro e w2 ⟨rfl, rfl⟩)
              go_roundw
              case rel => exact ⟨k + 1, 10 * v + d, false, by go_num, congrArg (Value.int .i64) (by omega), (by first | rfl | exact congrArg Value.bool (decide_eq_false (by omega))), by omega, by omega, HN, trivial⟩
              case measure => simp [intOf]; omega
      · obtain rfl : k = s.size := by omega
        have hV := HV
        unfold NumSt at hV
        rw [List.take_of_length_le (by rw [size_data]; exact Nat.le_refl _)] at hV
        obtain ⟨hA, hV1, hV2⟩ := hV
        cases ov with
        | true =>
          have H0 : Hid (numM s.data.toList most = (0, 7)) := Lib.hid (by have := hV2 rfl; unfold numM; rw [HF.out, hA, if_pos rfl, if_neg (by omega)])
          clear hA hV1 hV2 HV
          go_wp2
          go_ret2
          exact num_fin 0 7 H0.out rfl
        | false =>
          obtain ⟨hvm, hvv⟩ := hV1 rfl
          have H0 : Hid (numM s.data.toList most = (v, 0)) := Lib.hid (by unfold numM; rw [HF.out, hA, if_pos rfl, hvv, if_pos hvm])
          clear hA hV1 hV2 HV hvv
          go_wp2
          go_ret2
          exact num_fin v 0 H0.out rfl
end Go.Proofs.YtgalihmmlcnahaaDoor
