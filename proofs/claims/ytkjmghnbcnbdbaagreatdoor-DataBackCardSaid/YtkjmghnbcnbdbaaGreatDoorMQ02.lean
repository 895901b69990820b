/-
  rdata.readText.
-/
import Derived.Test.YtkjmghnbcnbdbaaGreatDoorMQ36
import Derived.Test.YtkjmghnbcnbdbaaGreatDoorMQ12
import Derived.Test.YtkjmghnbcnbdbaaGreatDoorMQ22
namespace Go.Proofs.YtkjmghnbcnbdbaaGreatDoor
open Go.RowKit Go.Shelf

theorem wpl_append_str {ops : Array Oper} {rest : List Oper} {o : Oper} {a : Act} {Q : Exit → Act → World → Prop} (W : World) (hgd : o.guard = none) (sl x : Operand)
    (ho : o.op = .call { callee := .builtin .append, args := #[sl, x], argTypes := #[25, 9] })
    (base : Nat) (v : Value) (xs : List UInt8) (hs : a.eval sl = v) (hown : OwnG 5 bv W base v xs) (s : ByteArray) (hx : a.eval x = .string s)
    (hbase : base ≤ W.heap.size) (hk : xs.length + s.size ≤ 140737488355328)
    (h : ∀ v' w', OwnG 5 bv w' base v' (xs ++ s.data.toList) → W.grownBy w' v.ownBlock → wpList Tryz.prog ops Q rest (a.put o.dst v') w') : wpList Tryz.prog ops Q (o :: rest) a W := by
  obtain ⟨i0, hi, hz0, hz1, hz2⟩ := info_parts info_u8
  refine wpList_plain hgd fun K hK => ?_
  obtain ⟨v', w', hr, h2, h3, h4⟩ := Lib.run_append_own_string (P := Tryz.prog) (w := W) base 25 9 o.type 5 i0 Tryz.underlying25 Tryz.underlying9 hi hz0 hz1 hz2 v xs.length (xs.map bv) hown s (by unfold maxLen; omega) hk hbase
  unfold Oper.wp
  simp [execOp, ho, resolve, invoke, builtin, hs, hx, hr, Result.andThen]
  refine hK _ _ (h v' w' ?_ h3)
  unfold OwnG
  rw [List.length_append, List.map_append, size_data]
  exact h2

/-- A text and an error. -/
def StrE (q : List UInt8 × Int) (w : World) (e : Ending) (w' : World) : Prop := e = .returned (.tuple #[.string ⟨q.1.toArray⟩, .int .i64 q.2]) ∧ Below w.heap.size w w'
theorem strE_fin {q : List UInt8 × Int} {w w' : World} {e : Ending} (l : List UInt8) (er : Int) (h : q = (l, er)) (he : e = .returned (.tuple #[.string ⟨l.toArray⟩, .int .i64 er])) (hb : Below w.heap.size w w') : StrE q w e w' := by
  subst h; exact ⟨he, hb⟩
theorem readText_err {l : List UInt8} {er : Int} (h : gscan tStep l = ([], er)) (h2 : er ≠ 0) : readTextM l = ([], er) := by unfold readTextM; rw [h, if_neg h2]
theorem gscan_out {k : Nat} {l xs : List UInt8} {er : Int} (HJ : gscan tStep l = join xs (gscan tStep (l.drop k))) (h0 : l.drop k ≠ []) (h1 : (tStep (l.drop k)).2.2 = er) (h2 : er ≠ 0) : gscan tStep l = ([], er) := by
  rw [HJ, gscan_err h0 (by rw [h1]; exact h2), h1]; unfold join; rw [if_neg h2]
theorem gscan_on {k : Nat} {l xs y : List UInt8} {sz : Nat} (HJ : gscan tStep l = join xs (gscan tStep (l.drop k))) (h0 : l.drop k ≠ []) (h1 : tStep (l.drop k) = (y, sz, 0)) : gscan tStep l = join (xs ++ y) (gscan tStep (l.drop (k + sz))) := by
  rw [HJ, gscan_ok tStep_ok h0 (by rw [h1]), h1, join_join, List.drop_drop]
theorem tStep_plain {s : ByteArray} {k : Nat} (hk : k < s.size) (h : ((s[k].toNat : Int) != 92) = true) : tStep (s.data.toList.drop k) = ([s[k]], 1, 0) := by
  rw [drop_cons_get s k hk]
  unfold tStep
  have : s[k] ≠ 92 := by
    intro e; rw [e] at h; revert h; decide
  simp only
  rw [if_pos this]
theorem tStep_stroke {s : ByteArray} {k sz : Nat} (hk : k < s.size) (h : ((s[k].toNat : Int) != 92) = false) (hz : tSize (s.data.toList.drop k) = sz) : tStep (s.data.toList.drop k) = ((parseM ((s.data.toList.drop k).take sz)).1, sz, (parseM ((s.data.toList.drop k).take sz)).2) := by
  subst hz
  rw [drop_cons_get s k hk]
  have e : s[k] = 92 := u8_92 h
  have e2 : ∀ (x : UInt8) r, tStep (x :: r) = if x ≠ 92 then ([x], 1, 0) else ((parseM ((x :: r).take (tSize (x :: r)))).1, tSize (x :: r), (parseM ((x :: r).take (tSize (x :: r)))).2) := fun _ _ => rfl
  rw [e2, if_neg (by rw [e]; simp)]
theorem tSize_one {s : ByteArray} {k : Nat} (hk : k < s.size) (h : s.size ≤ k + 1) : tSize (s.data.toList.drop k) = 1 := by
  rw [drop_cons_get s k hk, List.drop_of_length_le (by rw [size_data]; exact h)]; rfl
theorem tSize_two {s : ByteArray} {k : Nat} (hk : k + 1 < s.size) (h : digitU s[k + 1] = false) : tSize (s.data.toList.drop k) = 2 := by
  rw [drop_cons_get s k (by omega), drop_cons_get s (k + 1) hk]
  unfold tSize
  simp only [h, List.length_cons]
  simp <;> omega
theorem tSize_four {s : ByteArray} {k : Nat} (hk : k + 1 < s.size) (h : digitU s[k + 1] = true) : tSize (s.data.toList.drop k) = min 4 (s.size - k) := by
  have hl : (s.data.toList.drop k).length = s.size - k := by rw [List.length_drop, size_data]
  rw [← hl, drop_cons_get s k (by omega), drop_cons_get s (k + 1) hk]
  unfold tSize
  simp only [h, if_true]
theorem parseM_le (l : List UInt8) : (parseM l).1.length ≤ l.length := parseM_len l

set_option maxRecDepth 100000 in
set_option maxHeartbeats 8000000 in
theorem rdata_readText (s : ByteArray) (w : World) (hs : s.size ≤ 1099511627776) :
    Calls Tryz.prog 110 #[.string s] w (StrE (readTextM s.data.toList) w) := by
  go_enter Tryz.func110, Tryz.ntmps110
  go_wp2
  go_loopw [4, 5] (fun v i wr => ∃ (k : Nat) (xs : List UInt8), i = .int .i64 k ∧ k ≤ s.size ∧ Hid (xs.length ≤ k) ∧ OwnG 5 bv wr w.heap.size v xs ∧ Below w.heap.size w wr ∧ Hid (gscan tStep s.data.toList = join xs (gscan tStep (s.data.toList.drop k)))) (fun _ i _ => s.size - (intOf i).toNat)
  case atStart => exact ⟨0, [], rfl, Nat.zero_le _, Lib.hid (Nat.zero_le _), OwnG.nil _ _, Below.refl _ _, Lib.hid (by simpa using gjoin_nil s.data.toList)⟩
  case round =>
    obtain ⟨k, xs, rfl, hk, HX, hown, hB, HJ⟩ := hrel
    have hBz := hB.size
    obtain ⟨av, cv, rfl⟩ := hown.shape
    obtain ⟨dl, hdl⟩ : ∃ dl, xs.length = dl := ⟨_, rfl⟩
    rw [hdl] at hown ⊢
    have HDL := Lib.hid hdl; clear hdl
    by_cases hlt : k < s.size
    · have hcc : (s[k].toNat : Int) ≤ 255 := by have := s[k].toNat_lt; omega
      have hne := Lib.hid (show s.data.toList.drop k ≠ [] by rw [drop_cons_get s k hlt]; simp)
      by_cases hp : ((s[k].toNat : Int) != 92) = true
      · have HJ2 := Lib.hid (gscan_on HJ.out hne.out (tStep_plain hlt hp))
        clear HJ hne
        go_wp2_with (at_builtin; refine wpl_append_g wr rfl (.tmp 18) (.tmp 22) elemU8 rfl bv_one1 w.heap.size (.slice av dl cv) xs rfl hown [.int .u8 (s[k].toNat : Int)] [s[k]] rfl 1 1 rfl rfl hBz (by have := HX.out; unfold maxLen; simp; omega) (by have := HX.out; simp; omega) ?_; intro v2 w2 hown2 hg2; have hB2 := hB.grown hg2 hBz hown.base_le)
        go_roundw
        case rel => exact ⟨k + 1, xs ++ [s[k]], by go_num, by omega, Lib.hid (by have := HX.out; simp; omega), hown2, hB2, HJ2⟩
        case measure => simp [intOf]; omega
      · have hp2 : ((s[k].toNat : Int) != 92) = false := by simpa using hp
        clear hp
        have main : ∀ en : Nat, k < en → en ≤ s.size → tSize (s.data.toList.drop k) = en - k → ∃ l er, (∀ W, Calls Tryz.prog 130 #[.string (s.extract k en)] W fun e w' => e = .returned (.tuple #[.string ⟨l.toArray⟩, .int .i64 er]) ∧ Below W.heap.size W w') ∧ l.length ≤ en - k ∧
            ((er != 0) = true → readTextM s.data.toList = ([], er)) ∧ (er = 0 → gscan tStep s.data.toList = join (xs ++ l) (gscan tStep (s.data.toList.drop en))) := by
          intro en h1 h2 hz
          obtain ⟨sz, rfl⟩ : ∃ sz, en = k + sz := ⟨en - k, by omega⟩
          rw [Nat.add_sub_cancel_left] at hz ⊢
          have hx : (s.extract k (k + sz)).data.toList = (s.data.toList.drop k).take sz := by
            rw [extract_data _ _ _ h2, List.take_drop, Nat.add_comm]
          have hstep := tStep_stroke hlt hp2 hz
          have hlen := parseM_le ((s.data.toList.drop k).take sz)
          have hll : ((s.data.toList.drop k).take sz).length ≤ sz := List.length_take_le _ _
          have hll2 : ((s.data.toList.drop k).take sz).length ≤ 4 := by
            have : tSize (s.data.toList.drop k) ≤ 4 := by
              unfold tSize
              refine Nat.le_trans (Nat.min_le_left _ _) ?_
              split <;> first | omega | (split <;> omega)
            omega
          obtain ⟨⟨l, er⟩, hq⟩ : ∃ q, parseM ((s.data.toList.drop k).take sz) = q := ⟨_, rfl⟩
          rw [hq] at hstep hlen
          refine ⟨l, er, fun W => ?_, by simp only at hlen; omega, fun h => readText_err (gscan_out HJ.out hne.out (by rw [hstep]) (by simpa using h)) (by simpa using h), fun h => ?_⟩
          · have hzz : (s.extract k (k + sz)).size ≤ 35184372088000 := by rw [← size_data, hx]; omega
            refine (label_Parse (s.extract k (k + sz)) W hzz).mono ?_
            intro e w' h; unfold ParsePost at h; rw [hx, hq] at h; exact h
          · subst h; exact gscan_on HJ.out hne.out hstep
        have HM := Lib.hid main
        clear main HJ hne
        by_cases h1 : (k : Int) + 1 < (s.size : Int)
        · have hk1s : k + 1 < s.size := by omega
          have hdd : digitU s[k + 1] = decide ((48 : Int) ≤ (s[k + 1].toNat : Int) ∧ (s[k + 1].toNat : Int) ≤ 57) := by unfold digitU; apply decide_eq_decide.2; omega
          have hd1 : (s[k + 1].toNat : Int) ≤ 255 := by have := s[k + 1].toNat_lt; omega
          have t2 := fun h => tSize_two hk1s h
          have t4 := fun h => tSize_four hk1s h
          rw [hdd] at t2 t4
          by_cases h2 : (48 : Int) ≤ (s[k + 1].toNat : Int)
          · by_cases h3 : (s[k + 1].toNat : Int) ≤ 57
            · have hts := t4 (decide_eq_true ⟨h2, h3⟩)
              clear t2 t4 hdd
              by_cases h4 : k + 4 ≤ s.size
              · obtain ⟨en, hen⟩ : ∃ en, k + 4 = en := ⟨_, rfl⟩
                have hmin : min ((k : Int) + 4) (s.size : Int) = (en : Int) := by omega
                have hk1 : k < en := by omega
                have hk2 : en ≤ s.size := by omega
                replace hts : tSize (s.data.toList.drop k) = en - k := by rw [hts]; omega
                clear hen h4
                obtain ⟨l, er, hP, hl, hbad, hok⟩ := HM.out en hk1 hk2 hts
                obtain ⟨sl, hl0, hlz, _⟩ := str_of l
                rw [str_name hl0] at hP
                have HL := Lib.hid hl; have HS0 := Lib.hid (And.intro hl0 hlz)
                have hki : (k : Int) ≤ (en : Int) := by omega
                have hke : (en : Int) ≤ (s.size : Int) := by omega
                have hkb : (en : Int) ≤ 1099511627776 := by omega
                clear hts hl hl0 hlz HM
                by_cases her : (er != 0) = true
                · have H0 := Lib.hid (hbad her)
                  clear hbad hok
                  go_wp2_with (go_at_call 130; refine (hP _).mono ?_; rintro e w2 ⟨rfl, hb2⟩)
                  go_ret2
                  exact strE_fin [] er H0.out rfl (hB.trans (hb2.mono hBz))
                · have her0 : er = 0 := by simpa using her
                  subst her0
                  have HJ2 := Lib.hid (hok rfl)
                  clear hbad hok her
                  go_wp2_with (first | (go_at_call 130; refine (hP _).mono ?_; rintro e w2 ⟨rfl, hb2⟩) | (at_builtin; refine wpl_append_str w2 rfl (.tmp 62) (.tmp 63) rfl w.heap.size (.slice av dl cv) xs rfl (hown.below hb2) sl rfl (Nat.le_trans hBz hb2.size) (by have := HX.out; have := HL.out; have := HS0.out.2; omega) ?_; intro v3 w3 hown3 hg3; have hB3 : Below w.heap.size w w3 := (hB.trans (hb2.mono hBz)).grown hg3 (Nat.le_trans hBz hb2.size) hown.base_le))
                  go_roundw
                  case rel => exact ⟨en, xs ++ l, rfl, hk2, Lib.hid (by have := HX.out; have := HL.out; simp; omega), by rw [← HS0.out.1]; exact hown3, hB3, HJ2⟩
                  case measure => simp [intOf]; omega
              · obtain ⟨en, hen⟩ : ∃ en, s.size = en := ⟨_, rfl⟩
                have hmin : min ((k : Int) + 4) (s.size : Int) = (en : Int) := by omega
                have hk1 : k < en := by omega
                have hk2 : en ≤ s.size := by omega
                replace hts : tSize (s.data.toList.drop k) = en - k := by rw [hts]; omega
                clear hen h4
                obtain ⟨l, er, hP, hl, hbad, hok⟩ := HM.out en hk1 hk2 hts
                obtain ⟨sl, hl0, hlz, _⟩ := str_of l
                rw [str_name hl0] at hP
                have HL := Lib.hid hl; have HS0 := Lib.hid (And.intro hl0 hlz)
                have hki : (k : Int) ≤ (en : Int) := by omega
                have hke : (en : Int) ≤ (s.size : Int) := by omega
                have hkb : (en : Int) ≤ 1099511627776 := by omega
                clear hts hl hl0 hlz HM
                by_cases her : (er != 0) = true
                · have H0 := Lib.hid (hbad her)
                  clear hbad hok
                  go_wp2_with (go_at_call 130; refine (hP _).mono ?_; rintro e w2 ⟨rfl, hb2⟩)
                  go_ret2
                  exact strE_fin [] er H0.out rfl (hB.trans (hb2.mono hBz))
                · have her0 : er = 0 := by simpa using her
                  subst her0
                  have HJ2 := Lib.hid (hok rfl)
                  clear hbad hok her
                  go_wp2_with (first | (go_at_call 130; refine (hP _).mono ?_; rintro e w2 ⟨rfl, hb2⟩) | (at_builtin; refine wpl_append_str w2 rfl (.tmp 62) (.tmp 63) rfl w.heap.size (.slice av dl cv) xs rfl (hown.below hb2) sl rfl (Nat.le_trans hBz hb2.size) (by have := HX.out; have := HL.out; have := HS0.out.2; omega) ?_; intro v3 w3 hown3 hg3; have hB3 : Below w.heap.size w w3 := (hB.trans (hb2.mono hBz)).grown hg3 (Nat.le_trans hBz hb2.size) hown.base_le))
                  go_roundw
                  case rel => exact ⟨en, xs ++ l, rfl, hk2, Lib.hid (by have := HX.out; have := HL.out; simp; omega), by rw [← HS0.out.1]; exact hown3, hB3, HJ2⟩
                  case measure => simp [intOf]; omega
            · have hts := t2 (decide_eq_false (by omega))
              clear t2 t4 hdd
              obtain ⟨en, hen⟩ : ∃ en, k + 2 = en := ⟨_, rfl⟩
              have hmin : min ((k : Int) + 2) (s.size : Int) = (en : Int) := by omega
              have hk1 : k < en := by omega
              have hk2 : en ≤ s.size := by omega
              replace hts : tSize (s.data.toList.drop k) = en - k := by rw [hts]; omega
              clear hen
              obtain ⟨l, er, hP, hl, hbad, hok⟩ := HM.out en hk1 hk2 hts
              obtain ⟨sl, hl0, hlz, _⟩ := str_of l
              rw [str_name hl0] at hP
              have HL := Lib.hid hl; have HS0 := Lib.hid (And.intro hl0 hlz)
              have hki : (k : Int) ≤ (en : Int) := by omega
              have hke : (en : Int) ≤ (s.size : Int) := by omega
              have hkb : (en : Int) ≤ 1099511627776 := by omega
              clear hts hl hl0 hlz HM
              by_cases her : (er != 0) = true
              · have H0 := Lib.hid (hbad her)
                clear hbad hok
                go_wp2_with (go_at_call 130; refine (hP _).mono ?_; rintro e w2 ⟨rfl, hb2⟩)
                go_ret2
                exact strE_fin [] er H0.out rfl (hB.trans (hb2.mono hBz))
              · have her0 : er = 0 := by simpa using her
                subst her0
                have HJ2 := Lib.hid (hok rfl)
                clear hbad hok her
                go_wp2_with (first | (go_at_call 130; refine (hP _).mono ?_; rintro e w2 ⟨rfl, hb2⟩) | (at_builtin; refine wpl_append_str w2 rfl (.tmp 62) (.tmp 63) rfl w.heap.size (.slice av dl cv) xs rfl (hown.below hb2) sl rfl (Nat.le_trans hBz hb2.size) (by have := HX.out; have := HL.out; have := HS0.out.2; omega) ?_; intro v3 w3 hown3 hg3; have hB3 : Below w.heap.size w w3 := (hB.trans (hb2.mono hBz)).grown hg3 (Nat.le_trans hBz hb2.size) hown.base_le))
                go_roundw
                case rel => exact ⟨en, xs ++ l, rfl, hk2, Lib.hid (by have := HX.out; have := HL.out; simp; omega), by rw [← HS0.out.1]; exact hown3, hB3, HJ2⟩
                case measure => simp [intOf]; omega
          · have hts := t2 (decide_eq_false (by omega))
            clear t2 t4 hdd
            obtain ⟨en, hen⟩ : ∃ en, k + 2 = en := ⟨_, rfl⟩
            have hmin : min ((k : Int) + 2) (s.size : Int) = (en : Int) := by omega
            have hk1 : k < en := by omega
            have hk2 : en ≤ s.size := by omega
            replace hts : tSize (s.data.toList.drop k) = en - k := by rw [hts]; omega
            clear hen
            obtain ⟨l, er, hP, hl, hbad, hok⟩ := HM.out en hk1 hk2 hts
            obtain ⟨sl, hl0, hlz, _⟩ := str_of l
            rw [str_name hl0] at hP
            have HL := Lib.hid hl; have HS0 := Lib.hid (And.intro hl0 hlz)
            have hki : (k : Int) ≤ (en : Int) := by omega
            have hke : (en : Int) ≤ (s.size : Int) := by omega
            have hkb : (en : Int) ≤ 1099511627776 := by omega
            clear hts hl hl0 hlz HM
            by_cases her : (er != 0) = true
            · have H0 := Lib.hid (hbad her)
              clear hbad hok
              go_wp2_with (go_at_call 130; refine (hP _).mono ?_; rintro e w2 ⟨rfl, hb2⟩)
              go_ret2
              exact strE_fin [] er H0.out rfl (hB.trans (hb2.mono hBz))
            · have her0 : er = 0 := by simpa using her
              subst her0
              have HJ2 := Lib.hid (hok rfl)
              clear hbad hok her
              go_wp2_with (first | (go_at_call 130; refine (hP _).mono ?_; rintro e w2 ⟨rfl, hb2⟩) | (at_builtin; refine wpl_append_str w2 rfl (.tmp 62) (.tmp 63) rfl w.heap.size (.slice av dl cv) xs rfl (hown.below hb2) sl rfl (Nat.le_trans hBz hb2.size) (by have := HX.out; have := HL.out; have := HS0.out.2; omega) ?_; intro v3 w3 hown3 hg3; have hB3 : Below w.heap.size w w3 := (hB.trans (hb2.mono hBz)).grown hg3 (Nat.le_trans hBz hb2.size) hown.base_le))
              go_roundw
              case rel => exact ⟨en, xs ++ l, rfl, hk2, Lib.hid (by have := HX.out; have := HL.out; simp; omega), by rw [← HS0.out.1]; exact hown3, hB3, HJ2⟩
              case measure => simp [intOf]; omega
        · have hts := tSize_one hlt (by omega)
          obtain ⟨en, hen⟩ : ∃ en, s.size = en := ⟨_, rfl⟩
          have hmin : min ((k : Int) + 2) (s.size : Int) = (en : Int) := by omega
          have hk1 : k < en := by omega
          have hk2 : en ≤ s.size := by omega
          replace hts : tSize (s.data.toList.drop k) = en - k := by rw [hts]; omega
          clear hen
          obtain ⟨l, er, hP, hl, hbad, hok⟩ := HM.out en hk1 hk2 hts
          obtain ⟨sl, hl0, hlz, _⟩ := str_of l
          rw [str_name hl0] at hP
          have HL := Lib.hid hl; have HS0 := Lib.hid (And.intro hl0 hlz)
          have hki : (k : Int) ≤ (en : Int) := by omega
          have hke : (en : Int) ≤ (s.size : Int) := by omega
          have hkb : (en : Int) ≤ 1099511627776 := by omega
          clear hts hl hl0 hlz HM
          by_cases her : (er != 0) = true
          · have H0 := Lib.hid (hbad her)
            clear hbad hok
            go_wp2_with (go_at_call 130; refine (hP _).mono ?_; rintro e w2 ⟨rfl, hb2⟩)
            go_ret2
            exact strE_fin [] er H0.out rfl (hB.trans (hb2.mono hBz))
          · have her0 : er = 0 := by simpa using her
            subst her0
            have HJ2 := Lib.hid (hok rfl)
            clear hbad hok her
            go_wp2_with (first | (go_at_call 130; refine (hP _).mono ?_; rintro e w2 ⟨rfl, hb2⟩) | (at_builtin; refine wpl_append_str w2 rfl (.tmp 62) (.tmp 63) rfl w.heap.size (.slice av dl cv) xs rfl (hown.below hb2) sl rfl (Nat.le_trans hBz hb2.size) (by have := HX.out; have := HL.out; have := HS0.out.2; omega) ?_; intro v3 w3 hown3 hg3; have hB3 : Below w.heap.size w w3 := (hB.trans (hb2.mono hBz)).grown hg3 (Nat.le_trans hBz hb2.size) hown.base_le))
            go_roundw
            case rel => exact ⟨en, xs ++ l, rfl, hk2, Lib.hid (by have := HX.out; have := HL.out; simp; omega), by rw [← HS0.out.1]; exact hown3, hB3, HJ2⟩
            case measure => simp [intOf]; omega
    · obtain rfl : k = s.size := by omega
      have hsc : gscan tStep s.data.toList = (xs, 0) := by rw [HJ.out, List.drop_of_length_le (by rw [size_data]; exact Nat.le_refl _), gscan_nil]; unfold join; simp
      have hcv := OwnU8.string hown
      have hrt : readTextM s.data.toList = if 255 < xs.length then ([], 3) else (xs, 0) := by unfold readTextM; rw [hsc, if_pos rfl]
      rw [HDL.out] at hrt
      by_cases h5 : 255 < (dl : Int)
      · have H0 := Lib.hid (show readTextM s.data.toList = ([], 3) by rw [hrt, if_pos (by omega)])
        clear HJ hsc hrt
        go_wp2
        go_ret2
        exact strE_fin [] 3 H0.out rfl hB
      · have H0 := Lib.hid (show readTextM s.data.toList = (xs, 0) by rw [hrt, if_neg (by omega)])
        clear HJ hsc hrt
        go_wp2
        go_ret2
        exact strE_fin xs 0 H0.out rfl hB
end Go.Proofs.YtkjmghnbcnbdbaaGreatDoor

