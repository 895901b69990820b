/-
  The document's ParseType.
-/
import Derived.Test.YtoohhoillblaoaaDoorTyE
namespace Go.Proofs.YtoohhoillblaoaaDoor
open Go.RowKit Go.Shelf

theorem take_type (s : List UInt8) : ((foldL s).take 4 = [116, 121, 112, 101]) ↔ ((greatL s).take 4 = [84, 89, 80, 69]) := by
  constructor
  · intro h
    have := congrArg greatL h
    rw [show greatL [116, 121, 112, 101] = [84, 89, 80, 69] by decide] at this
    rw [← this, ← greatL_fold s]; simp [greatL, List.map_take]
  · intro h
    have := congrArg foldL h
    rw [show foldL [84, 89, 80, 69] = [116, 121, 112, 101] by decide] at this
    rw [← this, ← foldL_great s]; simp [foldL, List.map_take]
theorem numM_er (l : List UInt8) (most : Nat) : (numM l most).2 = 0 ∨ (numM l most).2 = 2 ∨ (numM l most).2 = 7 := by
  unfold numM; split
  · split <;> simp
  · simp
/-- Behind the names: a number. -/
def endType (l : List UInt8) : Int × Int := if (numM l 65535).2 = 2 then (0, 6) else if (numM l 65535).2 ≠ 0 ∨ (numM l 65535).1 = 0 then (0, 7) else ((numM l 65535).1, 0)
theorem parseType_none {s : List UInt8} (h : rowOfS (greatL s) = none) : parseTypeM s = if (greatL s).take 4 = [84, 89, 80, 69] then endType (s.drop 4) else (0, 6) := by unfold parseTypeM endType; rw [h]
theorem parseType_some {s : List UInt8} {j : Nat} (h : rowOfS (greatL s) = some j) : parseTypeM s = (typeT j, 0) := by unfold parseTypeM; rw [h]
def ParseTPost (l : List UInt8) (w : World) (e : Ending) (w' : World) : Prop := e = .returned (.tuple #[.int .i64 (parseTypeM l).1, .int .i64 (parseTypeM l).2]) ∧ Below w.heap.size w w'
theorem ptype_fin {l : List UInt8} {w w' : World} {e : Ending} (v er : Int) (h : parseTypeM l = (v, er)) (he : e = .returned (.tuple #[.int .i64 v, .int .i64 er])) (hb : Below w.heap.size w w') : ParseTPost l w e w' := by
  unfold ParseTPost; rw [h]; exact ⟨he, hb⟩
theorem typeName_at (j : Nat) (hj : j < 9) : typeNameM (typeT j) = typeS j := by unfold typeNameM; rw [rowOfT_typeT j hj]

set_option maxHeartbeats 4000000 in
theorem ref_ParseType (s : ByteArray) (w : World) (hs : s.size ≤ 35184372088000) :
    Calls Tryd.prog 7 #[.string s] w (ParseTPost s.data.toList w) := by
  have hF := fun W => ref_FoldLabel s W hs
  obtain ⟨F, hF0, hFz, _⟩ := str_of (foldL s.data.toList)
  have hFF : (⟨(foldL s.data.toList).toArray⟩ : ByteArray) = F := ba_ext (by rw [hF0])
  rw [hFF] at hF
  have hFs : F.size = s.size := by rw [hFz]; simp [foldL]
  have HFF := Lib.hid (And.intro hF0 hFs)
  have hFb : (F.size : Int) ≤ 35184372088000 := by omega
  clear hFF hF0 hFz hFs
  go_enter Tryd.func7, Tryd.ntmps7
  go_wp2_with (first | (go_at_call 18; refine (hF _).mono ?_; rintro e w1 ⟨rfl, hb1⟩) | (go_at_call 12; refine (ref_Types _).mono ?_; rintro e w2 ⟨g, rfl, hT, hb2⟩))
  have hB2 := hb1.trans (hb2.mono hb1.size)
  clear hb1 hb2
  go_loopw [6] (fun i wr => ∃ k : Nat, i = .int .i64 k ∧ k ≤ 9 ∧ Hid (∀ j, j < k → typeS j ≠ greatL s.data.toList) ∧ TRow g wr ∧ Below w.heap.size w wr) (fun i _ => 9 - (intOf i).toNat)
  case atStart => exact ⟨0, rfl, by omega, Lib.hid (by intro j h; omega), hT, hB2⟩
  case round =>
    obtain ⟨k, rfl, hk, HN, hTr, hB⟩ := hrel
    have hBz := hB.size
    by_cases hlt : k < 9
    · have c1 := hTr.2 k hlt
      have hg := hTr.1
      have hTN := fun W => ref_typeName (typeT k) W
      rw [typeName_at k hlt] at hTN
      obtain ⟨sk, hk0, hkz, _⟩ := str_of (typeS k)
      have hkk : (⟨(typeS k).toArray⟩ : ByteArray) = sk := ba_ext (by rw [hk0])
      rw [hkk] at hTN
      have hFk := fun W => ref_FoldLabel sk W (by have := (typeS_ne k hlt).2.2; omega)
      obtain ⟨fk, hfk0, _, _⟩ := str_of (foldL sk.data.toList)
      have hfkk : (⟨(foldL sk.data.toList).toArray⟩ : ByteArray) = fk := ba_ext (by rw [hfk0])
      rw [hfkk] at hFk
      have hiff := fold_typeS k hlt s.data.toList
      rw [← hk0, ← hfk0, ← HFF.out.1, hk0] at hiff
      have HB : Hid (typeS k = greatL s.data.toList → parseTypeM s.data.toList = (typeT k, 0)) := Lib.hid (fun h => parseType_some (rowOfS_first hlt h HN.out))
      have HN2 : Hid (typeS k ≠ greatL s.data.toList → ∀ j, j < k + 1 → typeS j ≠ greatL s.data.toList) := Lib.hid (fun h j hj => by
        by_cases e : j = k
        · rw [e]; exact h
        · exact HN.out j (by omega))
      have HI := Lib.hid hiff
      have hTb := fun W (h : Below wr.heap.size wr W) => hTr.below h
      clear hiff hk0 hkz hkk hfk0 hfkk HN hTr
      generalize typeT k = x at *
      by_cases he : fk.data.toList = F.data.toList
      · have e1 : (fk.toList == F.toList) = true := by rw [toList_data, toList_data]; simpa using he
        have H0 := Lib.hid (HB.out (HI.out.1 he))
        have hkeep := fun W (h : Below wr.heap.size wr W) => (h.cell (p := ⟨g, k, none⟩) hg).trans c1
        clear HB HI HN2 he hTb
        go_wp2_with (first | (go_at_call 19; refine (hTN _).mono ?_; rintro e w3 ⟨rfl, hb3⟩) | (go_at_call 18; refine (hFk _).mono ?_; rintro e w4 ⟨rfl, hb4⟩; have hb5 := hb3.trans (hb4.mono hb3.size); have c5 := hkeep _ hb5))
        go_ret2
        exact ptype_fin x 0 H0.out rfl (hB.trans (hb5.mono hBz))
      · have e1 : (fk.toList == F.toList) = false := by rw [toList_data, toList_data]; simpa using he
        have HN3 := Lib.hid (HN2.out (fun h => he (HI.out.2 h)))
        clear HB HI HN2 he
        go_wp2_with (first | (go_at_call 19; refine (hTN _).mono ?_; rintro e w3 ⟨rfl, hb3⟩) | (go_at_call 18; refine (hFk _).mono ?_; rintro e w4 ⟨rfl, hb4⟩; have hb5 := hb3.trans (hb4.mono hb3.size)))
        go_roundw
        case rel => exact ⟨k + 1, by go_num, by omega, HN3, hTb _ hb5, hB.trans (hb5.mono hBz)⟩
        case measure => simp [intOf]; omega
    · obtain rfl : k = 9 := by omega
      have hno := rowOfS_never HN.out
      have HP := Lib.hid (parseType_none hno)
      clear hno HN hTr
      by_cases h5 : (F.size : Int) < 5
      · have H0 : Hid (parseTypeM s.data.toList = (0, 6)) := Lib.hid (by
          rw [HP.out]; split
          · have : s.data.toList.drop 4 = [] := List.drop_eq_nil_of_le (by rw [size_data, ← HFF.out.2]; omega)
            rw [this]; rfl
          · rfl)
        go_wp2
        go_ret2
        exact ptype_fin 0 6 H0.out rfl hB
      · have h5' : (5 : Int) ≤ (F.size : Int) := by omega
        have hs4 : (4 : Int) ≤ (s.size : Int) := by have := HFF.out.2; omega
        have hx : (F.extract 0 4).toList = (foldL s.data.toList).take 4 := by rw [toList_data, Lib.Pa.extract_upto_list, HFF.out.1]
        have hy : (s.extract 4 s.size).data.toList = s.data.toList.drop 4 := Lib.extract_to_end s 4
        have hy2 : (s.extract 4 s.size).size ≤ maxLen := by rw [← size_data, hy, List.length_drop, size_data]; unfold maxLen; omega
        have hN := fun W => ref_Number (s.extract 4 s.size) 65535 W hy2 (by omega)
        unfold NumPost at hN
        rw [hy] at hN
        clear h5
        by_cases h4 : (foldL s.data.toList).take 4 = [116, 121, 112, 101]
        · have e4 : ((F.extract 0 4).toList == [116, 121, 112, 101]) = true := by rw [hx, h4]; rfl
          have HE : Hid (parseTypeM s.data.toList = endType (s.data.toList.drop 4)) := Lib.hid (by rw [HP.out, if_pos ((take_type _).1 h4)])
          have her := numM_er (s.data.toList.drop 4) 65535
          have hee : endType (s.data.toList.drop 4) = (if (numM (s.data.toList.drop 4) 65535).2 = 2 then ((0 : Int), (6 : Int)) else if (numM (s.data.toList.drop 4) 65535).2 ≠ 0 ∨ (numM (s.data.toList.drop 4) 65535).1 = 0 then (0, 7) else (((numM (s.data.toList.drop 4) 65535).1 : Int), 0)) := rfl
          obtain ⟨⟨v, er⟩, hq⟩ : ∃ q, numM (s.data.toList.drop 4) 65535 = q := ⟨_, rfl⟩
          rw [hq] at hN her hee
          simp only at hN her hee
          have HEE := Lib.hid hee
          clear hee hq hx hy hy2 h4 HP
          rcases her with rfl | rfl | rfl
          · by_cases hv : v = 0
            · subst hv
              have H0 : Hid (parseTypeM s.data.toList = (0, 7)) := Lib.hid (by rw [HE.out, HEE.out]; rfl)
              go_wp2_with (go_at_call 20; refine (hN _).mono ?_; rintro e w3 ⟨rfl, rfl⟩)
              go_ret2
              exact ptype_fin 0 7 H0.out rfl hB
            · have hv0 : ((v : Int) == 0) = false := by simp; omega
              have H0 : Hid (parseTypeM s.data.toList = ((v : Int), 0)) := Lib.hid (by rw [HE.out, HEE.out, if_neg (by omega), if_neg (by omega)])
              clear hv
              go_wp2_with (go_at_call 20; refine (hN _).mono ?_; rintro e w3 ⟨rfl, rfl⟩)
              go_ret2
              exact ptype_fin v 0 H0.out rfl hB
          · have H0 : Hid (parseTypeM s.data.toList = (0, 6)) := Lib.hid (by rw [HE.out, HEE.out]; rfl)
            go_wp2_with (go_at_call 20; refine (hN _).mono ?_; rintro e w3 ⟨rfl, rfl⟩)
            go_ret2
            exact ptype_fin 0 6 H0.out rfl hB
          · have H0 : Hid (parseTypeM s.data.toList = (0, 7)) := Lib.hid (by rw [HE.out, HEE.out, if_neg (by omega), if_pos (by omega)])
            go_wp2_with (go_at_call 20; refine (hN _).mono ?_; rintro e w3 ⟨rfl, rfl⟩)
            go_ret2
            exact ptype_fin 0 7 H0.out rfl hB
        · have e4 : ((F.extract 0 4).toList == [116, 121, 112, 101]) = false := by rw [hx]; simpa using h4
          have H0 : Hid (parseTypeM s.data.toList = (0, 6)) := Lib.hid (by rw [HP.out, if_neg (fun h => h4 ((take_type _).2 h))])
          clear hx hy hy2 h4 HP hN
          go_wp2
          go_ret2
          exact ptype_fin 0 6 H0.out rfl hB
end Go.Proofs.YtoohhoillblaoaaDoor
