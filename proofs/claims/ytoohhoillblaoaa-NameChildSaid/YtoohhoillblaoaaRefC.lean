/-
  The document's parting of a text (package toponymref6): Split: the parts that label.Split tells.
-/
import Derived.Test.YtoohhoillblaoaaSplitM
import Derived.Test.YtoohhoillblaoaaOwn2
import Derived.Test.YtoohhoillblaoaaRefB
import Derived.RegionTactic
import Derived.ChangeAlike
namespace Go.Proofs.Ytoohhoillblaoaa
open Go.RowKit Go.Shelf

def RSplitPost (s : ByteArray) (w : World) (e : Ending) (w' : World) : Prop :=
  ∃ v, e = .returned (.tuple #[v, .int .i64 (splitM s.data.toList).2]) ∧ OwnG 9 strV w' w.heap.size v (splitM s.data.toList).1 ∧ Below w.heap.size w w'
theorem rsplit_fin {s : ByteArray} {w w' : World} {e : Ending} {v : Value} (l : List (List UInt8)) (er : Int) (h : splitM s.data.toList = (l, er)) (he : e = .returned (.tuple #[v, .int .i64 er])) (ho : OwnG 9 strV w' w.heap.size v l) (hw : Below w.heap.size w w') : RSplitPost s w e w' := by
  unfold RSplitPost; rw [h]; exact ⟨v, he, ho, hw⟩

theorem set_last (done : List (List UInt8)) (cur y : List UInt8) : (done ++ [cur]).set done.length y = done ++ [y] := by
  rw [List.set_append_right _ _ (Nat.le_refl _)]; simp
theorem get_last (done : List (List UInt8)) (cur : List UInt8) (h : done.length < (done ++ [cur]).length) : (done ++ [cur])[done.length] = cur := by simp
theorem extract_two (s : ByteArray) (k : Nat) (h : k + 1 < s.size) : s.extract k (k + 2) = ⟨#[s[k], s[k + 1]]⟩ := by
  apply ba_ext
  have h1 : (s.extract k (k + 2)).data.toList = (s.data.toList.take (k + 2)).drop k := by simp [ByteArray.data_extract, List.drop_take]
  rw [h1, take_snoc_get s (k + 1) h, take_snoc_get s k (by omega), List.append_assoc, List.drop_left' (by simp; omega)]; rfl

set_option maxRecDepth 100000 in
set_option maxHeartbeats 4000000 in
theorem ref_Split (s : ByteArray) (w : World) (hs : s.size ≤ 8796093022000) :
    Calls Try.prog 51 #[.string s] w (RSplitPost s w) := by
  have hlit : OwnG 9 strV (w.alloc (.cells #[.string ⟨#[]⟩] 9)) w.heap.size (.slice (some ⟨w.heap.size, 0, none⟩) 1 1) [[]] := OwnG.lit (enc := strV) w w.heap.size (Nat.le_refl _) [[]] (by unfold maxLen; simp)
  have hbl : Below w.heap.size w (w.alloc (.cells #[.string ⟨#[]⟩] 9)) := (Below.refl _ _).alloc (Nat.le_refl _) _
  have hm0 : splitM s.data.toList = splitR (s.data.toList.drop 0) [] [] := by rw [splitM_eq]; rfl
  have HM0 := Lib.hid hm0; clear hm0
  go_enter Try.func51, Try.ntmps51
  go_wp2
  go_loopw [4, 5] (fun v i wr => ∃ (k : Nat) (cur : List UInt8) (done : List (List UInt8)), i = .int .i64 k ∧ k ≤ s.size ∧ cur.length ≤ k ∧ done.length ≤ k ∧ OwnG 9 strV wr w.heap.size v (done ++ [cur]) ∧ Below w.heap.size w wr ∧ Hid (splitM s.data.toList = splitR (s.data.toList.drop k) cur done)) (fun _ i _ => s.size - (intOf i).toNat)
  case atStart => exact ⟨0, [], [], rfl, Nat.zero_le _, Nat.zero_le _, Nat.zero_le _, hlit, hbl, HM0⟩
  case round =>
    obtain ⟨k, cur, done, rfl, hk, hcl, hdl, hown, hB, HJ⟩ := hrel
    clear hlit hbl HM0
    by_cases hlt : k < s.size
    · obtain ⟨a0, c0, rfl⟩ := hown.shape
      obtain ⟨m, hm⟩ : ∃ m, done.length = m := ⟨_, rfl⟩
      have hlen : (done ++ [cur]).length = m + 1 := by simp [hm]
      rw [hlen] at hown ⊢
      obtain ⟨g, rfl, hg, hglt, _⟩ := hown.cells (by simp)
      obtain ⟨hcell, hfro⟩ := hown.cell_at m (by omega)
      have hgm : (done ++ [cur])[m]'(by omega) = cur := by subst hm; simp
      rw [hgm] at hcell
      unfold strV at hcell
      clear hgm hlen
      rw [hm] at hdl
      have HDM := Lib.hid hm; clear hm
      by_cases d : ((s[k].toNat : Int) == 46) = true
      · have hd : s[k] = 46 := u8_is (n := 46) (by omega) d
        have R : Hid (splitM s.data.toList = splitR (s.data.toList.drop (k + 1)) [] (done ++ [cur])) := Lib.hid (by rw [HJ.out, drop_cons_get s k hlt, hd, splitR_dot])
        clear hd HJ
        go_wp2_with (at_builtin; go_loud (refine wpl_append_g wr rfl (.tmp 35) (.tmp 36) elemStr rfl strV_one w.heap.size (.slice (some ⟨g, 0, none⟩) (m + 1) c0) (done ++ [cur]) rfl hown [.string ⟨#[]⟩] [[]] rfl 1 1 rfl rfl hB.size (by have := HDM.out; unfold maxLen; simp; omega) (by have := HDM.out; simp; omega) ?_; intro v' w1 hown' hg'; have hB1 := hB.grown hg' hB.size hown.base_le))
        go_roundw
        case rel => exact ⟨k + 1, [], done ++ [cur], by go_num, by omega, Nat.zero_le _, by have := HDM.out; simp; omega, hown', hB1, R⟩
        case measure => simp [intOf]; omega
      have d1 : ((s[k].toNat : Int) == 46) = false := by simpa using d
      clear d
      have hB0 := hown.block_ge
      by_cases d2 : ((s[k].toNat : Int) == 92) = true
      · have hd : s[k] = 92 := u8_is (n := 92) (by omega) d2
        by_cases he : s.size ≤ k + 1
        · have R : Hid (splitM s.data.toList = ([], 2)) := Lib.hid (by rw [HJ.out, drop_cons_get s k hlt, hd, List.drop_eq_nil_of_le (by rw [size_data]; omega), splitR_stroke_end])
          clear hd HJ
          go_wp2
          go_ret2
          exact rsplit_fin [] 2 R.out rfl (OwnG.nil _ _) hB
        · have hk1 : k + 1 < s.size := by omega
          have R : Hid (splitM s.data.toList = splitR (s.data.toList.drop (k + 2)) (cur ++ [92, s[k + 1]]) done) := Lib.hid (by rw [HJ.out, drop_cons_get s k hlt, drop_cons_get s (k + 1) hk1, hd, splitR_stroke])
          have hx2 : s.extract k (k + 2) = ⟨#[92, s[k + 1]]⟩ := by rw [extract_two s k hk1, hd]
          have a1 := fun W => run_string_add_sum (P := Try.prog) W ⟨cur.toArray⟩ ⟨#[92, s[k + 1]]⟩ (by show cur.toArray.size + 2 ≤ _; rw [List.size_toArray]; omega)
          have e1 : (⟨cur.toArray⟩ : ByteArray) ++ ⟨#[92, s[k + 1]]⟩ = ⟨(cur ++ [92, s[k + 1]]).toArray⟩ := mk_append cur [92, s[k + 1]]
          have hset := hown.set m (cur ++ [92, s[k + 1]])
          rw [← HDM.out, set_last, HDM.out] at hset
          unfold strV at hset
          have hB1 : Below w.heap.size w (wr.setCell ⟨g, m, none⟩ (.string ⟨(cur ++ [92, s[k + 1]]).toArray⟩)) := hB.setCell (by exact hB0) _
          rw [e1] at a1
          clear hd HJ e1 he
          go_wp2
          go_region
          go_wp2
          go_roundw
          case rel => exact ⟨k + 2, cur ++ [92, s[k + 1]], done, by go_num, by omega, by simp; omega, by have := HDM.out; omega, hset, hB1.drew, R⟩
          case measure => simp [intOf]; omega
      have p1 : ((s[k].toNat : Int) == 92) = false := by simpa using d2
      clear d2
      have R : Hid (splitM s.data.toList = splitR (s.data.toList.drop (k + 1)) (cur ++ [s[k]]) done) := Lib.hid (by rw [HJ.out, drop_cons_get s k hlt, splitR_other (u8_isnt (n := 46) (by omega) d1) (u8_isnt (n := 92) (by omega) p1)])
      have hx1 := extract_one s k hlt
      have a1 := fun W => run_string_add_sum (P := Try.prog) W ⟨cur.toArray⟩ ⟨#[s[k]]⟩ (by show cur.toArray.size + 1 ≤ _; rw [List.size_toArray]; omega)
      have e1 : (⟨cur.toArray⟩ : ByteArray) ++ ⟨#[s[k]]⟩ = ⟨(cur ++ [s[k]]).toArray⟩ := mk_append cur [s[k]]
      have hset := hown.set m (cur ++ [s[k]])
      rw [← HDM.out, set_last, HDM.out] at hset
      unfold strV at hset
      have hB1 : Below w.heap.size w (wr.setCell ⟨g, m, none⟩ (.string ⟨(cur ++ [s[k]]).toArray⟩)) := hB.setCell (by exact hB0) _
      rw [e1] at a1
      clear HJ e1
      go_wp2
      go_region
      go_wp2
      go_roundw
      case rel => exact ⟨k + 1, cur ++ [s[k]], done, by go_num, by omega, by simp; omega, by have := HDM.out; omega, hset, hB1.drew, R⟩
      case measure => simp [intOf]; omega
    · obtain rfl : k = s.size := by omega
      have R : Hid (splitM s.data.toList = (done ++ [cur], 0)) := Lib.hid (by rw [HJ.out, List.drop_eq_nil_of_le (by simp)]; rfl)
      clear HJ
      go_wp2
      go_ret2
      exact rsplit_fin (done ++ [cur]) 0 R.out rfl hown hB

end Go.Proofs.Ytoohhoillblaoaa
