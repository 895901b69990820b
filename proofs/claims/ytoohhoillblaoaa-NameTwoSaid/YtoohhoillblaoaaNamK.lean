/-
  Contract of name.readLabels.
-/
import Derived.Test.YtoohhoillblaoaaNamJ
import Derived.Test.YtoohhoillblaoaaNamP
namespace Go.Proofs.Ytoohhoillblaoaa
open Go.RowKit Go.Shelf

def ReadNPost (ps : Nm) (w : World) (e : Ending) (w' : World) : Prop := ∃ v', e = .returned (.tuple #[v', .int .i64 (readN ps).2]) ∧ OwnG 9 strV w' w.heap.size v' (readN ps).1 ∧ Below w.heap.size w w'
theorem readN_fin {ps : Nm} {w w' : World} {e : Ending} {v : Value} (l : Nm) (er : Int) (h : readN ps = (l, er)) (he : e = .returned (.tuple #[v, .int .i64 er])) (ho : OwnG 9 strV w' w.heap.size v l) (hw : Below w.heap.size w w') : ReadNPost ps w e w' := by
  unfold ReadNPost; rw [h]; exact ⟨v, he, ho, hw⟩

set_option maxHeartbeats 4000000 in
theorem name_readLabels (v : Value) (ps : Nm) (w : World) (hA : StrsAt w v ps) (hn : ps.length ≤ 1099511627776) (hx : ∀ x ∈ ps, x.length ≤ 1099511627776) :
    Calls Try.prog 50 #[v] w (ReadNPost ps w) := by
  obtain ⟨a, c, rfl, _⟩ := id hA
  obtain ⟨n, hnn⟩ : ∃ n, ps.length = n := ⟨_, rfl⟩
  have HN := Lib.hid hnn
  have hAcell := fun W' (hb : Below w.heap.size w W') j hj => hA.cell hb j hj
  rw [hnn] at hn ⊢
  have HA := Lib.hid hA
  clear hA hnn
  go_enter Try.func50, Try.ntmps50
  go_wp2_with (at_make; refine wpl_make_g (α := List UInt8) (enc := strV) w rfl _ _ elemNm rfl w.heap.size .i64 .i64 _ n rfl rfl rfl (by omega) (by unfold maxLen; omega) (Nat.le_refl _) ?_; intro w0 hown0 hg0; have hB0 : Below w.heap.size w w0 := (Below.refl _ w).grown hg0 (Nat.le_refl _) (by simp))
  go_loopw [4, 14] (fun u i wr => ∃ (k : Nat) (done : Nm), i = .int .i64 k ∧ k ≤ n ∧ done.length = k ∧ OwnG 9 strV wr w.heap.size u done ∧ Below w.heap.size w wr ∧ Hid (readN (ps.take k) = (done, 0))) (fun _ i _ => n - (intOf i).toNat)
  case atStart => exact ⟨0, [], rfl, Nat.zero_le _, rfl, hown0, hB0, Lib.hid rfl⟩
  case round =>
    obtain ⟨k, done, rfl, hk, hdk, hown, hB, HR⟩ := hrel
    have HD := Lib.hid hdk; clear hdk
    obtain ⟨au, cu, rfl⟩ := hown.shape
    generalize hdl : done.length = dl at *
    have HDL := Lib.hid hdl; clear hdl
    by_cases hlt : k < n
    · have hkp : k < ps.length := by rw [HN.out]; exact hlt
      obtain ⟨g, off, rfl, hg, hcell⟩ := hAcell wr hB k hkp
      obtain ⟨s, hs0, hsz, hsv⟩ := str_of ps[k]
      rw [hsv] at hcell
      have hxk := hx ps[k] (List.getElem_mem hkp)
      obtain ⟨⟨l, er⟩, hq⟩ : ∃ q, parseM ps[k] = q := ⟨_, rfl⟩
      have hP : ∀ W, Calls Try.prog 65 #[.string s] W fun e w' => e = .returned (.tuple #[.string ⟨l.toArray⟩, .int .i64 er]) ∧ Below W.heap.size W w' := fun W => by
        refine (label_Parse s W (by omega)).mono ?_
        intro e w' h; unfold ParsePost at h; rw [hs0, hq] at h; exact h
      have htk : ps.take (k + 1) = ps.take k ++ [ps[k]] := List.take_succ_eq_append_getElem hkp
      have hrd : readN (ps.take (k + 1)) = if er = 0 then (done ++ [l], 0) else ([], er) := by
        rw [htk, readN_snoc _ _ (by rw [HR.out]), HR.out, hq]
      have hBz := hB.size
      by_cases her : (er != 0) = true
      · have hne : er ≠ 0 := by simpa using her
        have H0 : Hid (readN ps = ([], er)) := Lib.hid (by
          rw [if_neg hne] at hrd
          have := readN_stop (List.take_prefix (k + 1) ps) (by rw [hrd]; exact hne)
          rw [hrd] at this; exact this)
        clear hs0 hsz hsv hxk hq htk hrd hne
        go_wp2_with (go_at_call 65; refine (hP _).mono ?_; rintro e w2 ⟨rfl, hb2⟩)
        go_ret2
        exact readN_fin [] er H0.out rfl (OwnG.nil _ _) (hB.trans (hb2.mono hBz))
      · have her0 : er = 0 := by simpa using her
        subst her0
        have H0 : Hid (readN (ps.take (k + 1)) = (done ++ [l], 0)) := Lib.hid (by rw [hrd, if_pos rfl])
        clear hs0 hsz hsv hxk hq htk hrd her
        have hcl : [Value.string ⟨l.toArray⟩] = [l].map strV := rfl
        have HC := Lib.hid hcl; clear hcl
        generalize (⟨l.toArray⟩ : ByteArray) = sl at *
        go_wp2_with (first | (go_at_call 65; refine (hP _).mono ?_; rintro e w2 ⟨rfl, hb2⟩; have hown2 := hown.below (hb2.mono (Nat.le_refl _)); have hB2 := hB.trans (hb2.mono hBz)) | (at_builtin; refine wpl_append_g w2 rfl (.tmp 26) (.tmp 28) elemNm rfl strV_one w.heap.size (.slice au dl cu) done rfl hown2 [.string sl] [l] HC.out 1 1 rfl rfl hB2.size (by have := HD.out; have := HDL.out; unfold maxLen; simp; omega) (by have := HD.out; have := HDL.out; simp; omega) ?_; intro v3 w3 hown3 hg3; have hB3 : Below w.heap.size w w3 := hB2.grown hg3 hB2.size hown2.base_le))
        go_roundw
        case rel => exact ⟨k + 1, done ++ [l], by go_num, by omega, by have := HD.out; have := HDL.out; simp; omega, hown3, hB3, H0⟩
        case measure => simp [intOf]; omega
    · obtain rfl : k = n := by omega
      have H0 : Hid (readN ps = (done, 0)) := Lib.hid (by rw [← HR.out, List.take_of_length_le (by rw [HN.out]; exact Nat.le_refl _)])
      clear HR
      go_wp2
      go_ret2
      exact readN_fin done 0 H0.out rfl hown hB
end Go.Proofs.Ytoohhoillblaoaa
