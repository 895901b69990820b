/-
  rdata.readGroups.
-/
import Derived.Test.YtkjmghnbcnbdbaaGreatDoorMQ33
import Derived.Test.YtkjmghnbcnbdbaaGreatDoorMQ32
import Derived.IntWalk
import Derived.Outline
namespace Go.Proofs.YtkjmghnbcnbdbaaGreatDoor
open Go.RowKit Go.Shelf

theorem groups_bad {p : List UInt8} {r : Nm} (h : p.length < 1 ∨ 4 < p.length ∨ p.all hexB = false) : groupsR (p :: r) = ([], 2) := by rw [groupsR, if_pos h]
theorem groups_ok {p : List UInt8} {r : Nm} (h : ¬ (p.length < 1 ∨ 4 < p.length ∨ p.all hexB = false)) : groupsR (p :: r) = join [UInt8.ofNat (groupV p / 256), UInt8.ofNat (groupV p % 256)] (groupsR r) := by
  rw [groupsR, if_neg h]; unfold join; rfl
theorem groups_nil (l : Nm) : groupsR l = join [] (groupsR l) := by
  unfold join
  induction l with
  | nil => rfl
  | cons p r _ =>
    by_cases h : p.length < 1 ∨ 4 < p.length ∨ p.all hexB = false
    · rw [groups_bad h]; rfl
    · rw [groups_ok h]
      unfold join
      by_cases h2 : (groupsR r).2 = 0
      · simp [h2]
      · simp [h2]
theorem groupV_snoc (l : List UInt8) (c : UInt8) : groupV (l ++ [c]) = 16 * groupV l + hexV c := by simp [groupV]
theorem groupV_lt (l : List UInt8) : groupV l < 16 ^ l.length := by
  have key : ∀ (l : List UInt8) (n : Nat), l.foldl (fun n c => 16 * n + hexV c) n < (n + 1) * 16 ^ l.length := by
    intro l
    induction l with
    | nil => intro n; simp
    | cons c r ih =>
      intro n
      have h1 := ih (16 * n + hexV c)
      have h2 := hexV_lt c
      have h3 : (16 * n + hexV c + 1) * 16 ^ r.length ≤ ((n + 1) * 16) * 16 ^ r.length := Nat.mul_le_mul_right _ (by omega)
      rw [List.foldl_cons, List.length_cons, Nat.pow_succ, Nat.mul_comm (16 ^ r.length) 16, ← Nat.mul_assoc]
      omega
  have := key l 0
  simpa [groupV] using this
theorem groupV_le4 {l : List UInt8} (h : l.length ≤ 4) : groupV l ≤ 65535 := by
  have h1 := groupV_lt l
  have h2 : 16 ^ l.length ≤ 16 ^ 4 := Nat.pow_le_pow_right (by decide) h
  have h3 : (16 : Nat) ^ 4 = 65536 := by decide
  omega
theorem i64_or_nat (a b : Nat) (ha : a < 9223372036854775808) (hb : b < 9223372036854775808) : bits .or .i64 (a : Int) (b : Int) = ((a ||| b : Nat) : Int) := by
  have hx : a ||| b < 2 ^ 63 := Nat.or_lt_two_pow (by omega) (by omega)
  have o : ∀ c : Nat, c < 9223372036854775808 → (BitVec.ofInt 64 (c : Int)).toNat = c := fun c hc => by
    rw [BitVec.ofInt_natCast, BitVec.toNat_ofNat]; exact Nat.mod_eq_of_lt (by omega)
  show IntKind.i64.wrap ((BitVec.ofInt 64 (a : Int) ||| BitVec.ofInt 64 (b : Int)).toNat : Int) = _
  rw [BitVec.toNat_or, o a ha, o b hb, IntKind.wrap_i64]
  omega
theorem or_nibble (g v : Nat) (hv : v < 16) (hg : g ≤ 4095) : bits .or .i64 ((g : Int) * 16) (v : Int) = ((16 * g + v : Nat) : Int) := by
  rw [show ((g : Int) * 16) = ((16 * g : Nat) : Int) by omega, i64_or_nat _ _ (by omega) (by omega)]
  congr 1
  exact (Nat.two_pow_add_eq_or_of_lt (i := 4) (by omega) g).symm

set_option maxHeartbeats 4000000 in
theorem rdata_readGroups (s : ByteArray) (w : World) (hM : MaxC w) (hs : s.size ≤ 1048576) :
    Calls Tryz.prog 112 #[.string s] w (BytesE (groupsM s.data.toList).1 (groupsM s.data.toList).2 w) := by
  obtain ⟨_, hpl⟩ := splitAtU_len 58 s.data.toList
  obtain ⟨ps, hps⟩ : ∃ ps, splitAtU 58 s.data.toList = ps := ⟨_, rfl⟩
  obtain ⟨n, hn⟩ : ∃ n, ps.length = n := ⟨_, rfl⟩
  have hS := split_cells s 58 w hM (by omega) ps hps n hn
  have hAM : groupsM s.data.toList = if n = 8 then groupsR ps else ([], 2) := by unfold groupsM; rw [hps, hn]
  rw [hps, size_data] at hpl
  have HA := Lib.hid hAM; have HN := Lib.hid hn
  clear hAM hps hn
  by_cases h4 : n = 8
  · subst h4
    have HA2 : Hid (groupsM s.data.toList = groupsR ps) := Lib.hid (by rw [HA.out, if_pos rfl])
    clear HA
    go_enter Tryz.func112, Tryz.ntmps112
    go_wp2_with fail
    refine hS.mono ?_
    rintro e w1 ⟨a, cp, rfl, hcell, hb1⟩
    clear hS
    go_wp2_with fail
    go_loopw [5, 19] (fun u i wr => ∃ (k : Nat) (done : List UInt8), i = .int .i64 k ∧ k ≤ 8 ∧ done.length = 2 * k ∧ OwnG 5 bv wr w1.heap.size u done ∧ Below w1.heap.size w1 wr ∧ Hid (groupsR ps = join done (groupsR (ps.drop k)))) (fun _ i _ => 8 - (intOf i).toNat)
    case atStart => exact ⟨0, [], rfl, by omega, rfl, OwnG.nil _ _, Below.refl _ _, Lib.hid (groups_nil ps)⟩
    case round =>
      obtain ⟨k, done, rfl, hk, hdk, hown, hB1, HR⟩ := hrel
      have HD := Lib.hid hdk; clear hdk
      obtain ⟨au, cu, rfl⟩ := hown.shape
      generalize hdl : done.length = dl at *
      have HDL := Lib.hid hdl; clear hdl
      have hBz := hB1.size
      by_cases hlt : k < 8
      · have hkp : k < ps.length := by rw [HN.out]; exact hlt
        obtain ⟨g, off, rfl, hg, hc⟩ := hcell wr hB1 k hkp
        obtain ⟨x, hx0, hxz, hxv⟩ := str_of ps[k]
        rw [hxv] at hc
        have hdr : ps.drop k = ps[k] :: ps.drop (k + 1) := List.drop_eq_getElem_cons hkp
        have hok : ¬ (ps[k].length < 1 ∨ 4 < ps[k].length ∨ ps[k].all hexB = false) → groupsR ps = join (done ++ [UInt8.ofNat (groupV ps[k] / 256), UInt8.ofNat (groupV ps[k] % 256)]) (groupsR (ps.drop (k + 1))) := by
          intro hq
          rw [HR.out, hdr, groups_ok hq, join_join]
        have HOK := Lib.hid hok
        have hxs : x.size = ps[k].length := hxz
        have HX := Lib.hid (And.intro hx0 hxs)
        have HDR := Lib.hid hdr
        have herr : (ps[k].length < 1 ∨ 4 < ps[k].length ∨ ps[k].all hexB = false) → groupsM s.data.toList = ([], 2) := by
          intro hbd
          rw [HA2.out, HR.out, hdr, groups_bad hbd]; rfl
        have HERR := Lib.hid herr
        clear hx0 hxz hxv hdr herr hok
        by_cases hl1 : (x.size : Int) < 1
        · have H0 := Lib.hid (HERR.out (.inl (by omega)))
          clear hcell hxs
          go_wp2_with fail
          go_ret2
          exact bytesE_fin [] 2 H0.out rfl (OwnG.nil _ _) (hb1.trans (hB1.mono hb1.size))
        by_cases hl4 : 4 < (x.size : Int)
        · have H0 := Lib.hid (HERR.out (.inr (.inl (by omega))))
          clear hcell hxs
          go_wp2_with fail
          go_ret2
          exact bytesE_fin [] 2 H0.out rfl (OwnG.nil _ _) (hb1.trans (hB1.mono hb1.size))
        have hl4' : x.size ≤ 4 := by omega
        have hl1' : 1 ≤ x.size := by omega
        clear hxs
        go_wp2_with fail
        go_loop [8, 33] (fun gv i => ∃ (j gn : Nat), i = .int .i64 j ∧ gv = .int .i64 gn ∧ j ≤ x.size ∧ Hid ((x.data.toList.take j).all hexB = true ∧ groupV (x.data.toList.take j) = gn)) (fun _ i => x.size - (intOf i).toNat)
        case atStart => exact ⟨0, 0, rfl, rfl, Nat.zero_le _, Lib.hid ⟨rfl, rfl⟩⟩
        case round =>
          obtain ⟨j, gn, rfl, rfl, hj, HG⟩ := hrel
          by_cases hjt : j < x.size
          · have hD := fun W => rdata_digitOf x[j] W
            have hjl : j < x.data.toList.length := by rw [size_data]; exact hjt
            have hg0 : x[j] = x.data.toList[j] := rfl
            cases hh : hexB x[j] with
            | false =>
              have H2 := Lib.hid (HERR.out (.inr (.inr (by rw [← HX.out.1]; exact all_not hjl (by rw [← hg0]; exact hh)))))
              rw [hh] at hD
              clear hh hg0
              go_wp2_with (go_at_call 107; refine (hD _).mono ?_; rintro e w3 ⟨rfl, rfl⟩)
              go_ret2
              exact bytesE_fin [] 2 H2.out rfl (OwnG.nil _ _) (hb1.trans (hB1.mono hb1.size))
            | true =>
              have htk := List.take_succ_eq_append_getElem hjl
              have hgl : gn ≤ 4095 := by
                have h1 := groupV_lt (x.data.toList.take j)
                rw [HG.out.2] at h1
                have h2 : 16 ^ (x.data.toList.take j).length ≤ 16 ^ 3 := Nat.pow_le_pow_right (by decide) (by rw [List.length_take]; omega)
                have h3 : (16 : Nat) ^ 3 = 4096 := by decide
                omega
              have hv16 := hexV_lt x[j]
              have HG2 := Lib.hid (show (x.data.toList.take (j + 1)).all hexB = true ∧ groupV (x.data.toList.take (j + 1)) = 16 * gn + hexV x[j] by
                rw [htk, List.all_append, HG.out.1, groupV_snoc, HG.out.2, ← hg0]
                exact ⟨by simp [hh], rfl⟩)
              have hor := or_nibble gn (hexV x[j]) hv16 hgl
              rw [hh] at hD
              have hgi : (gn : Int) ≤ 4095 := by omega
              have hgi0 : (0 : Int) ≤ (gn : Int) := by omega
              clear hh hg0 htk HG hgl hv16
              generalize hexV x[j] = hv at *
              go_wp2_with (go_at_call 107; refine (hD _).mono ?_; rintro e w3 ⟨rfl, rfl⟩)
              go_round
              case rel => exact ⟨j + 1, 16 * gn + hv, by go_num, by go_num, by omega, HG2⟩
              case measure => simp [intOf]; omega
          · obtain rfl : j = x.size := by omega
            have hf : x.data.toList.take x.size = x.data.toList := List.take_of_length_le (by rw [size_data]; exact Nat.le_refl _)
            have hG := HG.out
            rw [hf, HX.out.1] at hG
            have hgle : gn ≤ 65535 := by rw [← hG.2]; exact groupV_le4 (by have := HX.out.2; omega)
            have HR2 := Lib.hid (show groupsR ps = join (done ++ [UInt8.ofNat (gn / 256), UInt8.ofNat (gn % 256)]) (groupsR (ps.drop (k + 1))) by
              have h := HOK.out (by rintro (h | h | h); (have := HX.out.2; omega); (have := HX.out.2; omega); (rw [hG.1] at h; cases h))
              rw [hG.2] at h; exact h)
            have HC := Lib.hid (show [Value.int .u8 ((gn : Int) / 256 % 256), Value.int .u8 ((gn : Int) % 256)] = [UInt8.ofNat (gn / 256), UInt8.ofNat (gn % 256)].map bv by
              have e1 : (UInt8.ofNat (gn / 256)).toNat = gn / 256 := by simp; omega
              have e2 : (UInt8.ofNat (gn % 256)).toNat = gn % 256 := by simp
              simp only [List.map_cons, List.map_nil, bv, e1, e2]
              congr 2
              congr 1
              omega)
            have hg0 : (0 : Int) ≤ (gn : Int) := by omega
            clear hf hG hgle HG HOK HERR
            go_wp2_with (at_builtin; refine wpl_append_g wr rfl (.tmp 50) (.tmp 56) elemU8 rfl bv_one1 w1.heap.size (.slice au dl cu) done rfl hown [.int .u8 ((gn : Int) / 256 % 256), .int .u8 ((gn : Int) % 256)] [UInt8.ofNat (gn / 256), UInt8.ofNat (gn % 256)] HC.out 2 2 rfl rfl hBz (by have := HD.out; have := HDL.out; unfold maxLen; simp; omega) (by have := HD.out; have := HDL.out; simp; omega) ?_; intro v3 w3 hown3 hg3; have hB3 : Below w1.heap.size w1 w3 := hB1.grown hg3 hBz hown.base_le)
            go_roundw
            case rel => exact ⟨k + 1, _, by go_num, by omega, by have := HD.out; have := HDL.out; simp; omega, hown3, hB3, HR2⟩
            case measure => simp [intOf]; omega
      · obtain rfl : k = 8 := by omega
        have H0 : Hid (groupsM s.data.toList = (done, 0)) := Lib.hid (by rw [HA2.out, HR.out, List.drop_of_length_le (by rw [HN.out]; exact Nat.le_refl _)]; unfold join groupsR; simp)
        clear HR hcell
        go_wp2
        go_ret2
        exact bytesE_fin done 0 H0.out rfl (hown.weaken hb1.size) (hb1.trans (hB1.mono hb1.size))
  · have H0 : Hid (groupsM s.data.toList = ([], 2)) := Lib.hid (by rw [HA.out, if_neg h4])
    have h5 : ((n : Int) != 8) = true := by simp; omega
    clear HA h4
    go_enter Tryz.func112, Tryz.ntmps112
    go_wp2_with (go_at_call 131; refine hS.mono ?_; rintro e w1 ⟨a, cp, rfl, hcell, hb1⟩)
    go_ret2
    exact bytesE_fin [] 2 H0.out rfl (OwnG.nil _ _) hb1
end Go.Proofs.YtkjmghnbcnbdbaaGreatDoor

