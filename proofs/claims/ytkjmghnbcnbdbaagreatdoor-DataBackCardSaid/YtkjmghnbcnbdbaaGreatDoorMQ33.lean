/-
  rdata.readAddress, rdata.readGroups.
-/
import Derived.Test.YtkjmghnbcnbdbaaGreatDoorMQ18
import Derived.Test.YtkjmghnbcnbdbaaGreatDoorMQ13
import Derived.Test.YtkjmghnbcnbdbaaGreatDoorMQ17
namespace Go.Proofs.YtkjmghnbcnbdbaaGreatDoor
open Go.RowKit Go.Shelf

def CellsS (a : Option Addr) (ps : Nm) (W : World) : Prop := ∀ W', Below W.heap.size W W' → ∀ j (hj : j < ps.length), ∃ b off, a = some ⟨b, off, none⟩ ∧ b < W.heap.size ∧ W'.cell? ⟨b, off + j, none⟩ = some (strV ps[j])
theorem splitAtU_len (c : UInt8) : ∀ (s : List UInt8), (splitAtU c s).length ≤ s.length + 1 ∧ ∀ x ∈ splitAtU c s, x.length ≤ s.length
  | [] => by simp [splitAtU]
  | b :: r => by
    obtain ⟨h1, h2⟩ := splitAtU_len c r
    by_cases h : b = c
    · have e : splitAtU c (b :: r) = [] :: splitAtU c r := by rw [splitAtU, if_pos h]
      rw [e]
      refine ⟨by simp; omega, fun x hx => ?_⟩
      rcases List.mem_cons.1 hx with rfl | hx
      · simp
      · have := h2 x hx; simp; omega
    · have e : splitAtU c (b :: r) = match splitAtU c r with | [] => [[b]] | x :: t => (b :: x) :: t := by rw [splitAtU, if_neg h]; cases splitAtU c r <;> rfl
      rw [e]
      cases hs : splitAtU c r with
      | nil => simp
      | cons x t =>
        rw [hs] at h1 h2
        refine ⟨by simp at h1 ⊢; omega, fun y hy => ?_⟩
        rcases List.mem_cons.1 hy with rfl | hy
        · have := h2 x (by simp); simp; omega
        · have := h2 y (by simp [hy]); simp; omega
theorem split_cells (s : ByteArray) (c : UInt8) (w : World) (hM : MaxC w) (hs : s.size < 4294967281) (ps : Nm) (hp : splitAtU c s.data.toList = ps) (n : Nat) (hn : ps.length = n) :
    Calls Tryz.prog 131 #[.string s, .string ⟨#[c]⟩] w fun e w' => ∃ a cp, e = .returned (.slice a n cp) ∧ CellsS a ps w' ∧ Below w.heap.size w w' := by
  refine (strings_Split1 s c w hM hs).mono ?_
  rintro e w' ⟨a, cp, rfl, hat, hb⟩
  subst hp hn
  exact ⟨a, cp, rfl, fun W hB j hj => hat.cell hB j hj, hb⟩

theorem addrs_err {p : List UInt8} {r : Nm} (h : (numM p 255).2 ≠ 0) : addrsM (p :: r) = ([], (numM p 255).2) := by rw [addrsM, if_pos h]
theorem addrs_ok {p : List UInt8} {r : Nm} (h : (numM p 255).2 = 0) : addrsM (p :: r) = join [UInt8.ofNat (numM p 255).1] (addrsM r) := by
  rw [addrsM, if_neg (by simpa using h)]; unfold join; rfl
theorem addrs_nil (l : Nm) : addrsM l = join [] (addrsM l) := by
  unfold join
  induction l with
  | nil => rfl
  | cons p r _ =>
    by_cases h : (numM p 255).2 = 0
    · rw [addrs_ok h]
      unfold join
      by_cases h2 : (addrsM r).2 = 0
      · simp [h2]
      · simp [h2]
    · rw [addrs_err h, if_neg h]

theorem numM_le (l : List UInt8) (most : Nat) : (numM l most).1 ≤ most := by
  unfold numM
  split
  · split
    · assumption
    · exact Nat.zero_le _
  · exact Nat.zero_le _
set_option maxHeartbeats 4000000 in
theorem rdata_readAddress (s : ByteArray) (w : World) (hM : MaxC w) (hs : s.size ≤ 1048576) :
    Calls Tryz.prog 111 #[.string s] w (BytesE (addressM s.data.toList).1 (addressM s.data.toList).2 w) := by
  obtain ⟨_, hpl⟩ := splitAtU_len 46 s.data.toList
  obtain ⟨ps, hps⟩ : ∃ ps, splitAtU 46 s.data.toList = ps := ⟨_, rfl⟩
  obtain ⟨n, hn⟩ : ∃ n, ps.length = n := ⟨_, rfl⟩
  have hS := split_cells s 46 w hM (by omega) ps hps n hn
  have hAM : addressM s.data.toList = if n = 4 then addrsM ps else ([], 2) := by unfold addressM; rw [hps, hn]
  rw [hps, size_data] at hpl
  have HA := Lib.hid hAM; have HN := Lib.hid hn
  clear hAM hps hn
  by_cases h4 : n = 4
  · subst h4
    have HA2 : Hid (addressM s.data.toList = addrsM ps) := Lib.hid (by rw [HA.out, if_pos rfl])
    clear HA
    go_enter Tryz.func111, Tryz.ntmps111
    go_wp2_with fail
    refine hS.mono ?_
    rintro e w1 ⟨a, cp, rfl, hcell, hb1⟩
    clear hS
    go_wp2_with fail
    go_loopw [5, 17] (fun u i wr => ∃ (k : Nat) (done : List UInt8), i = .int .i64 k ∧ k ≤ 4 ∧ done.length = k ∧ OwnG 5 bv wr w1.heap.size u done ∧ Below w1.heap.size w1 wr ∧ Hid (addrsM ps = join done (addrsM (ps.drop k)))) (fun _ i _ => 4 - (intOf i).toNat)
    case atStart => exact ⟨0, [], rfl, by omega, rfl, OwnG.nil _ _, Below.refl _ _, Lib.hid (addrs_nil ps)⟩
    case round =>
      obtain ⟨k, done, rfl, hk, hdk, hown, hB1, HR⟩ := hrel
      have HD := Lib.hid hdk; clear hdk
      obtain ⟨au, cu, rfl⟩ := hown.shape
      generalize hdl : done.length = dl at *
      have HDL := Lib.hid hdl; clear hdl
      have hBz := hB1.size
      by_cases hlt : k < 4
      · have hkp : k < ps.length := by rw [HN.out]; exact hlt
        obtain ⟨g, off, rfl, hg, hc⟩ := hcell wr hB1 k hkp
        obtain ⟨x, hx0, hxz, hxv⟩ := str_of ps[k]
        rw [hxv] at hc
        have hxk := hpl ps[k] (List.getElem_mem hkp)
        have hP := fun W => number_Parse x 255 W (by unfold maxLen; omega) (by omega)
        unfold NumPost at hP
        have hdr : ps.drop k = ps[k] :: ps.drop (k + 1) := List.drop_eq_getElem_cons hkp
        have hle := numM_le ps[k] 255
        have herr := addrs_err (p := ps[k]) (r := ps.drop (k + 1))
        have hok := addrs_ok (p := ps[k]) (r := ps.drop (k + 1))
        rw [← hdr, ← hx0] at herr hok
        rw [← hx0] at hle
        obtain ⟨⟨v, er⟩, hq⟩ : ∃ q, numM x.data.toList 255 = q := ⟨_, rfl⟩
        rw [hq] at hP herr hok hle
        simp only at hP herr hok hle
        clear hx0 hxz hxv hxk hq hdr
        by_cases her : (er != 0) = true
        · have H0 : Hid (addressM s.data.toList = ([], er)) := Lib.hid (by rw [HA2.out, HR.out, herr (by simpa using her)]; unfold join; rw [if_neg (by simpa using her)])
          clear herr hok hcell
          go_wp2_with (go_at_call 84; refine (hP _).mono ?_; rintro e w2 ⟨rfl, rfl⟩)
          go_ret2
          exact bytesE_fin [] er H0.out rfl (OwnG.nil _ _) (hb1.trans (hB1.mono hb1.size))
        · have her0 : er = 0 := by simpa using her
          subst her0
          have HR2 : Hid (addrsM ps = join (done ++ [UInt8.ofNat v]) (addrsM (ps.drop (k + 1)))) := Lib.hid (by rw [HR.out, hok rfl, join_join])
          have hcl : [Value.int .u8 (v : Int)] = [UInt8.ofNat v].map bv := by
            have : (UInt8.ofNat v).toNat = v := by simp; omega
            simp [bv, this]
          have HC := Lib.hid hcl
          have hvi : (v : Int) ≤ 255 := by omega
          clear herr hok hcl her HR
          go_wp2_with (first | (go_at_call 84; refine (hP _).mono ?_; rintro e w2 ⟨rfl, rfl⟩) | (at_builtin; refine wpl_append_g w2 rfl (.tmp 29) (.tmp 32) elemU8 rfl bv_one1 w1.heap.size (.slice au dl cu) done rfl hown [.int .u8 (v : Int)] [UInt8.ofNat v] HC.out 1 1 rfl rfl hBz (by have := HD.out; have := HDL.out; unfold maxLen; simp; omega) (by have := HD.out; have := HDL.out; simp; omega) ?_; intro v3 w3 hown3 hg3; have hB3 : Below w1.heap.size w1 w3 := hB1.grown hg3 hBz hown.base_le))
          go_roundw
          case rel => exact ⟨k + 1, done ++ [UInt8.ofNat v], by go_num, by omega, by have := HD.out; have := HDL.out; simp; omega, hown3, hB3, HR2⟩
          case measure => simp [intOf]; omega
      · obtain rfl : k = 4 := by omega
        have H0 : Hid (addressM s.data.toList = (done, 0)) := Lib.hid (by rw [HA2.out, HR.out, List.drop_of_length_le (by rw [HN.out]; exact Nat.le_refl _)]; unfold join addrsM; simp)
        clear HR hcell
        go_wp2
        go_ret2
        exact bytesE_fin done 0 H0.out rfl (hown.weaken hb1.size) (hb1.trans (hB1.mono hb1.size))
  · have H0 : Hid (addressM s.data.toList = ([], 2)) := Lib.hid (by rw [HA.out, if_neg h4])
    have h5 : ((n : Int) != 4) = true := by simp; omega
    clear HA h4
    go_enter Tryz.func111, Tryz.ntmps111
    go_wp2_with (go_at_call 131; refine hS.mono ?_; rintro e w1 ⟨a, cp, rfl, hcell, hb1⟩)
    go_ret2
    exact bytesE_fin [] 2 H0.out rfl (OwnG.nil _ _) hb1
end Go.Proofs.YtkjmghnbcnbdbaaGreatDoor

