/-
  rdata.readWords, rdata.Parse.
-/
import Derived.Test.YtkjmghnbcnbdbaaGreatDoorMQ01
import Derived.Test.YtkjmghnbcnbdbaaGreatDoorMQ04
import Derived.StillTailTactics
namespace Go.Proofs.YtkjmghnbcnbdbaaGreatDoor
open Go.RowKit Go.Shelf
set_option maxRecDepth 20000

theorem rdata_readWord (B base : Nat) (d : Dat) (k : UInt8) (s : ByteArray) (vo : Value) (o : Nm) (w : World) (hk : k = 110 ∨ k = 117 ∨ k = 112 ∨ k = 116 ∨ k = 52 ∨ k = 54) (hM : MaxC w) (hD : DBox w B base d) (hbase : base ≤ w.heap.size) (hBb : base ≤ B) (hO : NmAt w vo o) (hok : NmOK o) (ho : o.length ≤ 500000) (hs : s.size ≤ 500000)
    (hl1 : d.names.length ≤ 1048576) (hl2 : d.nums.length ≤ 1048576) (hl3 : d.texts.length ≤ 1048576) (hno : k = 116 → d.names = []) :
    Calls Tryz.prog 87 #[.pointer (some ⟨B, 0, none⟩), .int .u8 (k.toNat : Int), .string s, vo] w (WordPost B base (addD d k s.data.toList o) (errD k s.data.toList o) w) := by
  rcases hk with rfl | rfl | rfl | rfl | rfl | rfl
  · exact readWord_name B base d s vo o w hD hbase hBb hO hok ho hs hl1
  · exact readWord_num B base d s vo o w hD hbase hBb hs hl2
  · exact readWord_pref B base d s vo o w hD hbase hBb hs hl2
  · exact readWord_text B base d s vo o w hD hbase hBb hs hl3 (hno rfl)
  · exact readWord_address B base d s vo o w hM hD hbase hBb hs
  · exact readWord_groups B base d s vo o w hM hD hbase hBb hs

theorem formD_shape (t : Int) (n : Nat) : formD t n = [52] ∨ formD t n = [54] ∨ formD t n = [110] ∨ formD t n = [112, 110] ∨ formD t n = [110, 110, 117, 117, 117, 117, 117] ∨ formD t n = List.replicate n 116 ∨ formD t n = [] := by
  unfold formD
  split
  · exact .inl rfl
  split
  · exact .inr (.inl rfl)
  split
  · exact .inr (.inr (.inl rfl))
  split
  · exact .inr (.inr (.inr (.inl rfl)))
  split
  · exact .inr (.inr (.inr (.inr (.inl rfl))))
  split
  · exact .inr (.inr (.inr (.inr (.inr (.inl rfl)))))
  · exact .inr (.inr (.inr (.inr (.inr (.inr rfl)))))
theorem formD_kinds {t : Int} {n : Nat} {k : UInt8} (h : k ∈ formD t n) : k = 110 ∨ k = 117 ∨ k = 112 ∨ k = 116 ∨ k = 52 ∨ k = 54 := by
  rcases formD_shape t n with e | e | e | e | e | e | e
  all_goals rw [e] at h
  · simp at h; simp [h]
  · simp at h; simp [h]
  · simp at h; simp [h]
  · simp at h; rcases h with h | h <;> simp [h]
  · simp at h; rcases h with h | h <;> simp [h]
  · have := (List.mem_replicate.1 h).2; simp [this]
  · simp at h
theorem formD_text {t : Int} {n : Nat} (h : (116 : UInt8) ∈ formD t n) : ∀ k ∈ formD t n, k = 116 := by
  rcases formD_shape t n with e | e | e | e | e | e | e
  all_goals rw [e] at h ⊢
  all_goals first
    | (simp at h; done)
    | (intro k hk; exact (List.mem_replicate.1 hk).2)

theorem region_tail {P : Program} {id : Nat} {Q : Exit → Act → World → Prop} {a : Act} {w : World} {l : List Oper} (n : Nat) (hm : P.follows .mixedOrders = true) (hB : Region.lexTailB .any l.toArray n = true)
    (h : wpStill P l.toArray w.drew (fun a' => wpList P l.toArray Q (l.drop n) a' w.drew) (l.take n) a) : (Code.region id l.toArray true).wp P Q a w := wp_region_still_tail n hm hB h
/-- What is known of data on the way. -/
structure WdInv (d dk : Dat) (ks : List UInt8) (k : Nat) : Prop where
  ty : dk.ty = d.ty
  names : dk.names.length ≤ d.names.length + k
  nums : dk.nums.length ≤ d.nums.length + k
  texts : dk.texts.length ≤ d.texts.length + k
  none : (116 : UInt8) ∈ ks → dk.names = []
theorem addD_inv {d dk : Dat} {ks : List UInt8} {k : Nat} {c : UInt8} (hall : (116 : UInt8) ∈ ks → c = 116) (h : WdInv d dk ks k) (s : List UInt8) (o : Nm) : WdInv d (addD dk c s o) ks (k + 1) := by
  obtain ⟨h1, h2, h3, h4, h5⟩ := h
  by_cases c1 : c = 110
  · subst c1
    rw [add_110]
    refine ⟨h1, by simp; omega, by simp; omega, by simp; omega, fun hm => ?_⟩
    exact absurd (hall hm) (by decide)
  by_cases c2 : c = 117
  · subst c2; rw [add_117]; exact ⟨h1, by simp; omega, by simp; omega, by simp; omega, h5⟩
  by_cases c3 : c = 112
  · subst c3; rw [add_112]; exact ⟨h1, by simp; omega, by simp; omega, by simp; omega, h5⟩
  by_cases c4 : c = 116
  · subst c4; rw [add_116]; exact ⟨h1, by simp; omega, by simp; omega, by simp; omega, h5⟩
  by_cases c5 : c = 52
  · subst c5; rw [add_52]; exact ⟨h1, by simp; omega, by simp; omega, by simp; omega, h5⟩
  by_cases c6 : c = 54
  · subst c6; rw [add_54]; exact ⟨h1, by simp; omega, by simp; omega, by simp; omega, h5⟩
  have e : addD dk c s o = dk := by unfold addD; rw [if_neg c1, if_neg c2, if_neg c3, if_neg c4, if_neg c5, if_neg c6]
  rw [e]; exact ⟨h1, by omega, by omega, by omega, h5⟩
/-- What readWords answers. -/
def wordsE (d : Dat) (o : Nm) (ks : List UInt8) (l : List Wd) : Dat × Int := if ks = [] ∨ ks.length ≠ l.length then (d, 2) else wordsD d o ks l
def WordsPost (B base : Nat) (q : Dat × Int) (w : World) (e : Ending) (w' : World) : Prop := e = .returned (.int .i64 q.2) ∧ (q.2 = 0 → DBox w' B base q.1) ∧ Below base w w' ∧ KeepW B w w'
theorem words_fin {B base : Nat} {q : Dat × Int} {w w' : World} {e : Ending} (d : Dat) (er : Int) (h : q = (d, er)) (he : e = .returned (.int .i64 er)) (hd : er = 0 → DBox w' B base d) (hb : Below base w w') (hkw : KeepW B w w') : WordsPost B base q w e w' := by
  subst h; exact ⟨he, hd, hb, hkw⟩
theorem words_quoted {d : Dat} {o : Nm} {k : UInt8} {ks : List UInt8} {s : List UInt8} {l : List Wd} (h : k ≠ 116) : wordsD d o (k :: ks) ((s, true) :: l) = (d, 2) := by
  rw [wordsD, if_pos ⟨rfl, h⟩]
theorem words_step {d : Dat} {o : Nm} {k : UInt8} {ks : List UInt8} {x : Wd} {l : List Wd} (h : ¬ (x.2 = true ∧ k ≠ 116)) : wordsD d o (k :: ks) (x :: l) = if errD k x.1 o ≠ 0 then (d, errD k x.1 o) else wordsD (addD d k x.1 o) o ks l := by
  obtain ⟨s, q⟩ := x
  rw [wordsD, if_neg h]
theorem words_end {d : Dat} {o : Nm} {l : List Wd} : wordsD d o [] l = (d, 0) := by rw [wordsD]; simp
set_option maxRecDepth 100000 in
set_option maxHeartbeats 8000000 in
theorem rdata_readWords (w0 w : World) (B : Nat) (d : Dat) (vl : Value) (l : List Wd) (vo : Value) (o : Nm) (hb0 : Below w0.heap.size w0 w) (hD : DBox w B w0.heap.size d) (hBb : w0.heap.size ≤ B) (hA : WdsAt w0 vl l) (hk : WdsOK l) (hO : NmAt w0 vo o) (hok : NmOK o) (ho : o.length ≤ 500000) (hM : MaxC w0)
    (hn1 : d.names = []) (hn2 : d.nums = []) (hn3 : d.texts = []) (hl : l.length ≤ 500000) :
    Calls Tryz.prog 54 #[.pointer (some ⟨B, 0, none⟩), vl, vo] w (WordsPost B w0.heap.size (wordsE d o (formD d.ty l.length) l) w) := by
  have hF := fun W => rdata_form d.ty l.length W (by omega)
  obtain ⟨ks, hks⟩ : ∃ ks, formD d.ty l.length = ks := ⟨_, rfl⟩
  have hkin := fun k (h : k ∈ ks) => formD_kinds (t := d.ty) (n := l.length) (k := k) (by rw [hks]; exact h)
  have hktx : (116 : UInt8) ∈ ks → ∀ k ∈ ks, k = 116 := fun h k hk2 => formD_text (t := d.ty) (n := l.length) (by rw [hks]; exact h) k (by rw [hks]; exact hk2)
  rw [hks] at hF ⊢
  obtain ⟨K, hK0, hKz, _⟩ := str_of ks
  rw [str_name hK0] at hF
  obtain ⟨vn, vu, vt, vr, hbx, hrow⟩ := id hD
  have hc0 := cell_of_block hbx 0 _ rfl
  obtain ⟨a, c, rfl, hcap, _, _⟩ := id hA
  have hcell := fun W (hb : Below w0.heap.size w0 W) j hj => hA.cell hb j hj
  obtain ⟨n, hn⟩ : ∃ n, l.length = n := ⟨_, rfl⟩
  have HBX := Lib.hid (block_lt hbx)
  have HD := Lib.hid hD
  have HW : Hid (wordsE d o ks l = if ks = [] ∨ ks.length ≠ n then (d, 2) else wordsD d o ks l) := Lib.hid (by unfold wordsE; rw [hn])
  have HN := Lib.hid hn
  rw [hn] at hF hl ⊢
  have HKS := Lib.hid (And.intro hK0 hKz)
  have hbz := hb0.size
  by_cases he : ks = []
  · have H0 : Hid (wordsE d o ks l = (d, 2)) := Lib.hid (by rw [HW.out, if_pos (.inl he)])
    have e1 : (K.toList == []) = true := by rw [toList_data, hK0, he]; rfl
    clear hks hK0 hKz hn hkin hktx hcell he hbx hrow hD
    go_enter Tryz.func54, Tryz.ntmps54
    go_wp2_with (go_at_call 86; refine (hF _).mono ?_; rintro e w2 ⟨rfl, hb2⟩)
    go_ret
    exact words_fin d 2 H0.out rfl (fun h => by cases h) (hb2.mono hbz) (KeepW.below hb2)
  have e1 : (K.toList == []) = false := by rw [toList_data, hK0]; simpa using he
  by_cases hln : ks.length = n
  · have hKn : K.size = n := by rw [hKz, hln]
    have HW2 : Hid (wordsE d o ks l = wordsD d o ks l) := Lib.hid (by rw [HW.out, if_neg (by rintro (h | h); exact he h; exact h hln)])
    have hlk := Lib.hid hln
    have e2 : ((K.size : Int) != (n : Int)) = false := by simp; omega
    have HKin := Lib.hid hkin; have HKtx := Lib.hid hktx
    have HKn := Lib.hid hKn
    have HCE := Lib.hid hcell
    have HA2 := Lib.hid (And.intro hO (And.intro hok hM))
    clear hks hK0 hKz hn hkin hktx hcell he hbx hrow hD hln HW hKn hO hok hM
    go_enter Tryz.func54, Tryz.ntmps54
    go_wp2_with (go_at_call 86; refine (hF _).mono ?_; rintro e w2 ⟨rfl, hb2⟩)
    go_loopw [29] (fun i wr => ∃ (k : Nat) (dk : Dat), i = .int .i64 k ∧ k ≤ n ∧ Hid (DBox wr B w0.heap.size dk) ∧ Below w0.heap.size w wr ∧ Hid (wordsD d o ks l = wordsD dk o (ks.drop k) (l.drop k)) ∧ Hid (WdInv d dk ks k) ∧ Hid (KeepW B w wr)) (fun i _ => n - (intOf i).toNat)
    case atStart => exact ⟨0, d, rfl, Nat.zero_le _, Lib.hid (HD.out.below hb2), hb2.mono hbz, Lib.hid rfl, Lib.hid ⟨rfl, by omega, by omega, by omega, fun _ => hn1⟩, Lib.hid (KeepW.below hb2)⟩
    case round =>
      obtain ⟨k, dk, rfl, hkn, HDk, hB, HJ, HI, HKW⟩ := hrel
      have hB0 := hb0.trans hB
      have hB0z := hB0.size
      by_cases hlt : k < n
      · have hkl : k < l.length := by rw [HN.out]; exact hlt
        have hkk : k < ks.length := by rw [hlk.out]; exact hlt
        have hkK : k < K.size := by rw [HKn.out]; exact hlt
        obtain ⟨g, off, rfl, hg, hc1, hc2⟩ := HCE.out wr hB0 k hkl
        obtain ⟨x, hx0, hxz, hxv⟩ := str_of l[k].1
        rw [hxv] at hc1
        have hxs := hk.2 _ (List.getElem_mem hkl)
        have hKk : K[k] = ks[k] := by
          have : K[k] = K.data.toList[k]'(by rw [size_data]; exact hkK) := rfl
          rw [this]
          have := HKS.out.1
          simp only [this]
        have hdk1 : ks.drop k = K[k] :: ks.drop (k + 1) := by rw [hKk]; exact List.drop_eq_getElem_cons hkk
        have hdk2 : l.drop k = l[k] :: l.drop (k + 1) := List.drop_eq_getElem_cons hkl
        have hj := HJ.out
        rw [hdk1, hdk2] at hj
        have hkind := HKin.out K[k] (by rw [hKk]; exact List.getElem_mem hkk)
        have htx : (116 : UInt8) ∈ ks → K[k] = 116 := fun h => HKtx.out h K[k] (by rw [hKk]; exact List.getElem_mem hkk)
        have hmem : K[k] = 116 → (116 : UInt8) ∈ ks := fun h => by rw [← h, hKk]; exact List.getElem_mem hkk
        have hcc : (K[k].toNat : Int) ≤ 255 := by have := K[k].toNat_lt; omega
        obtain ⟨q, hq⟩ : ∃ q, l[k].2 = q := ⟨_, rfl⟩
        rw [hq] at hc2
        have hlk2 : l[k] = (x.data.toList, q) := by rw [hx0, ← hq]
        rw [hlk2] at hj
        have HJ2 := Lib.hid hj
        clear hKk hdk1 hdk2 hj hlk2 hq hxv hx0
        by_cases hbad : q = true ∧ ((K[k].toNat : Int) != 116) = true
        · obtain ⟨rfl, hne⟩ := hbad
          have H0 := Lib.hid (show wordsE d o ks l = (dk, 2) by rw [HW2.out, HJ2.out]; exact words_quoted (fun e => by rw [e] at hne; revert hne; decide))
          clear hkind htx hmem
          go_wp2_with fail
          go_ret
          exact words_fin dk 2 H0.out rfl (fun h => by cases h) (hB.alloc (by omega) _) (HKW.out.trans (KeepW.below ((Below.refl _ wr).alloc (Nat.le_refl _) _)))
        · have hbad2 : q = false ∨ (q = true ∧ ((K[k].toNat : Int) != 116) = false) := by
            cases q with
            | false => exact .inl rfl
            | true => right; refine ⟨rfl, ?_⟩; simpa using hbad
          have hstep : wordsE d o ks l = if errD K[k] x.data.toList o ≠ 0 then (dk, errD K[k] x.data.toList o) else wordsD (addD dk K[k] x.data.toList o) o (ks.drop (k + 1)) (l.drop (k + 1)) := by
            rw [HW2.out, HJ2.out]
            refine words_step ?_
            rintro ⟨h1, h2⟩
            rcases hbad2 with h | ⟨_, h⟩
            · rw [h] at h1; cases h1
            · exact h2 (u8_is (n := 116) (by omega) (by simpa using h))
          have HST := Lib.hid hstep
          have hinv := addD_inv (c := K[k]) htx HI.out x.data.toList o
          have HI2 := Lib.hid hinv
          have hi := HI.out
          have hz1 := hi.names; have hz2 := hi.nums; have hz3 := hi.texts
          rw [hn1] at hz1; rw [hn2] at hz2; rw [hn3] at hz3
          simp only [List.length_nil, Nat.zero_add] at hz1 hz2 hz3
          have hRW : ∀ W, Below wr.heap.size wr W → Calls Tryz.prog 87 #[.pointer (some ⟨B, 0, none⟩), .int .u8 (K[k].toNat : Int), .string x, vo] W (WordPost B w0.heap.size (addD dk K[k] x.data.toList o) (errD K[k] x.data.toList o) W) := fun W hW => by
            have hWB := hB0.trans (hW.mono hB0z)
            exact rdata_readWord B w0.heap.size dk K[k] x vo o W hkind (HA2.out.2.2.below hWB) (HDk.out.below hW) hWB.size hBb (HA2.out.1.below hWB) HA2.out.2.1 ho (by omega) (by omega) (by omega) (by omega) (fun h => hi.none (hmem h))
          have HRW := Lib.hid hRW
          have hbd : ∀ W, Below wr.heap.size wr W → Below wr.heap.size wr W.drew := fun W h => below_drew1 h
          obtain ⟨er, her⟩ : ∃ er, errD K[k] x.data.toList o = er := ⟨_, rfl⟩
          clear hkind htx hmem hstep hinv hi hz1 hz2 hz3 hRW hbad
          rcases hbad2 with rfl | ⟨rfl, hne⟩
          · go_wp2_with fail
            have hcx := new_at wr [.string x, .bool false] 52 0 _ rfl
            have hb1 : Below wr.heap.size wr (wr.alloc (.cells #[.string x, .bool false] 52)) := (Below.refl _ wr).alloc (Nat.le_refl _) _
            refine region_tail 7 (by kernel_rfl) (by kernel_rfl) ?_
            replace hb1 := below_drew1 hb1
            replace hcx : (World.drew (wr.alloc (.cells #[.string x, .bool false] 52))).cell? ⟨wr.heap.size, 0, none⟩ = some (.string x) := hcx
            clear hc1 hc2
            simp only [List.take_succ_cons, List.take_zero, List.drop_succ_cons, List.drop_zero]
            generalize (wr.alloc (.cells #[.string x, .bool false] 52)).drew = Wd at *
            repeat still_step
            refine wpStill_nil ?_
            have hRd := HRW.out Wd hb1
            rw [her] at hRd
            have HER := Lib.hid her
            have HB1 := Lib.hid hb1
            clear her hb1 hcx
            go_wp2_with fail
            refine hRd.mono ?_
            rintro e w2 ⟨rfl, hd2, hb2, hkw2⟩
            have hB2 := hB.trans (((HB1.out).mono hB0z).trans hb2)
            have HK2 := Lib.hid ((HKW.out.trans (KeepW.below HB1.out)).trans hkw2)
            by_cases he0 : (er != 0) = true
            · have H0 := Lib.hid (show wordsE d o ks l = (dk, er) by rw [HST.out, HER.out, if_pos (by simpa using he0)])
              clear hRd
              go_wp2_with fail
              go_ret
              exact words_fin dk er H0.out rfl (fun h => by rw [h] at he0; simp at he0) hB2 HK2.out
            · have he1 : er = 0 := by simpa using he0
              subst he1
              have H0 := Lib.hid (show wordsD d o ks l = wordsD (addD dk K[k] x.data.toList o) o (ks.drop (k + 1)) (l.drop (k + 1)) by rw [← HW2.out, HST.out, HER.out, if_neg (by simp)])
              have HD2 := Lib.hid hd2
              clear hRd he0
              go_wp2_with fail
              go_roundw
              case rel => exact ⟨k + 1, addD dk K[k] x.data.toList o, by go_num, by omega, HD2, hB2, H0, HI2, HK2⟩
              case measure => simp [intOf]; omega
          · go_wp2_with fail
            have hcx := new_at wr [.string x, .bool true] 52 0 _ rfl
            have hb1 : Below wr.heap.size wr (wr.alloc (.cells #[.string x, .bool true] 52)) := (Below.refl _ wr).alloc (Nat.le_refl _) _
            refine region_tail 7 (by kernel_rfl) (by kernel_rfl) ?_
            replace hb1 := below_drew1 hb1
            replace hcx : (World.drew (wr.alloc (.cells #[.string x, .bool true] 52))).cell? ⟨wr.heap.size, 0, none⟩ = some (.string x) := hcx
            clear hc1 hc2
            simp only [List.take_succ_cons, List.take_zero, List.drop_succ_cons, List.drop_zero]
            generalize (wr.alloc (.cells #[.string x, .bool true] 52)).drew = Wd at *
            repeat still_step
            refine wpStill_nil ?_
            have hRd := HRW.out Wd hb1
            rw [her] at hRd
            have HER := Lib.hid her
            have HB1 := Lib.hid hb1
            clear her hb1 hcx
            go_wp2_with fail
            refine hRd.mono ?_
            rintro e w2 ⟨rfl, hd2, hb2, hkw2⟩
            have hB2 := hB.trans (((HB1.out).mono hB0z).trans hb2)
            have HK2 := Lib.hid ((HKW.out.trans (KeepW.below HB1.out)).trans hkw2)
            by_cases he0 : (er != 0) = true
            · have H0 := Lib.hid (show wordsE d o ks l = (dk, er) by rw [HST.out, HER.out, if_pos (by simpa using he0)])
              clear hRd
              go_wp2_with fail
              go_ret
              exact words_fin dk er H0.out rfl (fun h => by rw [h] at he0; simp at he0) hB2 HK2.out
            · have he1 : er = 0 := by simpa using he0
              subst he1
              have H0 := Lib.hid (show wordsD d o ks l = wordsD (addD dk K[k] x.data.toList o) o (ks.drop (k + 1)) (l.drop (k + 1)) by rw [← HW2.out, HST.out, HER.out, if_neg (by simp)])
              have HD2 := Lib.hid hd2
              clear hRd he0
              go_wp2_with fail
              go_roundw
              case rel => exact ⟨k + 1, addD dk K[k] x.data.toList o, by go_num, by omega, HD2, hB2, H0, HI2, HK2⟩
              case measure => simp [intOf]; omega
      · obtain rfl : k = n := by omega
        have H0 := Lib.hid (show wordsE d o ks l = (dk, 0) by rw [HW2.out, HJ.out, List.drop_of_length_le (by rw [hlk.out]; exact Nat.le_refl _), words_end])
        clear HJ
        go_wp2_with fail
        go_ret
        exact words_fin dk 0 H0.out rfl (fun _ => HDk.out) hB HKW.out
  · have H0 : Hid (wordsE d o ks l = (d, 2)) := Lib.hid (by rw [HW.out, if_pos (.inr hln)])
    have e2 : ((K.size : Int) != (n : Int)) = true := by simp; omega
    clear hks hK0 hKz hn hkin hktx hcell he hbx hrow hD hln
    go_enter Tryz.func54, Tryz.ntmps54
    go_wp2_with (go_at_call 86; refine (hF _).mono ?_; rintro e w2 ⟨rfl, hb2⟩)
    go_ret
    exact words_fin d 2 H0.out rfl (fun h => by cases h) (hb2.mono hbz) (KeepW.below hb2)
end Go.Proofs.YtkjmghnbcnbdbaaGreatDoor

