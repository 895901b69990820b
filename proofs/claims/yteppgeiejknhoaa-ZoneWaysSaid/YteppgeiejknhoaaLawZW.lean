/-
  law12.ZoneWays: true for any origin, records, name.
-/
import Derived.Test.YteppgeiejknhoaaMQ24
namespace Go.Proofs.Yteppgeiejknhoaa
open Go.RowKit Go.Shelf
set_option maxRecDepth 20000
set_option linter.unusedVariables false
set_option linter.unusedSimpArgs false
theorem ancN_ok {n : Nm} (h : NmOK n) (s : Nat) : NmOK (ancN n s) := ⟨by unfold ancN; rw [List.length_drop]; have := h.1; omega, fun x hx => h.2 x (List.mem_of_mem_drop hx)⟩
theorem drop_anc {n : Nm} {k : Nat} (h : k ≤ n.length) : n.drop k = ancN n (n.length - k) := by unfold ancN; congr 1; omega
theorem goodN_few {n : Nm} (h : goodN n = true) : fewN n = true := by
  unfold goodN at h; simp only [Bool.and_eq_true] at h; exact h.1
theorem fewN_len {n : Nm} (h : fewN n = true) : n.length ≤ 140 := by
  unfold fewN at h; simp only [decide_eq_true_eq] at h; exact h.1
/-- What a slice n[k:] is, in its three forms. -/
theorem nm_suffix {W : World} {a : Option Addr} {q c : Nat} {n : Nm} (h : NmAt W (.slice a q c) n) {k : Nat} (hk : k ≤ q) :
    (c = k ∧ NmAt W (.slice a (q - k) (c - k)) (n.drop k)) ∨ (¬ c = k ∧ q = 0 ∧ k = 0 ∧ (∃ ad, a = some ad) ∧ NmAt W (.slice a (q - k) (c - k)) (n.drop k)) ∨ (¬ c = k ∧ 0 < q ∧ ∃ g off, a = some ⟨g, off, none⟩ ∧ NmAt W (.slice (some ⟨g, off + k, none⟩) (q - k) (c - k)) (n.drop k)) := by
  have hq := nm_len h
  have hc := nm_cap h
  have h0 := h.1
  have h1 := h.2
  obtain ⟨a1, n1, c1, e1, hc1, hn1⟩ := h1
  injection e1 with ea en ec
  subst ea en ec
  by_cases e : c = k
  · left
    have hqk : q = k := by omega
    have hd : n.drop k = [] := List.drop_eq_nil_of_le (by omega)
    refine ⟨e, ⟨⟨a, c - k, by rw [hd]; congr 1; simp; omega, .inl hd⟩, ⟨a, _, _, rfl, by omega, fun ha => by have := hn1 ha; omega⟩⟩⟩
  · right
    by_cases hz : q = 0
    · left
      have hk0 : k = 0 := by omega
      have hn0 : n = [] := List.eq_nil_of_length_eq_zero (by omega)
      refine ⟨e, hz, hk0, ?_, ?_⟩
      · cases a with
        | none => exact absurd (hn1 rfl) (by omega)
        | some ad => exact ⟨ad, rfl⟩
      · rw [hk0, hn0]; rw [hn0] at h; exact h
    · right
      refine ⟨e, by omega, ?_⟩
      obtain ⟨a2, c2, e2, hx⟩ := h0
      injection e2 with e3 e4 e5
      rcases hx with hx | ⟨g, off, hx, _⟩
      · rw [hx] at hq; simp at hq; omega
      · subst e3
        subst hx
        refine ⟨g, off, rfl, ?_⟩
        have h9 := h.1
        subst hq
        have hd := strs_drop h9 hc k hk (c - k)
        rw [if_neg e] at hd
        exact ⟨hd, ⟨_, _, _, rfl, by omega, fun e => by cases e⟩⟩
set_option maxRecDepth 100000 in
set_option maxHeartbeats 16000000 in
theorem law12_ZoneWays {w : World} (vo vl vn : Value) (o : Nm) (l : List Rc) (n : Nm) (hO : NmArg w vo o) (hL : RowArg w vl l) (hN : NmArg w vn n) :
    Calls Try.prog 3 #[vo, vl, vn] w fun e w' => e = .returned (.bool true) ∧ Below w.heap.size w w' := by
  have hkn := law12_known w
  have HG1 := Lib.hid (fun (W : World) (hb : Below w.heap.size w W) => law12_Good vo vl o l w W hO hL hb)
  have HG2 := Lib.hid (fun (W : World) (hb : Below w.heap.size w W) => kn_Good vn n _ rfl w W hN (hN.1.below hb))
  have HNO := Lib.hid hO.1
  have HNN := Lib.hid hN.1
  have HLR := Lib.hid hL.row
  have HLOK := Lib.hid hL.ok
  obtain ⟨ao, co, rfl, -⟩ := nmAt_sl.1 hO.1
  obtain ⟨qo, hqo⟩ : ∃ q, (List.map strV o).length = q := ⟨_, rfl⟩
  obtain ⟨an, cn, rfl, -⟩ := nmAt_sl.1 hN.1
  obtain ⟨qn, hqn⟩ : ∃ q, (List.map strV n).length = q := ⟨_, rfl⟩
  have HQO := Lib.hid (show o.length = qo by rw [← hqo, List.length_map])
  have HQN := Lib.hid (show n.length = qn by rw [← hqn, List.length_map])
  obtain ⟨al, ml, cl, rfl⟩ : ∃ a m c, vl = .slice a m c := by
    obtain ⟨css, ⟨a, c, e, _⟩, _⟩ := hL
    exact ⟨a, _, c, e⟩
  rw [hqo] at HG1 HNO ⊢
  rw [hqn] at HG2 HNN ⊢
  clear hO hL hN hqo hqn
  go_enter Try.func3, Try.ntmps3
  go_wp2_with fail
  refine hkn.mono ?_
  rintro e w1 ⟨rfl, hb1⟩
  have HB1 := Lib.hid hb1
  have hc := HG1.out w1 hb1
  clear hkn hb1 HG1
  go_wp2_with fail
  refine hc.mono ?_
  rintro e w2 ⟨rfl, hb2⟩
  have HB2 := Lib.hid (HB1.out.trans (hb2.mono HB1.out.size))
  clear hb2 hc HB1
  obtain ⟨g1, hg1⟩ : ∃ g, (goodN o && goodRs l) = g := ⟨_, rfl⟩
  have HGG1 := Lib.hid hg1
  rw [hg1]
  clear hg1
  cases g1
  · go_wp2
    go_ret
    exact ⟨rfl, HB2.out⟩
  have hc := HG2.out w2 HB2.out
  clear HG2
  go_wp2_with fail
  refine hc.mono ?_
  rintro e w3 ⟨rfl, hb3⟩
  have HB3 := Lib.hid (HB2.out.trans (hb3.mono HB2.out.size))
  clear hb3 hc HB2
  obtain ⟨g2, hg2⟩ : ∃ g, goodN n = g := ⟨_, rfl⟩
  have HGG2 := Lib.hid hg2
  rw [hg2]
  clear hg2
  cases g2
  · go_wp2
    go_ret
    exact ⟨rfl, HB3.out⟩
  have hg := HGG1.out
  simp only [Bool.and_eq_true] at hg
  have hko : NmOK o := fewN_ok (goodN_few hg.1)
  have hkn : NmOK n := fewN_ok (goodN_few HGG2.out)
  have hqo140 : qo ≤ 140 := by have := fewN_len (goodN_few hg.1); have := HQO.out; omega
  have hqn140 : qn ≤ 140 := by have := fewN_len (goodN_few HGG2.out); have := HQN.out; omega
  have hfr : fewRs l = true := by
    have := hg.2
    unfold goodRs at this; simp only [Bool.and_eq_true] at this; exact this.1
  obtain ⟨hl60, hokl⟩ := HLOK.out hfr
  have HKO := Lib.hid hko; have HKN := Lib.hid hkn; have HOKL := Lib.hid hokl; have HL60 := Lib.hid hl60
  have hc := kn_NUnder (.slice an qn cn) (.slice ao qo co) n o _ rfl w3 (HNN.out.below HB3.out) (HNO.out.below HB3.out) hkn hko
  clear hg hko hkn hfr hl60 hokl HLOK HGG1 HGG2
  go_wp2_with fail
  refine hc.mono ?_
  rintro e w4 ⟨rfl, hb4⟩
  have HB4 := Lib.hid (HB3.out.trans (hb4.mono HB3.out.size))
  clear hb4 hc HB3
  obtain ⟨u, hu⟩ : ∃ g, underN n o = g := ⟨_, rfl⟩
  have HU := Lib.hid hu
  rw [hu]
  clear hu
  cases u
  · go_wp2
    go_ret
    exact ⟨rfl, HB4.out⟩
  have hc := zone_New (.slice ao qo co) (.slice al ml cl) o l (HNO.out.below HB4.out) HKO.out (HLR.out.below HB4.out) HOKL.out (by have := HL60.out; omega)
  obtain ⟨C, hC⟩ : ∃ C, canonM l = C := ⟨_, rfl⟩
  rw [hC] at hc
  clear hC HOKL HL60 HLR
  go_wp2_with fail
  refine hc.mono ?_
  rintro e w5 ⟨za, zn, zc, v1, m, c, rfl, hZ, hb5⟩
  have hA5 := (Below.refl w5.heap.size w5).alloc (Nat.le_refl _) (.cells #[.slice za zn zc, .slice v1 m c] 30)
  obtain ⟨zb, hzb⟩ : ∃ zb, w5.heap.size = zb := ⟨_, rfl⟩
  obtain ⟨w6, hw6⟩ : ∃ w6, w5.alloc (.cells #[.slice za zn zc, .slice v1 m c] 30) = w6 := ⟨_, rfl⟩
  have hX := knew w5 (.cells #[.slice za zn zc, .slice v1 m c] 30)
  rw [hw6] at hA5 hX
  rw [hzb] at hX
  have hb56 := hb5.trans (hA5.mono hb5.size)
  have HB6 := Lib.hid (HB4.out.trans (hb56.mono HB4.out.size))
  have HZ := Lib.hid (fun W (hb : Below w6.heap.size w6 W) => ((hZ.below hA5).below hb : ZonS W za zn zc v1 m c o C))
  have HY := Lib.hid (fun W (hb : Below w6.heap.size w6 W) => And.intro (kcell ((hb.block _ (kblock_lt hX)).trans hX) 0 _ rfl) (kcell ((hb.block _ (kblock_lt hX)).trans hX) 1 _ rfl))
  have HNW := Lib.hid (fun W (hb : Below w6.heap.size w6 W) => HNN.out.below (HB6.out.trans (hb.mono HB6.out.size)))
  have hcc := zs_cut (HZ.out w6 (Below.refl _ _)) (HNW.out w6 (Below.refl _ _)) HKN.out
  obtain ⟨y0, y1⟩ := HY.out w6 (Below.refl _ _)
  clear hc hZ hb5 hA5 hX hb56 HB4 HNO HKO
  go_wp2_with fail
  clear hw6 hzb
  refine hcc.mono ?_
  rintro e w7 ⟨a7, k7, c7, rfl, h7, hb7⟩
  have HB7 := Lib.hid hb7
  have HN7 := Lib.hid h7
  obtain ⟨r, hr⟩ : ∃ r, cutM o C n = r := ⟨_, rfl⟩
  have HR := Lib.hid hr
  have hk7 := nm_len h7
  rw [hr] at HN7 hk7 ⊢
  have HK7 := Lib.hid hk7
  obtain ⟨okb, hok⟩ : ∃ b, r.isSome = b := ⟨_, rfl⟩
  have HOKB := Lib.hid hok
  rw [hok]
  clear hok
  have hcw := zone_Where (HZ.out w7 hb7) (HNW.out w7 hb7) HKN.out
  obtain ⟨y0', y1'⟩ := HY.out w7 hb7
  clear hcc y0 y1 hb7 h7 hr hk7
  go_wp2_with fail
  refine hcw.mono ?_
  rintro e w8 ⟨rfl, hb8⟩
  have HB8 := Lib.hid (HB7.out.trans (hb8.mono HB7.out.size))
  have HN8 := Lib.hid (HN7.out.below hb8)
  obtain ⟨wv, hwv⟩ : ∃ wv, whereM o C n = wv := ⟨_, rfl⟩
  have HWV := Lib.hid hwv
  rw [hwv]
  clear hcw y0' y1' hb8 hwv HB7 HN7
  have hqle : qo ≤ qn := by have := underN_len HU.out; have := HQO.out; have := HQN.out; omega
  go_wp2
  go_loopw [11] (fun vi wr => ∃ k : Nat, vi = .int .i64 k ∧ k ≤ qn - qo + 1 ∧ Hid (Below w8.heap.size w8 wr)) (fun vi _ => qn - qo + 1 - (intOf vi).toNat)
  case atStart => exact ⟨0, rfl, by omega, Lib.hid (Below.refl _ _)⟩
  case round =>
    obtain ⟨k, rfl, hk, HB⟩ := hrel
    by_cases hlt : k ≤ qn - qo
    · have hlz : (k : Int) ≤ (qn : Int) - (qo : Int) := by omega
      have hkq : (k : Int) ≤ (qn : Int) := by omega
      have hkc : k ≤ qn := by omega
      have HKQ := Lib.hid (show k ≤ n.length by have := HQN.out; omega)
      have hwr : Below w6.heap.size w6 wr := HB8.out.trans (HB.out.mono HB8.out.size)
      have hce := zone_Exists (HZ.out wr hwr) (HNW.out wr hwr) HKN.out
      obtain ⟨y0, y1⟩ := HY.out wr hwr
      have HWR := Lib.hid hwr
      have hlk : (k : Int) ≤ (qn : Int) - (qo : Int) := hlz
      have hsuf := nm_suffix (HNW.out w6 (Below.refl _ _)) hkc
      have HEU := Lib.hid (fun (he : existsM o C n = true) => (show existsM o C (n.drop k) = true from by
        rw [drop_anc HKQ.out]
        exact exists_up HU.out he (by have := HQO.out; have := HQN.out; omega) (by omega)))
      have HWU := Lib.hid (fun s (hs : cutM o C n = some s) (hlt : qn - k < s) => (show whereM o C (n.drop k) = 1 from by
        rw [drop_anc HKQ.out]
        exact where_above hs (by have := HQO.out; have := HQN.out; omega) (by have := HQN.out; omega)))
      have hko' : NmOK (n.drop k) := by rw [drop_anc HKQ.out]; exact ancN_ok HKN.out _
      have HKO' := Lib.hid hko'
      clear hwr hko'
      rcases hsuf with ⟨hck, hm⟩ | ⟨hck, hq0, hk0, ⟨ad, rfl⟩, hm⟩ | ⟨hck, hq0, g, off, rfl, hm⟩
      · subst hck
        rw [Nat.sub_self] at hm
        have HM := Lib.hid (fun W (hb : Below w6.heap.size w6 W) => hm.below hb)
        clear hm
        go_wp2_with fail
        refine hce.mono ?_
        rintro e w9 ⟨rfl, hb9⟩
        have HB9 := Lib.hid (HWR.out.trans (hb9.mono HWR.out.size))
        have HBB9 := Lib.hid (HB.out.trans (hb9.mono HB.out.size))
        clear hce hb9 y0 y1
        obtain ⟨E, hE⟩ : ∃ E, existsM o C n = E := ⟨_, rfl⟩
        rw [hE] at HEU ⊢
        clear hE
        have HC9 : Hid (∃ w10, Hid (Below w8.heap.size w8 w10)) := Lib.hid ⟨w9, HBB9⟩
        cases E
        · cases okb with
          | false =>
            go_wp2
            go_roundw
            case measure => simp [intOf]; omega
            case rel => exact ⟨cn + 1, by go_num, by omega, HBB9⟩
          | true =>
            obtain ⟨s0, hs0⟩ : ∃ s0, r = some s0 := Option.isSome_iff_exists.1 HOKB.out
            subst hs0
            have hk7 := HK7.out
            have hls : k7 = s0 := by rw [hk7]; exact ancN_len (cutM_some HR.out).2.2
            have HK8 := Lib.hid hls
            clear hk7 hls
            by_cases hlt2 : (qn - cn : Nat) < k7
            · have hcw := zone_Where (HZ.out w9 HB9.out) (HM.out w9 HB9.out) HKO'.out
              rw [HWU.out s0 HR.out (by have := HK8.out; omega)] at hcw
              obtain ⟨y0, y1⟩ := HY.out w9 HB9.out
              have hlz2 : ((qn - cn : Nat) : Int) < (k7 : Int) := by omega
              go_wp2_with fail
              refine hcw.mono ?_
              rintro e w10 ⟨rfl, hb10⟩
              have HB10 := Lib.hid (HBB9.out.trans (hb10.mono HBB9.out.size))
              clear hcw hb10 y0 y1
              go_wp2
              go_roundw
              case measure => simp [intOf]; omega
              case rel => exact ⟨cn + 1, by go_num, by omega, HB10⟩
            · have hlz2 : ¬ ((qn - cn : Nat) : Int) < (k7 : Int) := by omega
              go_wp2
              go_roundw
              case measure => simp [intOf]; omega
              case rel => exact ⟨cn + 1, by go_num, by omega, HBB9⟩
        · have hcx := zone_Exists (HZ.out w9 HB9.out) (HM.out w9 HB9.out) HKO'.out
          rw [HEU.out rfl] at hcx
          obtain ⟨y0, y1⟩ := HY.out w9 HB9.out
          go_wp2_with fail
          refine hcx.mono ?_
          rintro e w10 ⟨rfl, hb10⟩
          have HB10 := Lib.hid (HB9.out.trans (hb10.mono HB9.out.size))
          have HBB10 := Lib.hid (HBB9.out.trans (hb10.mono HBB9.out.size))
          clear hcx hb10 y0 y1
          cases okb with
          | false =>
            go_wp2
            go_roundw
            case measure => simp [intOf]; omega
            case rel => exact ⟨cn + 1, by go_num, by omega, HBB10⟩
          | true =>
            obtain ⟨s0, hs0⟩ : ∃ s0, r = some s0 := Option.isSome_iff_exists.1 HOKB.out
            subst hs0
            have hk7 := HK7.out
            have hls : k7 = s0 := by rw [hk7]; exact ancN_len (cutM_some HR.out).2.2
            have HK8 := Lib.hid hls
            clear hk7 hls
            by_cases hlt2 : (qn - cn : Nat) < k7
            · have hcw := zone_Where (HZ.out w10 HB10.out) (HM.out w10 HB10.out) HKO'.out
              rw [HWU.out s0 HR.out (by have := HK8.out; omega)] at hcw
              obtain ⟨y0, y1⟩ := HY.out w10 HB10.out
              have hlz2 : ((qn - cn : Nat) : Int) < (k7 : Int) := by omega
              go_wp2_with fail
              refine hcw.mono ?_
              rintro e w11 ⟨rfl, hb11⟩
              have HB11 := Lib.hid (HBB10.out.trans (hb11.mono HBB10.out.size))
              clear hcw hb11 y0 y1
              go_wp2
              go_roundw
              case measure => simp [intOf]; omega
              case rel => exact ⟨cn + 1, by go_num, by omega, HB11⟩
            · have hlz2 : ¬ ((qn - cn : Nat) : Int) < (k7 : Int) := by omega
              go_wp2
              go_roundw
              case measure => simp [intOf]; omega
              case rel => exact ⟨cn + 1, by go_num, by omega, HBB10⟩
      · subst hk0
        subst hq0
        obtain rfl : qo = 0 := by omega
        clear hqle
        simp only [Nat.sub_zero] at hm
        have HM := Lib.hid (fun W (hb : Below w6.heap.size w6 W) => hm.below hb)
        clear hm
        go_wp2_with fail
        refine hce.mono ?_
        rintro e w9 ⟨rfl, hb9⟩
        have HB9 := Lib.hid (HWR.out.trans (hb9.mono HWR.out.size))
        have HBB9 := Lib.hid (HB.out.trans (hb9.mono HB.out.size))
        clear hce hb9 y0 y1
        obtain ⟨E, hE⟩ : ∃ E, existsM o C n = E := ⟨_, rfl⟩
        rw [hE] at HEU ⊢
        clear hE
        have HC9 : Hid (∃ w10, Hid (Below w8.heap.size w8 w10)) := Lib.hid ⟨w9, HBB9⟩
        cases E
        · cases okb with
          | false =>
            go_wp2
            go_roundw
            case measure => simp [intOf]
            case rel => exact ⟨0 + 1, by go_num, by omega, HBB9⟩
          | true =>
            obtain ⟨s0, hs0⟩ : ∃ s0, r = some s0 := Option.isSome_iff_exists.1 HOKB.out
            subst hs0
            have hk7 := HK7.out
            have hls : k7 = s0 := by rw [hk7]; exact ancN_len (cutM_some HR.out).2.2
            have HK8 := Lib.hid hls
            clear hk7 hls
            by_cases hlt2 : (0 : Nat) < k7
            · have hcw := zone_Where (HZ.out w9 HB9.out) (HM.out w9 HB9.out) HKO'.out
              rw [HWU.out s0 HR.out (by have := HK8.out; omega)] at hcw
              obtain ⟨y0, y1⟩ := HY.out w9 HB9.out
              have hlz2 : (0 : Int) < (k7 : Int) := by omega
              go_wp2_with fail
              refine hcw.mono ?_
              rintro e w10 ⟨rfl, hb10⟩
              have HB10 := Lib.hid (HBB9.out.trans (hb10.mono HBB9.out.size))
              clear hcw hb10 y0 y1
              go_wp2
              go_roundw
              case measure => simp [intOf]
              case rel => exact ⟨0 + 1, by go_num, by omega, HB10⟩
            · have hlz2 : ¬ (0 : Int) < (k7 : Int) := by omega
              go_wp2
              go_roundw
              case measure => simp [intOf]
              case rel => exact ⟨0 + 1, by go_num, by omega, HBB9⟩
        · have hcx := zone_Exists (HZ.out w9 HB9.out) (HM.out w9 HB9.out) HKO'.out
          rw [HEU.out rfl] at hcx
          obtain ⟨y0, y1⟩ := HY.out w9 HB9.out
          go_wp2_with fail
          refine hcx.mono ?_
          rintro e w10 ⟨rfl, hb10⟩
          have HB10 := Lib.hid (HB9.out.trans (hb10.mono HB9.out.size))
          have HBB10 := Lib.hid (HBB9.out.trans (hb10.mono HBB9.out.size))
          clear hcx hb10 y0 y1
          cases okb with
          | false =>
            go_wp2
            go_roundw
            case measure => simp [intOf]
            case rel => exact ⟨0 + 1, by go_num, by omega, HBB10⟩
          | true =>
            obtain ⟨s0, hs0⟩ : ∃ s0, r = some s0 := Option.isSome_iff_exists.1 HOKB.out
            subst hs0
            have hk7 := HK7.out
            have hls : k7 = s0 := by rw [hk7]; exact ancN_len (cutM_some HR.out).2.2
            have HK8 := Lib.hid hls
            clear hk7 hls
            by_cases hlt2 : (0 : Nat) < k7
            · have hcw := zone_Where (HZ.out w10 HB10.out) (HM.out w10 HB10.out) HKO'.out
              rw [HWU.out s0 HR.out (by have := HK8.out; omega)] at hcw
              obtain ⟨y0, y1⟩ := HY.out w10 HB10.out
              have hlz2 : (0 : Int) < (k7 : Int) := by omega
              go_wp2_with fail
              refine hcw.mono ?_
              rintro e w11 ⟨rfl, hb11⟩
              have HB11 := Lib.hid (HBB10.out.trans (hb11.mono HBB10.out.size))
              clear hcw hb11 y0 y1
              go_wp2
              go_roundw
              case measure => simp [intOf]
              case rel => exact ⟨0 + 1, by go_num, by omega, HB11⟩
            · have hlz2 : ¬ (0 : Int) < (k7 : Int) := by omega
              go_wp2
              go_roundw
              case measure => simp [intOf]
              case rel => exact ⟨0 + 1, by go_num, by omega, HBB10⟩
      · have HM := Lib.hid (fun W (hb : Below w6.heap.size w6 W) => hm.below hb)
        clear hm
        go_wp2_with fail
        refine hce.mono ?_
        rintro e w9 ⟨rfl, hb9⟩
        have HB9 := Lib.hid (HWR.out.trans (hb9.mono HWR.out.size))
        have HBB9 := Lib.hid (HB.out.trans (hb9.mono HB.out.size))
        clear hce hb9 y0 y1
        obtain ⟨E, hE⟩ : ∃ E, existsM o C n = E := ⟨_, rfl⟩
        rw [hE] at HEU ⊢
        clear hE
        have HC9 : Hid (∃ w10, Hid (Below w8.heap.size w8 w10)) := Lib.hid ⟨w9, HBB9⟩
        cases E
        · cases okb with
          | false =>
            go_wp2
            go_roundw
            case measure => simp [intOf]; omega
            case rel => exact ⟨k + 1, by go_num, by omega, HBB9⟩
          | true =>
            obtain ⟨s0, hs0⟩ : ∃ s0, r = some s0 := Option.isSome_iff_exists.1 HOKB.out
            subst hs0
            have hk7 := HK7.out
            have hls : k7 = s0 := by rw [hk7]; exact ancN_len (cutM_some HR.out).2.2
            have HK8 := Lib.hid hls
            clear hk7 hls
            by_cases hlt2 : (qn - k : Nat) < k7
            · have hcw := zone_Where (HZ.out w9 HB9.out) (HM.out w9 HB9.out) HKO'.out
              rw [HWU.out s0 HR.out (by have := HK8.out; omega)] at hcw
              obtain ⟨y0, y1⟩ := HY.out w9 HB9.out
              have hlz2 : ((qn - k : Nat) : Int) < (k7 : Int) := by omega
              go_wp2_with fail
              refine hcw.mono ?_
              rintro e w10 ⟨rfl, hb10⟩
              have HB10 := Lib.hid (HBB9.out.trans (hb10.mono HBB9.out.size))
              clear hcw hb10 y0 y1
              go_wp2
              go_roundw
              case measure => simp [intOf]; omega
              case rel => exact ⟨k + 1, by go_num, by omega, HB10⟩
            · have hlz2 : ¬ ((qn - k : Nat) : Int) < (k7 : Int) := by omega
              go_wp2
              go_roundw
              case measure => simp [intOf]; omega
              case rel => exact ⟨k + 1, by go_num, by omega, HBB9⟩
        · have hcx := zone_Exists (HZ.out w9 HB9.out) (HM.out w9 HB9.out) HKO'.out
          rw [HEU.out rfl] at hcx
          obtain ⟨y0, y1⟩ := HY.out w9 HB9.out
          go_wp2_with fail
          refine hcx.mono ?_
          rintro e w10 ⟨rfl, hb10⟩
          have HB10 := Lib.hid (HB9.out.trans (hb10.mono HB9.out.size))
          have HBB10 := Lib.hid (HBB9.out.trans (hb10.mono HBB9.out.size))
          clear hcx hb10 y0 y1
          cases okb with
          | false =>
            go_wp2
            go_roundw
            case measure => simp [intOf]; omega
            case rel => exact ⟨k + 1, by go_num, by omega, HBB10⟩
          | true =>
            obtain ⟨s0, hs0⟩ : ∃ s0, r = some s0 := Option.isSome_iff_exists.1 HOKB.out
            subst hs0
            have hk7 := HK7.out
            have hls : k7 = s0 := by rw [hk7]; exact ancN_len (cutM_some HR.out).2.2
            have HK8 := Lib.hid hls
            clear hk7 hls
            by_cases hlt2 : (qn - k : Nat) < k7
            · have hcw := zone_Where (HZ.out w10 HB10.out) (HM.out w10 HB10.out) HKO'.out
              rw [HWU.out s0 HR.out (by have := HK8.out; omega)] at hcw
              obtain ⟨y0, y1⟩ := HY.out w10 HB10.out
              have hlz2 : ((qn - k : Nat) : Int) < (k7 : Int) := by omega
              go_wp2_with fail
              refine hcw.mono ?_
              rintro e w11 ⟨rfl, hb11⟩
              have HB11 := Lib.hid (HBB10.out.trans (hb11.mono HBB10.out.size))
              clear hcw hb11 y0 y1
              go_wp2
              go_roundw
              case measure => simp [intOf]; omega
              case rel => exact ⟨k + 1, by go_num, by omega, HB11⟩
            · have hlz2 : ¬ ((qn - k : Nat) : Int) < (k7 : Int) := by omega
              go_wp2
              go_roundw
              case measure => simp [intOf]; omega
              case rel => exact ⟨k + 1, by go_num, by omega, HBB10⟩
    · have hlz : ¬ (k : Int) ≤ (qn : Int) - (qo : Int) := by omega
      have HBW := Lib.hid (HB8.out.trans (HB.out.mono HB8.out.size))
      cases okb with
      | false =>
        have hrn : r = none := by
          have := HOKB.out
          cases r with
          | none => rfl
          | some s => cases this
        subst hrn
        have hw1 : wv = 1 := by rw [← HWV.out]; exact where_none HU.out HR.out
        subst hw1
        go_wp2
        go_ret
        exact ⟨rfl, HB6.out.trans (HBW.out.mono HB6.out.size)⟩
      | true =>
        obtain ⟨s0, hs0⟩ : ∃ s0, r = some s0 := Option.isSome_iff_exists.1 HOKB.out
        subst hs0
        have hs := cutM_some HR.out
        have HKC := Lib.hid (show NmOK (ancN n s0) from ancN_ok HKN.out _)
        have HNC := Lib.hid (fun (W : World) (hb : Below w8.heap.size w8 W) => (HN8.out.below hb : NmAt W (.slice a7 k7 c7) (ancN n s0)))
        have hcc := zs_cut (n := ancN n s0) (HZ.out wr HBW.out) (HNC.out wr HB.out) HKC.out
        rw [cut_of_cut HR.out] at hcc
        obtain ⟨y0, y1⟩ := HY.out wr HBW.out
        have HAA := Lib.hid (show ancN (ancN n s0) s0 = ancN n s0 from ancN_anc (Nat.le_refl _) hs.2.2)
        clear hs
        go_wp2_with fail
        refine hcc.mono ?_
        rintro e wa ⟨aa, ka, ca, rfl, ha, hba⟩
        have hd : NmAt wa (.slice aa ka ca) (ancN n s0) := by
          have h9 : NmAt wa (.slice aa ka ca) (ancN (ancN n s0) s0) := ha
          rw [HAA.out] at h9; exact h9
        have HBA := Lib.hid (HB.out.trans (hba.mono HB.out.size))
        have HBA6 := Lib.hid (HBW.out.trans (hba.mono HBW.out.size))
        clear hcc y0 y1 hba ha
        have hcs := kn_NSame (.slice a7 k7 c7) (.slice aa ka ca) _ _ true (sameN_refl (ancN n s0)) wa (HNC.out wa HBA.out) hd HKC.out HKC.out
        simp only [Option.isSome_some]
        go_wp2_with fail
        refine hcs.mono ?_
        rintro e wb ⟨rfl, hbb⟩
        have HBB := Lib.hid (HBA.out.trans (hbb.mono HBA.out.size))
        have HBB6 := Lib.hid (HBA6.out.trans (hbb.mono HBA6.out.size))
        clear hcs hd hbb HBA HBA6
        have hcu := kn_NUnder (.slice an qn cn) (.slice a7 k7 c7) n (ancN n s0) true (under_anc n s0) wb (HNW.out wb HBB6.out) (HNC.out wb HBB.out) HKN.out HKC.out
        go_wp2_with fail
        refine hcu.mono ?_
        rintro e wc ⟨rfl, hbc⟩
        have HBC := Lib.hid (HBB.out.trans (hbc.mono HBB.out.size))
        have HBC6 := Lib.hid (HBB6.out.trans (hbc.mono HBB6.out.size))
        clear hcu hbc HBB HBB6
        have hcw := zone_Where (n := ancN n s0) (HZ.out wc HBC6.out) (HNC.out wc HBC.out) HKC.out
        rw [where_cut HR.out] at hcw
        obtain ⟨y0, y1⟩ := HY.out wc HBC6.out
        go_wp2_with fail
        refine hcw.mono ?_
        rintro e wd ⟨rfl, hbd⟩
        have HBD := Lib.hid (HBC.out.trans (hbd.mono HBC.out.size))
        have HBD6 := Lib.hid (HBC6.out.trans (hbd.mono HBC6.out.size))
        clear hcw hbd HBC HBC6 y0 y1
        have hcs := kn_NSame (.slice an qn cn) (.slice a7 k7 c7) n (ancN n s0) _ rfl wd (HNW.out wd HBD6.out) (HNC.out wd HBD.out) HKN.out HKC.out
        obtain ⟨B, hB⟩ : ∃ B, sameN n (ancN n s0) = B := ⟨_, rfl⟩
        have hwB : (wv == 2) = B := by rw [← hB, ← HWV.out]; exact where_some HR.out
        rw [hB] at hcs
        clear hB
        cases B
        · have HWB := Lib.hid hwB
          clear hwB
          go_wp2_with fail
          refine hcs.mono ?_
          rintro e we ⟨rfl, hbe⟩
          clear hcs
          go_wp2
          go_ret
          exact ⟨by show Ending.returned (.bool (!(wv == 2))) = _; rw [HWB.out]; rfl, HB6.out.trans ((HBD6.out.trans (hbe.mono HBD6.out.size)).mono HB6.out.size)⟩
        · have hw2 : wv = 2 := by simpa using hwB
          subst hw2
          clear hwB
          go_wp2_with fail
          refine hcs.mono ?_
          rintro e we ⟨rfl, hbe⟩
          clear hcs
          go_wp2
          go_ret
          exact ⟨rfl, HB6.out.trans ((HBD6.out.trans (hbe.mono HBD6.out.size)).mono HB6.out.size)⟩
end Go.Proofs.Yteppgeiejknhoaa
