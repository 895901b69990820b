/-
  law5.RecCanon: true for any rows. (Written by wip/tools/gen5w.py.)
-/
import Derived.Test.YtfcdajldpnomfaaGreatDoorMQ10
import Derived.Test.YtfcdajldpnomfaaGreatDoorMQ38
import Derived.ProofKit
import Derived.OpenShut
import Derived.ShutString
import Derived.ChangeArms
import Derived.ChangeSlices
import Derived.SliceStrings
import Derived.Deep.Slices
import Derived.Shelf.Vars
import Derived.Handed
import Derived.HandedShaped
namespace Go.Proofs.YtfcdajldpnomfaaGreatDoor
open Go.RowKit Go.Shelf
set_option maxRecDepth 20000
set_option linter.unusedVariables false
set_option linter.unusedSimpArgs false


set_option maxRecDepth 100000 in
set_option maxHeartbeats 8000000 in
theorem law5_RecCanon {w : World} (v : Value) (css : List (List Value)) (l : List Rc) (hA : SlK w v css) (hR : css.length = l.length ∧ ∀ i (h1 : i < css.length) (h2 : i < l.length), RcArg w css[i] l[i]) (hT : Tab w) (hZ : TabZ w) :
    Calls Tryz.prog 4 #[v] w fun e w' => e = .returned (.bool true) ∧ Below w.heap.size w w' := by
  obtain ⟨fw, hfw⟩ : ∃ fw, fewRs l = fw := ⟨_, rfl⟩
  have hkn := law5_known w hT hZ
  have hFew := fun W hb => law5_Few v css l w W hA hR hb
  rw [hfw] at hFew
  have HFew := Lib.hid hFew
  have HROW := Lib.hid (show RowR w v l from ⟨css, hA, rcs_arg hR⟩)
  have HOK := Lib.hid (fun (h : fw = true) => fewRs_ok hR (hfw.trans h))
  clear hA hR hT hZ hFew hfw
  go_enter Tryz.func4, Tryz.ntmps4
  go_wp2_with fail
  refine hkn.mono ?_
  rintro e w0 ⟨rfl, hb⟩
  have HB_w0 := Lib.hid hb
  have hc := HFew.out w0 hb
  clear hb hkn
  go_wp2_with fail
  refine hc.mono ?_
  rintro e w1 ⟨rfl, hb⟩
  have HB_w1 := Lib.hid (HB_w0.out.trans (hb.mono HB_w0.out.size))
  clear hb hc HB_w0 HFew
  cases fw
  · go_wp2
    go_ret
    exact ⟨rfl, HB_w1.out⟩
  obtain ⟨hl60, hok, hnm⟩ := HOK.out rfl
  obtain ⟨L, hL⟩ : ∃ L, canonM l = L := ⟨_, rfl⟩
  have hLL : canonM L = L := by rw [← hL]; exact canonM_again l
  have hLn : L.length ≤ 60 := by rw [← hL]; have := canonM_length l; omega
  have hLk : ∀ r ∈ L, RcOK r := by rw [← hL]; exact canonM_ok l hok
  have hLm : ∀ r ∈ L, r.data.names.length ≤ 1048576 := by rw [← hL]; exact canonM_names l hnm
  obtain ⟨sb, hsb⟩ : ∃ sb, sameRowM l L = sb := ⟨_, rfl⟩
  have KOF := Lib.hid (fun (x : Value) (W : World) (h : RowR W x l) => row_OfAll x l W h hnm (by omega))
  have KOFL := Lib.hid (fun (x : Value) (W : World) (h : RowR W x L) => row_OfAll x L W h hLm (by omega))
  have KCN := Lib.hid (fun (x : Value) (W : World) (h : RowR W x l) => row_Canon x l L hL W h hok (by omega))
  have KCL := Lib.hid (fun (x : Value) (W : World) (h : RowR W x L) => row_Canon x L L hLL W h hLk (by omega))
  have KRC := Lib.hid (fun (x : Value) (W : World) (h : RowR W x l) => row_RCanon x l L hL W h hok (by omega))
  have KIL := Lib.hid (fun (x y : Value) (W : World) (h : RowR W x L) (g : RowR W y L) => row_Is x y L W h g hLk (by omega))
  have KIl := Lib.hid (fun (x y : Value) (W : World) (h : RowR W x l) (g : RowR W y l) => row_Is x y l W h g hok (by omega))
  have KSL := Lib.hid (fun (x y : Value) (W : World) (h : RowR W x L) (g : RowR W y L) => row_Same x y L L true (sameRowM_refl L) W h g hLk hLk (by omega) (by omega))
  have KSl := Lib.hid (fun (x y : Value) (W : World) (h : RowR W x l) (g : RowR W y L) => row_Same x y l L sb hsb W h g hok hLk (by omega) (by omega))
  have KRS := Lib.hid (fun (x y : Value) (W : World) (h : RowR W x l) (g : RowR W y L) => row_RSame x y l L sb hsb W h g hok hLk (by omega) (by omega))
  have R_v_1 := Lib.hid (HROW.out.below HB_w1.out)
  clear HROW HOK hl60 hok hnm hL hLL hLn hLk hLm hsb
  have hc := KOF.out v w1 R_v_1.out
  go_wp2_with fail
  refine hc.mono ?_
  rintro e w2 ⟨v1, rfl, hr, hb⟩
  have R_v_2 := Lib.hid (R_v_1.out.below hb)
  clear R_v_1
  have HB_w2 := Lib.hid (HB_w1.out.trans (hb.mono HB_w1.out.size))
  clear HB_w1
  have R_v1_1 := Lib.hid hr
  clear hb hc hr
  have hc := KCN.out v w2 R_v_2.out
  go_wp2_with fail
  refine hc.mono ?_
  rintro e w3 ⟨v2, rfl, hr, hb⟩
  have R_v_3 := Lib.hid (R_v_2.out.below hb)
  have R_v1_2 := Lib.hid (R_v1_1.out.below hb)
  clear R_v_2
  clear R_v1_1
  have HB_w3 := Lib.hid (HB_w2.out.trans (hb.mono HB_w2.out.size))
  clear HB_w2
  have R_v2_1 := Lib.hid hr
  clear hb hc hr
  have hc := KCL.out v2 w3 R_v2_1.out
  go_wp2_with fail
  refine hc.mono ?_
  rintro e w4 ⟨v3, rfl, hr, hb⟩
  have R_v_4 := Lib.hid (R_v_3.out.below hb)
  have R_v1_3 := Lib.hid (R_v1_2.out.below hb)
  have R_v2_2 := Lib.hid (R_v2_1.out.below hb)
  clear R_v_3
  clear R_v1_2
  clear R_v2_1
  have HB_w4 := Lib.hid (HB_w3.out.trans (hb.mono HB_w3.out.size))
  clear HB_w3
  have R_v3_1 := Lib.hid hr
  clear hb hc hr
  have hc := KOFL.out v2 w4 R_v2_2.out
  go_wp2_with fail
  refine hc.mono ?_
  rintro e w5 ⟨x1, rfl, hr, hb⟩
  have R_v_5 := Lib.hid (R_v_4.out.below hb)
  have R_v1_4 := Lib.hid (R_v1_3.out.below hb)
  have R_v2_3 := Lib.hid (R_v2_2.out.below hb)
  have R_v3_2 := Lib.hid (R_v3_1.out.below hb)
  clear R_v_4
  clear R_v1_3
  clear R_v2_2
  clear R_v3_1
  have HB_w5 := Lib.hid (HB_w4.out.trans (hb.mono HB_w4.out.size))
  clear HB_w4
  have R_x1_1 := Lib.hid hr
  clear hb hc hr
  have hc := KRC.out v1 w5 R_v1_4.out
  go_wp2_with fail
  refine hc.mono ?_
  rintro e w6 ⟨x2, rfl, hr, hb⟩
  have R_v_6 := Lib.hid (R_v_5.out.below hb)
  have R_v1_5 := Lib.hid (R_v1_4.out.below hb)
  have R_v2_4 := Lib.hid (R_v2_3.out.below hb)
  have R_v3_3 := Lib.hid (R_v3_2.out.below hb)
  have R_x1_2 := Lib.hid (R_x1_1.out.below hb)
  clear R_v_5
  clear R_v1_4
  clear R_v2_3
  clear R_v3_2
  clear R_x1_1
  have HB_w6 := Lib.hid (HB_w5.out.trans (hb.mono HB_w5.out.size))
  clear HB_w5
  have R_x2_1 := Lib.hid hr
  clear hb hc hr
  have hc := KIL.out x1 x2 w6 R_x1_2.out R_x2_1.out
  go_wp2_with fail
  refine hc.mono ?_
  rintro e w7 ⟨rfl, hb⟩
  have R_v_7 := Lib.hid (R_v_6.out.below hb)
  have R_v1_6 := Lib.hid (R_v1_5.out.below hb)
  have R_v2_5 := Lib.hid (R_v2_4.out.below hb)
  have R_v3_4 := Lib.hid (R_v3_3.out.below hb)
  have R_x1_3 := Lib.hid (R_x1_2.out.below hb)
  have R_x2_2 := Lib.hid (R_x2_1.out.below hb)
  clear R_v_6
  clear R_v1_5
  clear R_v2_4
  clear R_v3_3
  clear R_x1_2
  clear R_x2_1
  have HB_w7 := Lib.hid (HB_w6.out.trans (hb.mono HB_w6.out.size))
  clear HB_w6
  clear hb hc
  have hc := KOFL.out v3 w7 R_v3_4.out
  go_wp2_with fail
  refine hc.mono ?_
  rintro e w8 ⟨x3, rfl, hr, hb⟩
  have R_v_8 := Lib.hid (R_v_7.out.below hb)
  have R_v1_7 := Lib.hid (R_v1_6.out.below hb)
  have R_v2_6 := Lib.hid (R_v2_5.out.below hb)
  have R_v3_5 := Lib.hid (R_v3_4.out.below hb)
  have R_x1_4 := Lib.hid (R_x1_3.out.below hb)
  have R_x2_3 := Lib.hid (R_x2_2.out.below hb)
  clear R_v_7
  clear R_v1_6
  clear R_v2_5
  clear R_v3_4
  clear R_x1_3
  clear R_x2_2
  have HB_w8 := Lib.hid (HB_w7.out.trans (hb.mono HB_w7.out.size))
  clear HB_w7
  have R_x3_1 := Lib.hid hr
  clear hb hc hr
  have hc := KOFL.out v2 w8 R_v2_6.out
  go_wp2_with fail
  refine hc.mono ?_
  rintro e w9 ⟨x4, rfl, hr, hb⟩
  have R_v_9 := Lib.hid (R_v_8.out.below hb)
  have R_v1_8 := Lib.hid (R_v1_7.out.below hb)
  have R_v2_7 := Lib.hid (R_v2_6.out.below hb)
  have R_v3_6 := Lib.hid (R_v3_5.out.below hb)
  have R_x1_5 := Lib.hid (R_x1_4.out.below hb)
  have R_x2_4 := Lib.hid (R_x2_3.out.below hb)
  have R_x3_2 := Lib.hid (R_x3_1.out.below hb)
  clear R_v_8
  clear R_v1_7
  clear R_v2_6
  clear R_v3_5
  clear R_x1_4
  clear R_x2_3
  clear R_x3_1
  have HB_w9 := Lib.hid (HB_w8.out.trans (hb.mono HB_w8.out.size))
  clear HB_w8
  have R_x4_1 := Lib.hid hr
  clear hb hc hr
  have hc := KIL.out x3 x4 w9 R_x3_2.out R_x4_1.out
  go_wp2_with fail
  refine hc.mono ?_
  rintro e w10 ⟨rfl, hb⟩
  have R_v_10 := Lib.hid (R_v_9.out.below hb)
  have R_v1_9 := Lib.hid (R_v1_8.out.below hb)
  have R_v2_8 := Lib.hid (R_v2_7.out.below hb)
  have R_v3_7 := Lib.hid (R_v3_6.out.below hb)
  have R_x1_6 := Lib.hid (R_x1_5.out.below hb)
  have R_x2_5 := Lib.hid (R_x2_4.out.below hb)
  have R_x3_3 := Lib.hid (R_x3_2.out.below hb)
  have R_x4_2 := Lib.hid (R_x4_1.out.below hb)
  clear R_v_9
  clear R_v1_8
  clear R_v2_7
  clear R_v3_6
  clear R_x1_5
  clear R_x2_4
  clear R_x3_2
  clear R_x4_1
  have HB_w10 := Lib.hid (HB_w9.out.trans (hb.mono HB_w9.out.size))
  clear HB_w9
  clear hb hc
  have hc := KOF.out v w10 R_v_10.out
  go_wp2_with fail
  refine hc.mono ?_
  rintro e w11 ⟨x5, rfl, hr, hb⟩
  have R_v_11 := Lib.hid (R_v_10.out.below hb)
  have R_v1_10 := Lib.hid (R_v1_9.out.below hb)
  have R_v2_9 := Lib.hid (R_v2_8.out.below hb)
  have R_v3_8 := Lib.hid (R_v3_7.out.below hb)
  have R_x1_7 := Lib.hid (R_x1_6.out.below hb)
  have R_x2_6 := Lib.hid (R_x2_5.out.below hb)
  have R_x3_4 := Lib.hid (R_x3_3.out.below hb)
  have R_x4_3 := Lib.hid (R_x4_2.out.below hb)
  clear R_v_10
  clear R_v1_9
  clear R_v2_8
  clear R_v3_7
  clear R_x1_6
  clear R_x2_5
  clear R_x3_3
  clear R_x4_2
  have HB_w11 := Lib.hid (HB_w10.out.trans (hb.mono HB_w10.out.size))
  clear HB_w10
  have R_x5_1 := Lib.hid hr
  clear hb hc hr
  have hc := KIl.out x5 v1 w11 R_x5_1.out R_v1_10.out
  go_wp2_with fail
  refine hc.mono ?_
  rintro e w12 ⟨rfl, hb⟩
  have R_v_12 := Lib.hid (R_v_11.out.below hb)
  have R_v1_11 := Lib.hid (R_v1_10.out.below hb)
  have R_v2_10 := Lib.hid (R_v2_9.out.below hb)
  have R_v3_9 := Lib.hid (R_v3_8.out.below hb)
  have R_x1_8 := Lib.hid (R_x1_7.out.below hb)
  have R_x2_7 := Lib.hid (R_x2_6.out.below hb)
  have R_x3_5 := Lib.hid (R_x3_4.out.below hb)
  have R_x4_4 := Lib.hid (R_x4_3.out.below hb)
  have R_x5_2 := Lib.hid (R_x5_1.out.below hb)
  clear R_v_11
  clear R_v1_10
  clear R_v2_9
  clear R_v3_8
  clear R_x1_7
  clear R_x2_6
  clear R_x3_4
  clear R_x4_3
  clear R_x5_1
  have HB_w12 := Lib.hid (HB_w11.out.trans (hb.mono HB_w11.out.size))
  clear HB_w11
  clear hb hc
  have hc := KSL.out v2 v3 w12 R_v2_10.out R_v3_9.out
  go_wp2_with fail
  refine hc.mono ?_
  rintro e w13 ⟨rfl, hb⟩
  have R_v_13 := Lib.hid (R_v_12.out.below hb)
  have R_v1_12 := Lib.hid (R_v1_11.out.below hb)
  have R_v2_11 := Lib.hid (R_v2_10.out.below hb)
  have R_v3_10 := Lib.hid (R_v3_9.out.below hb)
  have R_x1_9 := Lib.hid (R_x1_8.out.below hb)
  have R_x2_8 := Lib.hid (R_x2_7.out.below hb)
  have R_x3_6 := Lib.hid (R_x3_5.out.below hb)
  have R_x4_5 := Lib.hid (R_x4_4.out.below hb)
  have R_x5_3 := Lib.hid (R_x5_2.out.below hb)
  clear R_v_12
  clear R_v1_11
  clear R_v2_10
  clear R_v3_9
  clear R_x1_8
  clear R_x2_7
  clear R_x3_5
  clear R_x4_4
  clear R_x5_2
  have HB_w13 := Lib.hid (HB_w12.out.trans (hb.mono HB_w12.out.size))
  clear HB_w12
  clear hb hc
  have hc := KSl.out v v2 w13 R_v_13.out R_v2_11.out
  go_wp2_with fail
  refine hc.mono ?_
  rintro e w14 ⟨rfl, hb⟩
  have R_v_14 := Lib.hid (R_v_13.out.below hb)
  have R_v1_13 := Lib.hid (R_v1_12.out.below hb)
  have R_v2_12 := Lib.hid (R_v2_11.out.below hb)
  have R_v3_11 := Lib.hid (R_v3_10.out.below hb)
  have R_x1_10 := Lib.hid (R_x1_9.out.below hb)
  have R_x2_9 := Lib.hid (R_x2_8.out.below hb)
  have R_x3_7 := Lib.hid (R_x3_6.out.below hb)
  have R_x4_6 := Lib.hid (R_x4_5.out.below hb)
  have R_x5_4 := Lib.hid (R_x5_3.out.below hb)
  clear R_v_13
  clear R_v1_12
  clear R_v2_11
  clear R_v3_10
  clear R_x1_9
  clear R_x2_8
  clear R_x3_6
  clear R_x4_5
  clear R_x5_3
  have HB_w14 := Lib.hid (HB_w13.out.trans (hb.mono HB_w13.out.size))
  clear HB_w13
  clear hb hc
  have hc := KOFL.out v2 w14 R_v2_12.out
  go_wp2_with fail
  refine hc.mono ?_
  rintro e w15 ⟨x6, rfl, hr, hb⟩
  have R_v_15 := Lib.hid (R_v_14.out.below hb)
  have R_v1_14 := Lib.hid (R_v1_13.out.below hb)
  have R_v2_13 := Lib.hid (R_v2_12.out.below hb)
  have R_v3_12 := Lib.hid (R_v3_11.out.below hb)
  have R_x1_11 := Lib.hid (R_x1_10.out.below hb)
  have R_x2_10 := Lib.hid (R_x2_9.out.below hb)
  have R_x3_8 := Lib.hid (R_x3_7.out.below hb)
  have R_x4_7 := Lib.hid (R_x4_6.out.below hb)
  have R_x5_5 := Lib.hid (R_x5_4.out.below hb)
  clear R_v_14
  clear R_v1_13
  clear R_v2_12
  clear R_v3_11
  clear R_x1_10
  clear R_x2_9
  clear R_x3_7
  clear R_x4_6
  clear R_x5_4
  have HB_w15 := Lib.hid (HB_w14.out.trans (hb.mono HB_w14.out.size))
  clear HB_w14
  have R_x6_1 := Lib.hid hr
  clear hb hc hr
  have hc := KRS.out v1 x6 w15 R_v1_14.out R_x6_1.out
  go_wp2_with fail
  refine hc.mono ?_
  rintro e w16 ⟨rfl, hb⟩
  have R_v_16 := Lib.hid (R_v_15.out.below hb)
  have R_v1_15 := Lib.hid (R_v1_14.out.below hb)
  have R_v2_14 := Lib.hid (R_v2_13.out.below hb)
  have R_v3_13 := Lib.hid (R_v3_12.out.below hb)
  have R_x1_12 := Lib.hid (R_x1_11.out.below hb)
  have R_x2_11 := Lib.hid (R_x2_10.out.below hb)
  have R_x3_9 := Lib.hid (R_x3_8.out.below hb)
  have R_x4_8 := Lib.hid (R_x4_7.out.below hb)
  have R_x5_6 := Lib.hid (R_x5_5.out.below hb)
  have R_x6_2 := Lib.hid (R_x6_1.out.below hb)
  clear R_v_15
  clear R_v1_14
  clear R_v2_13
  clear R_v3_12
  clear R_x1_11
  clear R_x2_10
  clear R_x3_8
  clear R_x4_7
  clear R_x5_5
  clear R_x6_1
  have HB_w16 := Lib.hid (HB_w15.out.trans (hb.mono HB_w15.out.size))
  clear HB_w15
  clear hb hc
  go_wp2_with fail
  go_ret
  exact ⟨rfl, HB_w16.out⟩
end Go.Proofs.YtfcdajldpnomfaaGreatDoor

/-
  Rows of fresh records, as appends leave them.
-/
namespace Go.Proofs.YtfcdajldpnomfaaGreatDoor
open Go.RowKit Go.Shelf
set_option maxRecDepth 20000
set_option linter.unusedVariables false
set_option linter.unusedSimpArgs false

def RowF (W : World) (css : List (List Value)) (l : List Rc) : Prop := css.length = l.length ∧ ∀ j (h1 : j < css.length) (h2 : j < l.length), ∃ base, FrAt W base css[j] l[j]
theorem RowF.rcs {W : World} {css : List (List Value)} {l : List Rc} (h : RowF W css l) : Rcs W css l := ⟨h.1, fun j h1 h2 => let ⟨_, hf⟩ := h.2 j h1 h2; hf.rcAt⟩
theorem RowF.below {W W' : World} {css : List (List Value)} {l : List Rc} (h : RowF W css l) (hb : Below W.heap.size W W') : RowF W' css l := ⟨h.1, fun j h1 h2 => let ⟨b, hf⟩ := h.2 j h1 h2; ⟨b, hf.below hb⟩⟩
theorem RowF.grown {W W' : World} {base : Nat} {v : Value} {yss css : List (List Value)} {l : List Rc} (h : RowF W css l) (ho : OwnC 7 31 W base v yss) (hg : W.grownBy W' v.ownBlock) : RowF W' css l := ⟨h.1, fun j h1 h2 => let ⟨b, hf⟩ := h.2 j h1 h2; ⟨b, hf.grown ho hg⟩⟩
theorem row_CanonF (v : Value) (l L : List Rc) (hL : canonM l = L) (W : World) (h : RowR W v l) (hk : ∀ r ∈ l, RcOK r) (hn : l.length ≤ 1000000) :
    Calls Tryz.prog 19 #[v] W fun e w' => ∃ v' css, e = .returned v' ∧ SlK w' v' css ∧ RowF w' css L ∧ Below W.heap.size W w' := by
  subst hL
  obtain ⟨css, h1, h2⟩ := h
  refine (rec_Canon v css l W h1 h2 hk (by rw [h2.1]; omega)).mono ?_
  rintro e w' ⟨v', css', rfl, ho, hl, hf, hb⟩
  have hr : RowF w' css' (canonM l) := ⟨hl, fun i a b => ⟨_, hf i a b⟩⟩
  exact ⟨v', css', rfl, SlK.of_own ho hr.rcs.ck, hr, hb⟩
end Go.Proofs.YtfcdajldpnomfaaGreatDoor

/-
  law5.RecTurned: true for any rows. (Written by wip/tools/gen5u.py.)
-/
namespace Go.Proofs.YtfcdajldpnomfaaGreatDoor
open Go.RowKit Go.Shelf
set_option maxRecDepth 20000
set_option linter.unusedVariables false
set_option linter.unusedSimpArgs false


set_option maxRecDepth 100000 in
set_option maxHeartbeats 8000000 in
theorem law5_RecTurned {w : World} (v : Value) (css : List (List Value)) (l : List Rc) (hA : SlK w v css) (hR : css.length = l.length ∧ ∀ i (h1 : i < css.length) (h2 : i < l.length), RcArg w css[i] l[i]) (t : Int) (ht : (Lit.int .u8 t).wf = true) (hT : Tab w) (hZ : TabZ w) :
    Calls Tryz.prog 5 #[v, .int .u8 t] w fun e w' => e = .returned (.bool true) ∧ Below w.heap.size w w' := by
  obtain ⟨fw, hfw⟩ : ∃ fw, fewRs l = fw := ⟨_, rfl⟩
  have hkn := law5_known w hT hZ
  have hFew := fun W hb => law5_Few v css l w W hA hR hb
  rw [hfw] at hFew
  have hrow : RowR w v l := ⟨css, hA, rcs_arg hR⟩
  obtain ⟨a, c, rfl, hlc⟩ := hrow.shape
  have HOK := Lib.hid (fun (h : fw = true) => fewRs_ok hR (hfw.trans h))
  have hck := (rcs_arg hR).ck
  have hss : 0 < l.length → ∃ b off, a = some ⟨b, off, none⟩ := fun h => by
    obtain ⟨b, off, e, _⟩ := hA.elem hck (by rw [hR.1]; exact h)
    exact ⟨b, off, e⟩
  obtain ⟨n, hn⟩ : ∃ n, l.length = n := ⟨_, rfl⟩
  rw [hn] at hA hrow hFew hlc hss ⊢
  have HFew := Lib.hid hFew; have HROW := Lib.hid hrow; have HA := Lib.hid hA; have HR := Lib.hid (rcs_arg hR); have HN := Lib.hid hn
  have htt : 0 ≤ t ∧ t < 256 := by
    simp [Lit.wf] at ht
    have e1 : IntKind.u8.min = 0 := by decide
    have e2 : IntKind.u8.max = 255 := by decide
    omega
  obtain ⟨tn, rfl⟩ : ∃ tn : Nat, t = (tn : Int) := ⟨t.toNat, by omega⟩
  have htn : tn < 256 := by omega
  clear hA hR hT hZ hFew hfw hrow hck ht htt hn
  by_cases h0 : n = 0
  · subst h0
    go_enter Tryz.func5, Tryz.ntmps5
    go_wp2_with fail
    refine hkn.mono ?_
    rintro e w0 ⟨rfl, hb⟩
    have HB_w0 := Lib.hid hb
    have hc := HFew.out w0 hb
    clear hb hkn
    go_wp2_with fail
    refine hc.mono ?_
    rintro e w1 ⟨rfl, hb⟩
    have HB_w1 := Lib.hid (HB_w0.out.trans (hb.mono HB_w0.out.size))
    clear hb hc HB_w0 HFew
    cases fw
    · go_wp2_with fail
      go_ret
      exact ⟨rfl, HB_w1.out⟩
    · go_wp2_with fail
      go_ret
      exact ⟨rfl, HB_w1.out⟩
  obtain ⟨b, off, rfl⟩ := hss (by omega)
  clear hss
  obtain ⟨k, hk⟩ : ∃ k, tn % n = k := ⟨_, rfl⟩
  have hkn2 : k < n := by rw [← hk]; exact Nat.mod_lt _ (by omega)
  have hk1 : (tn : Int).tmod (n : Int) = (k : Int) := by rw [← hk]; exact Int.ofNat_tmod tn n |>.symm
  have hn0 : ¬ (n : Int) = 0 := by omega
  have hn1 : ((n : Int) == 0) = false := by simpa using h0
  have hkz : (0 : Int) ≤ (k : Int) := by omega
  have hkz2 : (k : Int) ≤ (n : Int) := by omega
  have hkz3 : (k : Int) ≤ (c : Int) := by omega
  have hnc : (n : Int) ≤ (c : Int) := by omega
  have hkc : (k : Int) < (c : Int) := by omega
  have hcne : ¬ c = k := by omega
  have hwt : IntKind.i64.wrap (tn : Int) = (tn : Int) := by rw [IntKind.wrap_i64]; omega
  have hwk : IntKind.i64.wrap (k : Int) = (k : Int) := by
    have : n ≤ 1 ∨ k < 256 := by rw [← hk]; have := Nat.mod_le tn n; omega
    rw [IntKind.wrap_i64]; omega
  clear hk h0
  go_enter Tryz.func5, Tryz.ntmps5
  go_wp2_with fail
  refine hkn.mono ?_
  rintro e w0 ⟨rfl, hb⟩
  have HB_w0 := Lib.hid hb
  have hc := HFew.out w0 hb
  clear hb hkn
  go_wp2_with fail
  refine hc.mono ?_
  rintro e w1 ⟨rfl, hb⟩
  have HB_w1 := Lib.hid (HB_w0.out.trans (hb.mono HB_w0.out.size))
  clear hb hc HB_w0 HFew
  cases fw
  · go_wp2_with fail
    go_ret
    exact ⟨rfl, HB_w1.out⟩
  obtain ⟨hl60, hok, hnm⟩ := HOK.out (by simp)
  have hn60 : n ≤ 60 := by have := HN.out; omega
  obtain ⟨M, hM⟩ : ∃ M, l.drop k ++ l.take k = M := ⟨_, rfl⟩
  have hmem : ∀ x, x ∈ l ↔ x ∈ M := fun x => by
    rw [← hM, List.mem_append, or_comm, ← List.mem_append, List.take_append_drop]
  have hMk : ∀ r ∈ M, RcOK r := fun r hr => hok r ((hmem r).2 hr)
  have hMl : M.length ≤ 60 := by rw [← hM, List.length_append, List.length_drop, List.length_take]; have := HN.out; omega
  obtain ⟨L1, hL1⟩ : ∃ L, canonM l = L := ⟨_, rfl⟩
  obtain ⟨L2, hL2⟩ : ∃ L, canonM M = L := ⟨_, rfl⟩
  have h1k : ∀ r ∈ L1, RcOK r := by rw [← hL1]; exact canonM_ok l hok
  have h2k : ∀ r ∈ L2, RcOK r := by rw [← hL2]; exact canonM_ok M hMk
  have l1 : L1.length ≤ 60 := by rw [← hL1]; have := canonM_length l; omega
  have l2 : L2.length ≤ 60 := by rw [← hL2]; have := canonM_length M; omega
  have sm : sameRowM L1 L2 = true := by rw [← hL1, ← hL2]; exact canon_turned l M hmem
  have KA := Lib.hid (fun (x : Value) (W : World) (h : RowR W x l) => row_Canon x l L1 hL1 W h hok (by omega))
  have KB := Lib.hid (fun (x : Value) (W : World) (h : RowR W x M) => row_Canon x M L2 hL2 W h hMk (by omega))
  have KS := Lib.hid (fun (x y : Value) (W : World) (h : RowR W x L1) (g : RowR W y L2) => row_Same x y L1 L2 true sm W h g h1k h2k (by omega) (by omega))
  have HM := Lib.hid hM
  have HTA := Lib.hid (HA.out.takeK k (by omega))
  have HTD := Lib.hid (HA.out.dropK HR.out.ck k (by omega))
  have HLT := Lib.hid (show (css.take k).length = k by rw [List.length_take, HR.out.1, HN.out]; omega)
  have HLD := Lib.hid (show (css.drop k).length = n - k by rw [List.length_drop, HR.out.1, HN.out])
  have HCK := Lib.hid (fun cs (h : cs ∈ css.take k) => HR.out.ck cs (List.mem_of_mem_take h))
  have HC1 := Lib.hid (fun cs (h : cs ∈ css.take k) => one7 HR.out cs (List.mem_of_mem_take h))
  have HDK := Lib.hid (fun cs (h : cs ∈ css.drop k) => HR.out.ck cs (List.mem_of_mem_drop h))
  have HD1 := Lib.hid (fun cs (h : cs ∈ css.drop k) => one7 HR.out cs (List.mem_of_mem_drop h))
  have hbA : Below w1.heap.size w1 (w1.alloc (.cells #[] 31)).drew := (show Below w1.heap.size w1 w1.drew from ⟨rfl, rfl, rfl, Nat.le_refl _, fun _ _ => rfl⟩).alloc (Nat.le_refl _) _
  have HBA := Lib.hid hbA
  have HOA := Lib.hid (show OwnC 7 31 ((w1.alloc (.cells #[] 31)).drew) w1.heap.size (.slice (some ⟨w1.heap.size, 0, none⟩) 0 0) [] from ownC_lit 7 31 w1.drew)
  have H4A := Lib.hid (fun (ops : Array Oper) (o : Oper) (a : Act) (K : Act → World → Prop) (Q : Exit → Act → World → Prop) (E : Prop) (h1 : o.guard = none) (h2 : o.op = .call { callee := .builtin .append, args := #[.tmp 22, .tmp 25], argTypes := #[34, 34] }) (h3 : a.eval (.tmp 22) = .slice (some ⟨w1.heap.size, 0, none⟩) 0 0) (h4 : a.eval (.tmp 25) = .slice (some ⟨b, off + k * 7, none⟩) (n - k) (c - k)) h => step_append_slk (ops := ops) (a := a) (K := K) (Q := Q) (E := E) ((w1.alloc (.cells #[] 31)).drew) h1 (.tmp 22) (.tmp 25) elem_rec (by decide) h2 w1.heap.size _ [] h3 HOA.out _ (css.drop k) h4 (HTD.out.below (HB_w1.out.trans (HBA.out.mono HB_w1.out.size))) HDK.out HD1.out HBA.out.size (by have h1 := HLD.out; have h2 := HLT.out; rw [HLD.out]; unfold maxLen; first | omega | (simp <;> omega)) (by have h1 := HLD.out; have h2 := HLT.out; rw [HLD.out]; first | omega | (simp <;> omega)) h)
  clear hl60 hok hnm hM hmem hMk hMl hL1 hL2 h1k h2k l1 l2 sm hbA HOK
  go_wp2_with fail
  go_region_law (first
    | ((with_reducible refine H4A.out _ _ _ _ _ _ ?_ ?_ ?_ ?_ ?_); exact rfl; exact rfl; exact rfl; exact rfl; intro v4 w4 ho4 hg4; rw [List.nil_append] at ho4; have HO4 := Lib.hid ho4; have HB4 := Lib.hid (HBA.out.grown hg4 HBA.out.size (OwnK.base_le HOA.out)); have H10 := Lib.hid (fun (ops : Array Oper) (o : Oper) (a : Act) (K : Act → World → Prop) (Q : Exit → Act → World → Prop) (E : Prop) (h1 : o.guard = none) (h2 : o.op = .call { callee := .builtin .append, args := #[.tmp 26, .tmp 29], argTypes := #[34, 34] }) (h3 : a.eval (.tmp 26) = v4) (h4 : a.eval (.tmp 29) = .slice (some ⟨b, off, none⟩) k c) h => step_append_slk (ops := ops) (a := a) (K := K) (Q := Q) (E := E) w4 h1 (.tmp 26) (.tmp 29) elem_rec (by decide) h2 w1.heap.size _ (css.drop k) h3 HO4.out _ (css.take k) h4 (HTA.out.below (HB_w1.out.trans (HB4.out.mono HB_w1.out.size))) HCK.out HC1.out HB4.out.size (by have h1 := HLD.out; have h2 := HLT.out; rw [HLD.out, HLT.out]; unfold maxLen; first | omega | (simp <;> omega)) (by have h1 := HLD.out; have h2 := HLT.out; rw [HLD.out, HLT.out]; first | omega | (simp <;> omega)) h); clear ho4 hg4)
    | ((with_reducible refine H10.out _ _ _ _ _ _ ?_ ?_ ?_ ?_ ?_); exact rfl; exact rfl; exact rfl; exact rfl; intro v5 w5 ho5 hg5; have HO5 := Lib.hid ho5; have HB5 := Lib.hid (HB4.out.grown hg5 HB4.out.size (OwnK.base_le HO4.out)); clear ho5 hg5))
  all_goals
    have HB_w5 := Lib.hid (HB_w1.out.trans (HB5.out.mono HB_w1.out.size))
    have hrow : RowR w5 v5 (l.drop k ++ l.take k) := RowR.of_own HO5.out (((HR.out.drop k).append (HR.out.take k)).below HB_w5.out)
    rw [HM.out] at hrow
    have R_m_1 := Lib.hid hrow
    have R_l_1 := Lib.hid (HROW.out.below HB_w5.out)
    clear hrow HB_w1 HB4 HB5 HO4 HO5 H4A H10 HOA HBA HTA HTD HCK HC1 HDK HD1
    have hc := KA.out (.slice (some ⟨b, off, none⟩) n c) w5 R_l_1.out
    go_wp2_with fail
    refine hc.mono ?_
    rintro e w6 ⟨x, rfl, hr, hb⟩
    have R_m_2 := Lib.hid (R_m_1.out.below hb)
    have R_l_2 := Lib.hid (R_l_1.out.below hb)
    clear R_m_1
    clear R_l_1
    have HB_w6 := Lib.hid (HB_w5.out.trans (hb.mono HB_w5.out.size))
    clear HB_w5
    have R_x_1 := Lib.hid hr
    clear hb hc hr
    have hc := KB.out v5 w6 R_m_2.out
    go_wp2_with fail
    refine hc.mono ?_
    rintro e w7 ⟨y, rfl, hr, hb⟩
    have R_m_3 := Lib.hid (R_m_2.out.below hb)
    have R_l_3 := Lib.hid (R_l_2.out.below hb)
    have R_x_2 := Lib.hid (R_x_1.out.below hb)
    clear R_m_2
    clear R_l_2
    clear R_x_1
    have HB_w7 := Lib.hid (HB_w6.out.trans (hb.mono HB_w6.out.size))
    clear HB_w6
    have R_y_1 := Lib.hid hr
    clear hb hc hr
    have hc := KS.out x y w7 R_x_2.out R_y_1.out
    go_wp2_with fail
    refine hc.mono ?_
    rintro e w8 ⟨rfl, hb⟩
    have R_m_4 := Lib.hid (R_m_3.out.below hb)
    have R_l_4 := Lib.hid (R_l_3.out.below hb)
    have R_x_3 := Lib.hid (R_x_2.out.below hb)
    have R_y_2 := Lib.hid (R_y_1.out.below hb)
    clear R_m_3
    clear R_l_3
    clear R_x_2
    clear R_y_1
    have HB_w8 := Lib.hid (HB_w7.out.trans (hb.mono HB_w7.out.size))
    clear HB_w7
    clear hb hc
    go_wp2_with fail
    go_ret
    exact ⟨rfl, HB_w8.out⟩
end Go.Proofs.YtfcdajldpnomfaaGreatDoor

/-
  law5.RecMerge: true for any rows. (Written by wip/tools/gen5m.py.)
-/
namespace Go.Proofs.YtfcdajldpnomfaaGreatDoor
open Go.RowKit Go.Shelf
set_option maxRecDepth 20000
set_option linter.unusedVariables false
set_option linter.unusedSimpArgs false


theorem mem_two (a b : List Rc) : ∀ x, x ∈ a ++ b ↔ x ∈ b ++ a := fun x => by simp [or_comm]
set_option maxRecDepth 100000 in
set_option maxHeartbeats 8000000 in
theorem law5_RecMerge {w : World} (va : Value) (css : List (List Value)) (l : List Rc) (hA : SlK w va css) (hR : css.length = l.length ∧ ∀ i (h1 : i < css.length) (h2 : i < l.length), RcArg w css[i] l[i]) (vb : Value) (ess : List (List Value)) (m : List Rc) (hB : SlK w vb ess) (hS : ess.length = m.length ∧ ∀ i (h1 : i < ess.length) (h2 : i < m.length), RcArg w ess[i] m[i]) (hT : Tab w) (hZ : TabZ w) :
    Calls Tryz.prog 6 #[va, vb] w fun e w' => e = .returned (.bool true) ∧ Below w.heap.size w w' := by
  obtain ⟨fa, hfa⟩ : ∃ fw, fewRs l = fw := ⟨_, rfl⟩
  obtain ⟨fb, hfb⟩ : ∃ fw, fewRs m = fw := ⟨_, rfl⟩
  have hkn := law5_known w hT hZ
  have hFa := fun W hb => law5_Few va css l w W hA hR hb
  have hFb := fun W hb => law5_Few vb ess m w W hB hS hb
  rw [hfa] at hFa
  rw [hfb] at hFb
  have hrA : RowR w va l := ⟨css, hA, rcs_arg hR⟩
  have hrB : RowR w vb m := ⟨ess, hB, rcs_arg hS⟩
  obtain ⟨aa, ca, rfl, -⟩ := hrA.shape
  obtain ⟨ab, cb, rfl, -⟩ := hrB.shape
  have HOKa := Lib.hid (fun (h : fa = true) => fewRs_ok hR (hfa.trans h))
  have HOKb := Lib.hid (fun (h : fb = true) => fewRs_ok hS (hfb.trans h))
  obtain ⟨n, hn⟩ : ∃ n, l.length = n := ⟨_, rfl⟩
  obtain ⟨n2, hn2⟩ : ∃ n, m.length = n := ⟨_, rfl⟩
  rw [hn] at hA hrA hFa ⊢
  rw [hn2] at hB hrB hFb ⊢
  have HSA := Lib.hid hA; have HSB := Lib.hid hB; have HRA := Lib.hid (rcs_arg hR); have HRB := Lib.hid (rcs_arg hS)
  have HFa := Lib.hid hFa; have HFb := Lib.hid hFb; have HN := Lib.hid hn; have HN2 := Lib.hid hn2
  have HROWA := Lib.hid hrA; have HROWB := Lib.hid hrB
  clear hA hR hB hS hT hZ hFa hFb hfa hfb hrA hrB hn hn2
  by_cases h40 : 40 < n + n2
  · have h40z : (40 : Int) < (n : Int) + (n2 : Int) := by omega
    by_cases hbig : 1000 < n + n2
    · -- one of them is too long for Few
      have hfab : fa = false ∨ fb = false := by
        cases fa
        · exact .inl rfl
        · cases fb
          · exact .inr rfl
          · have h1 := (HOKa.out (by simp)).1; have h2 := (HOKb.out (by simp)).1; have := HN.out; have := HN2.out; omega
      clear h40 h40z
      go_enter Tryz.func6, Tryz.ntmps6
      go_wp2_with fail
      refine hkn.mono ?_
      rintro e w0 ⟨rfl, hb⟩
      have HB0 := Lib.hid hb
      have hc := HFa.out w0 hb
      clear hb hkn
      go_wp2_with fail
      refine hc.mono ?_
      rintro e w1 ⟨rfl, hb⟩
      have HB1 := Lib.hid (HB0.out.trans (hb.mono HB0.out.size))
      clear hb hc HB0
      cases fa
      · go_wp2_with fail
        go_ret
        exact ⟨rfl, HB1.out⟩
      · have hfb2 : fb = false := by simpa using hfab
        subst hfb2
        have hc := HFb.out w1 HB1.out
        go_wp2_with fail
        refine hc.mono ?_
        rintro e w2 ⟨rfl, hb⟩
        have HB2 := Lib.hid (HB1.out.trans (hb.mono HB1.out.size))
        clear hb hc
        go_wp2_with fail
        go_ret
        exact ⟨rfl, HB2.out⟩
    · have hz1 : n ≤ 1000 := by omega
      have hz2 : n2 ≤ 1000 := by omega
      go_enter Tryz.func6, Tryz.ntmps6
      go_wp2_with fail
      refine hkn.mono ?_
      rintro e w0 ⟨rfl, hb⟩
      have HB0 := Lib.hid hb
      have hc := HFa.out w0 hb
      clear hb hkn
      go_wp2_with fail
      refine hc.mono ?_
      rintro e w1 ⟨rfl, hb⟩
      have HB1 := Lib.hid (HB0.out.trans (hb.mono HB0.out.size))
      clear hb hc HB0
      cases fa
      · go_wp2_with fail
        go_ret
        exact ⟨rfl, HB1.out⟩
      · have hc := HFb.out w1 HB1.out
        go_wp2_with fail
        refine hc.mono ?_
        rintro e w2 ⟨rfl, hb⟩
        have HB2 := Lib.hid (HB1.out.trans (hb.mono HB1.out.size))
        clear hb hc
        cases fb
        · go_wp2_with fail
          go_ret
          exact ⟨rfl, HB2.out⟩
        · go_wp2_with fail
          go_ret
          exact ⟨rfl, HB2.out⟩
  have h40z : ¬ (40 : Int) < (n : Int) + (n2 : Int) := by omega
  have hz1 : n ≤ 40 := by omega
  have hz2 : n2 ≤ 40 := by omega
  go_enter Tryz.func6, Tryz.ntmps6
  go_wp2_with fail
  refine hkn.mono ?_
  rintro e w0 ⟨rfl, hb⟩
  have HB0 := Lib.hid hb
  have hc := HFa.out w0 hb
  clear hb hkn
  go_wp2_with fail
  refine hc.mono ?_
  rintro e w1 ⟨rfl, hb⟩
  have HB1 := Lib.hid (HB0.out.trans (hb.mono HB0.out.size))
  clear hb hc HB0
  cases fa
  · go_wp2_with fail
    go_ret
    exact ⟨rfl, HB1.out⟩
  have hc := HFb.out w1 HB1.out
  go_wp2_with fail
  refine hc.mono ?_
  rintro e w2 ⟨rfl, hb⟩
  have HB_w2 := Lib.hid (HB1.out.trans (hb.mono HB1.out.size))
  clear hb hc HB1
  cases fb
  · go_wp2_with fail
    go_ret
    exact ⟨rfl, HB_w2.out⟩
  obtain ⟨-, hok, -⟩ := HOKa.out (by simp)
  obtain ⟨-, hok2, -⟩ := HOKb.out (by simp)
  have HCKA := Lib.hid HRA.out.ck; have HCKB := Lib.hid HRB.out.ck; have H1A := Lib.hid (one7 HRA.out); have H1B := Lib.hid (one7 HRB.out)
  have HLA := Lib.hid (show css.length = n by rw [HRA.out.1]; exact HN.out); have HLB := Lib.hid (show ess.length = n2 by rw [HRB.out.1]; exact HN2.out)
  obtain ⟨LX, hLX⟩ : ∃ L, canonM (l ++ m) = L := ⟨_, rfl⟩
  obtain ⟨LA, hLA⟩ : ∃ L, canonM l = L := ⟨_, rfl⟩
  obtain ⟨LB, hLB⟩ : ∃ L, canonM m = L := ⟨_, rfl⟩
  obtain ⟨LY, hLY⟩ : ∃ L, canonM (LA ++ LB) = L := ⟨_, rfl⟩
  obtain ⟨LZ, hLZ⟩ : ∃ L, canonM (m ++ l) = L := ⟨_, rfl⟩
  have hkX : ∀ r ∈ l ++ m, RcOK r := fun r hr => (List.mem_append.1 hr).elim (hok r) (hok2 r)
  have hkZ : ∀ r ∈ m ++ l, RcOK r := fun r hr => (List.mem_append.1 hr).elim (hok2 r) (hok r)
  have hkA : ∀ r ∈ LA, RcOK r := by rw [← hLA]; exact canonM_ok l hok
  have hkB : ∀ r ∈ LB, RcOK r := by rw [← hLB]; exact canonM_ok m hok2
  have hkY : ∀ r ∈ LA ++ LB, RcOK r := fun r hr => (List.mem_append.1 hr).elim (hkA r) (hkB r)
  have hXk : ∀ r ∈ LX, RcOK r := by rw [← hLX]; exact canonM_ok _ hkX
  have hYk : ∀ r ∈ LY, RcOK r := by rw [← hLY]; exact canonM_ok _ hkY
  have hZk : ∀ r ∈ LZ, RcOK r := by rw [← hLZ]; exact canonM_ok _ hkZ
  have lA : LA.length ≤ n := by rw [← hLA, ← HN.out]; exact canonM_length l
  have lB : LB.length ≤ n2 := by rw [← hLB, ← HN2.out]; exact canonM_length m
  have lX : LX.length ≤ n + n2 := by rw [← hLX, ← HN.out, ← HN2.out, ← List.length_append]; exact canonM_length _
  have lY : LY.length ≤ LA.length + LB.length := by rw [← hLY, ← List.length_append]; exact canonM_length _
  have lZ : LZ.length ≤ n + n2 := by rw [← hLZ, ← HN.out, ← HN2.out]; have := canonM_length (m ++ l); rw [List.length_append] at this; omega
  have sXY : sameRowM LX LY = true := by rw [← hLX, ← hLY, ← hLA, ← hLB]; exact canon_merge l m
  have sXZ : sameRowM LX LZ = true := by rw [← hLX, ← hLZ]; exact canon_turned _ _ (mem_two l m)
  have ln1 := HN.out
  have ln2 := HN2.out
  have KX := Lib.hid (fun (x : Value) (W : World) (h : RowR W x (l ++ m)) => row_Canon x (l ++ m) LX hLX W h hkX (by rw [List.length_append]; omega))
  have KZ := Lib.hid (fun (x : Value) (W : World) (h : RowR W x (m ++ l)) => row_Canon x (m ++ l) LZ hLZ W h hkZ (by rw [List.length_append]; omega))
  have KY := Lib.hid (fun (x : Value) (W : World) (h : RowR W x (LA ++ LB)) => row_Canon x (LA ++ LB) LY hLY W h hkY (by rw [List.length_append]; omega))
  have KA := Lib.hid (fun (x : Value) (W : World) (h : RowR W x l) => row_CanonF x l LA hLA W h hok (by omega))
  have KB := Lib.hid (fun (x : Value) (W : World) (h : RowR W x m) => row_CanonF x m LB hLB W h hok2 (by omega))
  have KS1 := Lib.hid (fun (x y : Value) (W : World) (h : RowR W x LX) (g : RowR W y LY) => row_Same x y LX LY true sXY W h g hXk hYk (by omega) (by omega))
  have KS2 := Lib.hid (fun (x y : Value) (W : World) (h : RowR W x LX) (g : RowR W y LZ) => row_Same x y LX LZ true sXZ W h g hXk hZk (by omega) (by omega))
  have HLX := Lib.hid lX; have HLAB := Lib.hid (And.intro lA lB)
  clear hLX hLA hLB hLY hLZ hkX hkZ hkA hkB hkY hXk hYk hZk lA lB lX lY lZ sXY sXZ ln1 ln2 hok hok2 HOKa HOKb HFa HFb
  go_wp2_with (first | (at_builtin; refine wpl_append_slk (w2.alloc (.cells #[] 31)) rfl (.tmp 26) (.tmp 27) elem_rec (by decide) rfl w2.heap.size (.slice (some ⟨w2.heap.size, 0, none⟩) 0 0) [] rfl (ownC_lit 7 31 w2) (.slice aa n ca) css rfl (HSA.out.below ((HB_w2.out.alloc HB_w2.out.size _))) HCKA.out H1A.out (by simp) (by rw [HLA.out]; unfold maxLen; first | omega | (simp <;> omega)) (by rw [HLA.out]; first | omega | (simp <;> omega)) ?_; intro v4 w4 ho4 hg4; rw [List.nil_append] at ho4; have HO4 := Lib.hid ho4; have HG4 := Lib.hid (show Below w2.heap.size w2 w4 from ((Below.refl _ w2).alloc (Nat.le_refl _) _).grown hg4 (by simp) (OwnK.base_le (ownC_lit 7 31 w2)))) | (at_builtin; refine wpl_append_slk w4 rfl (.tmp 28) (.tmp 29) elem_rec (by decide) rfl w2.heap.size v4 css rfl HO4.out (.slice ab n2 cb) ess rfl (HSB.out.below (HB_w2.out.trans (HG4.out.mono HB_w2.out.size))) HCKB.out H1B.out HG4.out.size (by rw [HLA.out, HLB.out]; unfold maxLen; first | omega | (simp <;> omega)) (by rw [HLA.out, HLB.out]; first | omega | (simp <;> omega)) ?_; intro v5 w5 ho5 hg5; have HO5 := Lib.hid ho5; have HG5 := Lib.hid (HG4.out.grown hg5 HG4.out.size (OwnK.base_le HO4.out))))
  have HBX := Lib.hid (HB_w2.out.trans (HG5.out.mono HB_w2.out.size))
  have hrow : RowR w5 v5 (l ++ m) := RowR.of_own HO5.out ((HRA.out.append HRB.out).below HBX.out)
  have hc := KX.out v5 w5 hrow
  clear ho4 hg4 ho5 hg5 hrow
  go_wp2_with fail
  refine hc.mono ?_
  rintro e w23 ⟨x, rfl, hr, hb⟩
  have hbb := HG5.out.trans (hb.mono HG5.out.size)
  have HB_w23 := Lib.hid (HB_w2.out.trans (hbb.mono HB_w2.out.size))
  clear HB_w2
  have R_x_1 := Lib.hid hr
  clear hb hbb hc hr HO4 HG4 HO5 HG5 HBX
  obtain ⟨ax, cx, rfl, -⟩ := R_x_1.out.shape
  obtain ⟨nx, hnx⟩ : ∃ n, LX.length = n := ⟨_, rfl⟩
  rw [hnx] at R_x_1 HLX ⊢
  have hxle : (nx : Int) ≤ (n : Int) + (n2 : Int) := by have := HLX.out; omega
  clear hnx
  have hb1 : Below w23.heap.size w23 (w23.alloc (.cells #[] 31)) := (Below.refl _ w23).alloc (Nat.le_refl _) _
  have hcA := KA.out (.slice aa n ca) (w23.alloc (.cells #[] 31)) (HROWA.out.below (HB_w23.out.trans (hb1.mono HB_w23.out.size)))
  have HOL := Lib.hid (ownC_lit 7 31 w23)
  have HB1 := Lib.hid hb1
  clear hb1
  go_wp2_with fail
  refine hcA.mono ?_
  rintro e w31 ⟨va, csa, rfl, hsa, hfa, hb31⟩
  have HSa := Lib.hid hsa; have HFA := Lib.hid hfa
  have HO31 := Lib.hid (OwnK.below HOL.out hb31)
  have HB31 := Lib.hid (HB1.out.trans (hb31.mono HB1.out.size))
  have HLa := Lib.hid (show csa.length ≤ n by rw [hfa.1]; exact HLAB.out.1)
  clear hsa hfa hb31 hcA HOL HB1
  go_wp2_with (at_builtin; refine wpl_append_slk w31 rfl (.tmp 32) (.tmp 34) elem_rec (by decide) rfl w23.heap.size (.slice (some ⟨w23.heap.size, 0, none⟩) 0 0) [] rfl HO31.out va csa rfl HSa.out HFA.out.rcs.ck (one7 HFA.out.rcs) HB31.out.size (by have := HLa.out; unfold maxLen; first | omega | (simp <;> omega)) (by have := HLa.out; first | omega | (simp <;> omega)) ?_; intro v32 w32 ho32 hg32)
  rw [List.nil_append] at ho32
  have HO32 := Lib.hid ho32; have HFA2 := Lib.hid (HFA.out.grown HO31.out hg32)
  have HB32 := Lib.hid (HB31.out.grown hg32 HB31.out.size (OwnK.base_le HO31.out))
  have hcB := KB.out (.slice ab n2 cb) w32 (HROWB.out.below (HB_w23.out.trans (HB32.out.mono HB_w23.out.size)))
  clear ho32 hg32 HFA HO31 HB31 HSa
  go_wp2_with fail
  refine hcB.mono ?_
  rintro e w33 ⟨vb', csb, rfl, hsb, hfb, hb33⟩
  have HSb := Lib.hid hsb; have HFB := Lib.hid hfb; have HFA3 := Lib.hid (HFA2.out.below hb33); have HO33 := Lib.hid (OwnK.below HO32.out hb33)
  have HB33 := Lib.hid (HB32.out.trans (hb33.mono HB32.out.size))
  have HLb := Lib.hid (show csb.length ≤ n2 by rw [hfb.1]; exact HLAB.out.2)
  clear hsb hfb hb33 hcB HFA2 HO32 HB32
  go_wp2_with (at_builtin; refine wpl_append_slk w33 rfl (.tmp 35) (.tmp 37) elem_rec (by decide) rfl w23.heap.size v32 csa rfl HO33.out vb' csb rfl HSb.out HFB.out.rcs.ck (one7 HFB.out.rcs) HB33.out.size (by have := HLa.out; have := HLb.out; unfold maxLen; omega) (by have := HLa.out; have := HLb.out; omega) ?_; intro v34 w34 ho34 hg34)
  have hrow : RowR w34 v34 (LA ++ LB) := RowR.of_own ho34 ((HFA3.out.grown HO33.out hg34).rcs.append (HFB.out.grown HO33.out hg34).rcs)
  have HB34 := Lib.hid (HB33.out.grown hg34 HB33.out.size (OwnK.base_le HO33.out))
  have hc := KY.out v34 w34 hrow
  clear ho34 hg34 hrow HFA3 HFB HO33 HB33 HSb HLa HLb
  go_wp2_with fail
  refine hc.mono ?_
  rintro e w35 ⟨y, rfl, hr, hb⟩
  have hbb := HB34.out.trans (hb.mono HB34.out.size)
  have R_x_2 := Lib.hid (R_x_1.out.below hbb)
  clear R_x_1
  have HB_w35 := Lib.hid (HB_w23.out.trans (hbb.mono HB_w23.out.size))
  clear HB_w23
  have R_y_1 := Lib.hid hr
  clear hb hbb hc hr HB34
  go_wp2_with (first | (at_builtin; refine wpl_append_slk (w35.alloc (.cells #[] 31)) rfl (.tmp 40) (.tmp 41) elem_rec (by decide) rfl w35.heap.size (.slice (some ⟨w35.heap.size, 0, none⟩) 0 0) [] rfl (ownC_lit 7 31 w35) (.slice ab n2 cb) ess rfl (HSB.out.below ((HB_w35.out.alloc HB_w35.out.size _))) HCKB.out H1B.out (by simp) (by rw [HLB.out]; unfold maxLen; first | omega | (simp <;> omega)) (by rw [HLB.out]; first | omega | (simp <;> omega)) ?_; intro v4 w4 ho4 hg4; rw [List.nil_append] at ho4; have HO4 := Lib.hid ho4; have HG4 := Lib.hid (show Below w35.heap.size w35 w4 from ((Below.refl _ w35).alloc (Nat.le_refl _) _).grown hg4 (by simp) (OwnK.base_le (ownC_lit 7 31 w35)))) | (at_builtin; refine wpl_append_slk w4 rfl (.tmp 42) (.tmp 43) elem_rec (by decide) rfl w35.heap.size v4 ess rfl HO4.out (.slice aa n ca) css rfl (HSA.out.below (HB_w35.out.trans (HG4.out.mono HB_w35.out.size))) HCKA.out H1A.out HG4.out.size (by rw [HLB.out, HLA.out]; unfold maxLen; first | omega | (simp <;> omega)) (by rw [HLB.out, HLA.out]; first | omega | (simp <;> omega)) ?_; intro v5 w5 ho5 hg5; have HO5 := Lib.hid ho5; have HG5 := Lib.hid (HG4.out.grown hg5 HG4.out.size (OwnK.base_le HO4.out))))
  have HBX := Lib.hid (HB_w35.out.trans (HG5.out.mono HB_w35.out.size))
  have hrow : RowR w5 v5 (m ++ l) := RowR.of_own HO5.out ((HRB.out.append HRA.out).below HBX.out)
  have hc := KZ.out v5 w5 hrow
  clear ho4 hg4 ho5 hg5 hrow
  go_wp2_with fail
  refine hc.mono ?_
  rintro e w24 ⟨z, rfl, hr, hb⟩
  have hbb := HG5.out.trans (hb.mono HG5.out.size)
  have R_x_3 := Lib.hid (R_x_2.out.below hbb)
  have R_y_2 := Lib.hid (R_y_1.out.below hbb)
  clear R_x_2
  clear R_y_1
  have HB_w24 := Lib.hid (HB_w35.out.trans (hbb.mono HB_w35.out.size))
  clear HB_w35
  have R_z_1 := Lib.hid hr
  clear hb hbb hc hr HO4 HG4 HO5 HG5 HBX
  have hc := KS1.out _ y w24 R_x_3.out R_y_2.out
  go_wp2_with fail
  refine hc.mono ?_
  rintro e w51 ⟨rfl, hb⟩
  have R_x_4 := Lib.hid (R_x_3.out.below hb)
  have R_y_3 := Lib.hid (R_y_2.out.below hb)
  have R_z_2 := Lib.hid (R_z_1.out.below hb)
  clear R_x_3
  clear R_y_2
  clear R_z_1
  have HB_w51 := Lib.hid (HB_w24.out.trans (hb.mono HB_w24.out.size))
  clear HB_w24
  clear hb hc
  have hc := KS2.out _ z w51 R_x_4.out R_z_2.out
  go_wp2_with fail
  refine hc.mono ?_
  rintro e w52 ⟨rfl, hb⟩
  have R_x_5 := Lib.hid (R_x_4.out.below hb)
  have R_y_4 := Lib.hid (R_y_3.out.below hb)
  have R_z_3 := Lib.hid (R_z_2.out.below hb)
  clear R_x_4
  clear R_y_3
  clear R_z_2
  have HB_w52 := Lib.hid (HB_w51.out.trans (hb.mono HB_w51.out.size))
  clear HB_w51
  clear hb hc
  go_wp2_with fail
  go_ret
  exact ⟨rfl, HB_w52.out⟩
end Go.Proofs.YtfcdajldpnomfaaGreatDoor

/-
  The opening of arguments of types rdata.Data, rec.Rec, []rec.Rec.
-/
namespace Go.Proofs.YtfcdajldpnomfaaGreatDoor
open Go Go.ChangeShapes Go.WideShapes Go.ChangeAt Go.RowKit Go.Shelf
set_option maxRecDepth 20000
theorem sl_row {W : World} {x : Addr} {l c : Nat} (f : Nat → Value) (hl : l ≤ c) (hcell : ∀ i, i < c → W.cell? (x.add i) = some (f i)) : SlAt W (.slice (some x) l c) ((List.range l).map f) := by
  refine ⟨some x, c, by simp, by simpa using hl, by simp, ?_⟩
  by_cases h0 : l = 0
  · subst h0; left; simp
  · right
    obtain ⟨b, off, spot⟩ := x
    have hspot : spot = none := by simpa [Addr.add] using World.cell?_spot (hcell 0 (by omega))
    subst hspot
    have hb : b < W.heap.size := by
      have h := hcell 0 (by omega)
      exact World.block_lt_of_cell? W _ (by simpa [Addr.add] using h : W.cell? ⟨b, off, none⟩ = some (f 0))
    refine ⟨b, off, rfl, hb, fun j hj => ?_⟩
    rw [List.length_map, List.length_range] at hj
    rw [← Go.WideShapes.add_plain, hcell j (by omega)]
    simp
theorem ints_row {W : World} {k : IntKind} {x : Addr} {l c : Nat} {zs : List Int} (hl : l ≤ c) (hz : zs.length = c) (hcell : ∀ i, i < zs.length → W.cell? (x.add i) = some (.int k (zs.getD i 0))) : SlAt W (.slice (some x) l c) ((zs.take l).map fun z => .int k z) := by
  have h := sl_row (fun i => Value.int k (zs.getD i 0)) hl (fun i hi => hcell i (by omega))
  have e : (List.range l).map (fun i => Value.int k (zs.getD i 0)) = (zs.take l).map fun z => Value.int k z := by
    apply List.ext_getElem
    · simp; omega
    · intro i h1 h2
      simp only [List.length_map, List.length_range] at h1
      have : i < zs.length := by omega
      simp [List.getD, this]
  rwa [e] at h
variable {H : Type} {enc : TypeId × Value → H} {W : World}
theorem cells3 : Tryz.prog.cellsOf 3 = 1 ∧ Tryz.prog.cellsOf 25 = 1 ∧ Tryz.prog.cellsOf 26 = 1 ∧ Tryz.prog.cellsOf 22 = 1 ∧ Tryz.prog.cellsOf 27 = 1 ∧ Tryz.prog.cellsOf 29 = 5 ∧ Tryz.prog.cellsOf 23 = 1 ∧ Tryz.prog.cellsOf 9 = 1 ∧ Tryz.prog.cellsOf 24 = 1 ∧ Tryz.prog.cellsOf 5 = 1 :=
  ⟨by kernel_rfl, by kernel_rfl, by kernel_rfl, by kernel_rfl, by kernel_rfl, by kernel_rfl, by kernel_rfl, by kernel_rfl, by kernel_rfl, by kernel_rfl⟩
theorem open_nm {t : TypeId} (ht : Tryz.prog.underlying t = some (.slice 9)) {fuel : Nat} {v : Value} {x : DataW H × List MemPlace} (hf : DataW.trod enc Tryz.prog W 0 (fun _ => true) true fuel t [v] = some x) : ∃ zs, NmArg W v zs := by
  rcases Go.ChangeShapes.open_strings ht Tryz.underlying9 (by kernel_rfl) hf with ⟨hcs, _⟩ | ⟨x, l, c, zs, hcs, _, hl, hm, hz, _, hcell, hwz⟩
  · simp at hcs
    subst hcs
    exact ⟨[], nmArg_nil W⟩
  · simp at hcs
    subst hcs
    exact ⟨_, nmArg_row hl hm (by simpa using hz) hcell hwz⟩
theorem open_nms {fuel : Nat} {v : Value} {x : DataW H × List MemPlace} (hf : DataW.trod enc Tryz.prog W 0 (fun _ => true) true fuel 25 [v] = some x) : ∃ ns : List Nm, NmsAt W v ns ∧ ∀ n ∈ ns, n.length ≤ maxLen ∧ ∀ y ∈ n, y.length ≤ maxLen := by
  rcases Go.Deep.open_slice1 Tryz.underlying25 (by kernel_rfl) hf with ⟨hcs, _⟩ | ⟨a, len, cap, m, n, V, D, Pl, hcs, _, hl, hm, hmm, _, hV⟩
  · simp at hcs
    subst hcs
    exact ⟨[], NmsAt.nil W, by simp⟩
  · simp at hcs
    subst hcs
    simp only [if_true] at hmm
    subst hmm
    obtain ⟨F, hF⟩ := Go.Deep.choose_lt (α := Nm) (p := fun i z => NmArg W (V i) z) (fun i hi => open_nm Tryz.underlying23 (hV i hi).2)
    refine ⟨(List.range len).map F, ⟨(List.range len).map V, sl_row V hl (fun i hi => (hV i hi).1), by simp, fun j hj => ?_⟩, ?_⟩
    · simp only [List.length_map, List.length_range] at hj
      simpa using (hF j (by omega)).1
    · intro n hn
      obtain ⟨i, hi, rfl⟩ := List.mem_map.1 hn
      exact (hF i (by have := List.mem_range.1 hi; omega)).2
theorem wf_u32 {n : Int} (h : (Lit.int .u32 n).wf = true) : 0 ≤ n ∧ n < 2 ^ 32 := by
  simp [Lit.wf] at h
  have e1 : IntKind.u32.min = 0 := by decide
  have e2 : IntKind.u32.max = 4294967295 := by decide
  omega
theorem wf_u8 {n : Int} (h : (Lit.int .u8 n).wf = true) : 0 ≤ n ∧ n < 256 := by
  simp [Lit.wf] at h
  have e1 : IntKind.u8.min = 0 := by decide
  have e2 : IntKind.u8.max = 255 := by decide
  omega
theorem wf_i64 {n : Int} (h : (Lit.int .i64 n).wf = true) : -(2 ^ 63) ≤ n ∧ n < 2 ^ 63 := by
  simp [Lit.wf] at h
  have e1 : IntKind.i64.min = -9223372036854775808 := by decide
  have e2 : IntKind.i64.max = 9223372036854775807 := by decide
  omega
theorem open_u32s {fuel : Nat} {v : Value} {x : DataW H × List MemPlace} (hf : DataW.trod enc Tryz.prog W 0 (fun _ => true) true fuel 26 [v] = some x) : ∃ ns : List Nat, SlAt W v (ns.map u32V) ∧ ∀ n ∈ ns, n < 2 ^ 32 := by
  rcases open_ints Tryz.underlying26 Tryz.underlying24 (by kernel_rfl) hf with ⟨hcs, _⟩ | ⟨a, l, c, zs, hcs, _, hl, hm, hz, _, hcell, hw⟩
  · simp at hcs
    subst hcs
    exact ⟨[], SlAt.nil W, by simp⟩
  · simp at hcs
    subst hcs
    refine ⟨(zs.take l).map Int.toNat, ?_, ?_⟩
    · have h := ints_row hl (by simpa using hz) hcell
      have e : ((zs.take l).map Int.toNat).map u32V = (zs.take l).map fun z => Value.int .u32 z := by
        rw [List.map_map]
        apply List.map_congr_left
        intro z hz
        have := wf_u32 (hw z (List.mem_of_mem_take hz))
        show Value.int .u32 ((z.toNat : Nat) : Int) = _
        rw [Int.toNat_of_nonneg this.1]
      rw [e]; exact h
    · intro n hn
      obtain ⟨z, hz, rfl⟩ := List.mem_map.1 hn
      have := wf_u32 (hw z (List.mem_of_mem_take hz))
      omega
theorem open_u8s {fuel : Nat} {v : Value} {x : DataW H × List MemPlace} (hf : DataW.trod enc Tryz.prog W 0 (fun _ => true) true fuel 27 [v] = some x) : ∃ ns : List UInt8, SlAt W v (ns.map bv) := by
  rcases open_ints Tryz.underlying27 Tryz.underlying5 (by kernel_rfl) hf with ⟨hcs, _⟩ | ⟨a, l, c, zs, hcs, _, hl, hm, hz, _, hcell, hw⟩
  · simp at hcs
    subst hcs
    exact ⟨[], SlAt.nil W⟩
  · simp at hcs
    subst hcs
    refine ⟨(zs.take l).map fun z => UInt8.ofNat z.toNat, ?_⟩
    have h := ints_row hl (by simpa using hz) hcell
    have e : ((zs.take l).map fun z => UInt8.ofNat z.toNat).map bv = (zs.take l).map fun z => Value.int .u8 z := by
      rw [List.map_map]
      apply List.map_congr_left
      intro z hz
      have := wf_u8 (hw z (List.mem_of_mem_take hz))
      show Value.int .u8 ((UInt8.ofNat z.toNat).toNat : Int) = _
      congr 1
      simp
      omega
    rw [e]; exact h
theorem open_data {fuel : Nat} {cs : List Value} {x : DataW H × List MemPlace} (hf : DataW.trod enc Tryz.prog W 0 (fun _ => true) true fuel 29 cs = some x) : ∃ d, DatArg W (.agg cs.toArray) d := by
  obtain ⟨k1, k2, k3, k4, k5, k6, _⟩ := cells3
  obtain ⟨xs, n, _, _, hl, hx, hfd⟩ := DataW.trod_struct Tryz.underlying29 hf
  rw [k6] at hl
  match cs, hl with
  | [c0, c1, c2, c3, c4], _ =>
  match xs, hx with
  | [y0, y1, y2, y3, y4], _ =>
  have h0 : DataW.trod enc Tryz.prog W 0 (fun _ => true) true n 3 (List.take (Tryz.prog.cellsOf 3) (List.drop 0 [c0, c1, c2, c3, c4])) = some y0 := hfd 0 _ rfl
  rw [k1] at h0
  replace h0 : DataW.trod enc Tryz.prog W 0 (fun _ => true) true n 3 [c0] = some y0 := h0
  have h1 : DataW.trod enc Tryz.prog W 0 (fun _ => true) true n 25 (List.take (Tryz.prog.cellsOf 25) (List.drop 1 [c0, c1, c2, c3, c4])) = some y1 := hfd 1 _ rfl
  rw [k2] at h1
  replace h1 : DataW.trod enc Tryz.prog W 0 (fun _ => true) true n 25 [c1] = some y1 := h1
  have h2 : DataW.trod enc Tryz.prog W 0 (fun _ => true) true n 26 (List.take (Tryz.prog.cellsOf 26) (List.drop 2 [c0, c1, c2, c3, c4])) = some y2 := hfd 2 _ rfl
  rw [k3] at h2
  replace h2 : DataW.trod enc Tryz.prog W 0 (fun _ => true) true n 26 [c2] = some y2 := h2
  have h3 : DataW.trod enc Tryz.prog W 0 (fun _ => true) true n 22 (List.take (Tryz.prog.cellsOf 22) (List.drop 3 [c0, c1, c2, c3, c4])) = some y3 := hfd 3 _ rfl
  rw [k4] at h3
  replace h3 : DataW.trod enc Tryz.prog W 0 (fun _ => true) true n 22 [c3] = some y3 := h3
  have h4 : DataW.trod enc Tryz.prog W 0 (fun _ => true) true n 27 (List.take (Tryz.prog.cellsOf 27) (List.drop 4 [c0, c1, c2, c3, c4])) = some y4 := hfd 4 _ rfl
  rw [k5] at h4
  replace h4 : DataW.trod enc Tryz.prog W 0 (fun _ => true) true n 27 [c4] = some y4 := h4
  obtain ⟨ty, e0, _, w0⟩ := DataW.trod_int Tryz.underlying3 h0
  obtain ⟨ns, n1, n2⟩ := open_nms h1
  obtain ⟨us, u1, u2⟩ := open_u32s h2
  obtain ⟨ts, t1⟩ := open_nm Tryz.underlying22 h3
  obtain ⟨rs, r1⟩ := open_u8s h4
  simp at e0
  subst e0
  exact ⟨⟨ty, ns, us, ts, rs⟩, ⟨c1, c2, c3, c4, rfl, n1, u1, t1.1, r1⟩, wf_i64 w0, n2, u2, t1.2.2⟩
/-- A law's row from its walk, over laid variables, the world's shape handed on. -/
theorem returnsInHanded_and_shaped {a : Assume} {C : Checked} {os : Os} {f : FuncId} {fn : Func} {s : ChangeSpec} {conds : List PathCond} {apart fresh handsOn again : Bool} {X : World → Array Value → Prop}
    (hX : ∀ (w w' : World) (args : Array Value), w.heap = w'.heap → X w args → X w' args)
    (own : ownKnob C.prog.godebug = none) (started : os.Started) (noInit : C.prog.inits.idxOf? f = none) (hfn : C.prog.funcs[f]? = some fn)
    (witness : ∃ (w : World) (tape : Tape) (i : Input), w.os = os ∧ (w.forCall tape i).Shaped C.prog ∧ i.vars = [] ∧ Input.okWide C.prog (w.forCall tape i) .any w.heap.size f i ∧
      ((s.pre enc C.prog fn conds apart (w.forCall tape i).memory i.args ∧ X (w.forCall tape i).memory i.args) ∧ sizedMet enc C.prog fn (OpenSpec.ofChange s) apart (w.forCall tape i).memory i.args) ∧ a.holds C.prog (lone (Frame.enter C.prog f i.args .normal) [] (w.forCall tape i)))
    (contract : ∀ (W : World) (base : Nat) (args : Array Value) (ds gs : List (DataW H)) (before : List MemPlace),
      (∀ (j : Nat) t v, fn.params[j]? = some t → args[j]? = some v → Value.okWide C.prog W .any base t v) →
      DataW.Whole enc C.prog fn.params.toList s.vars apart W args.toList ds gs before →
      conds.all (PathCond.test C.prog ⟨fn.params.toList, ds, s.plain.varTypes C.prog, gs⟩) = true →
      (DataW.weightsEach C.prog (fn.params.toList ++ s.plain.varTypes C.prog) (ds ++ gs)).all (· ≤ reachBytes) = true → X W args →
      W.ShapedOpen C.prog →
      a.holds C.prog (lone (Frame.enter C.prog f args .normal) [] W) →
      Calls C.prog f args W fun e W' => ∃ v, e = .returned v ∧ s.post enc C.prog fn apart fresh handsOn again W args v W') :
    ReturnsInHanded a C os f .any (fun w args => (s.pre enc C.prog fn conds apart w args ∧ X w args) ∧ sizedMet enc C.prog fn (OpenSpec.ofChange s) apart w args) (s.post enc C.prog fn apart fresh handsOn again) := by
  refine returnsInHanded_of_calls own started noInit witness ?_
  intro w tape i _ hsh _ hok hpre hholds
  obtain ⟨_, _, _, fn', hfn', _, _, _, _, hval⟩ := hok
  obtain rfl : fn' = fn := Option.some.inj (hfn'.symm.trans hfn)
  obtain ⟨⟨⟨ds, gs, before, hw, hc⟩, hx⟩, hz⟩ := hpre
  have hw' := DataW.Whole.of_heap (w' := w.forCall tape i) (by rfl) hw
  refine (contract (w.forCall tape i) w.heap.size i.args ds gs before hval hw' hc (hz.weights hw) (hX _ _ _ (by rfl) hx) hsh hholds).mono fun e W' ⟨v, he, hp⟩ => ?_
  subst he
  exact ChangeSpec.post_blind hp
theorem cellsRec : Tryz.prog.cellsOf 31 = 7 := by kernel_rfl
theorem open_rec {fuel : Nat} {cs : List Value} {x : DataW H × List MemPlace} (hf : DataW.trod enc Tryz.prog W 0 (fun _ => true) true fuel 31 cs = some x) : ∃ r, RcArg W cs r := by
  obtain ⟨k1, k2, k3, k4, k5, k6, k7, k8, k9, _⟩ := cells3
  obtain ⟨xs, n, _, _, hl, hx, hfd⟩ := DataW.trod_struct Tryz.underlying31 hf
  rw [cellsRec] at hl
  match cs, hl with
  | [c0, c1, c2, c3, c4, c5, c6], _ =>
  match xs, hx with
  | [y0, y1, y2], _ =>
  have h0 : DataW.trod enc Tryz.prog W 0 (fun _ => true) true n 23 (List.take (Tryz.prog.cellsOf 23) (List.drop 0 [c0, c1, c2, c3, c4, c5, c6])) = some y0 := hfd 0 _ rfl
  rw [k7] at h0
  replace h0 : DataW.trod enc Tryz.prog W 0 (fun _ => true) true n 23 [c0] = some y0 := h0
  have h1 : DataW.trod enc Tryz.prog W 0 (fun _ => true) true n 24 (List.take (Tryz.prog.cellsOf 24) (List.drop 1 [c0, c1, c2, c3, c4, c5, c6])) = some y1 := hfd 1 _ rfl
  rw [k9] at h1
  replace h1 : DataW.trod enc Tryz.prog W 0 (fun _ => true) true n 24 [c1] = some y1 := h1
  have h2 : DataW.trod enc Tryz.prog W 0 (fun _ => true) true n 29 (List.take (Tryz.prog.cellsOf 29) (List.drop 2 [c0, c1, c2, c3, c4, c5, c6])) = some y2 := hfd 2 _ rfl
  rw [k6] at h2
  replace h2 : DataW.trod enc Tryz.prog W 0 (fun _ => true) true n 29 [c2, c3, c4, c5, c6] = some y2 := h2
  obtain ⟨o, o1⟩ := open_nm Tryz.underlying23 h0
  obtain ⟨t, e1, _, w1⟩ := DataW.trod_int Tryz.underlying24 h1
  obtain ⟨d, hd⟩ := open_data h2
  simp at e1
  subst e1
  have ht := wf_u32 w1
  obtain ⟨vn, vu, vt, vr, e, hh⟩ := hd.1
  have e' : [c2, c3, c4, c5, c6] = [Value.int .i64 d.ty, vn, vu, vt, vr] := by
    have : [c2, c3, c4, c5, c6].toArray = #[Value.int .i64 d.ty, vn, vu, vt, vr] := by injection e
    exact congrArg Array.toList this
  simp only [List.cons.injEq, and_true] at e'
  obtain ⟨rfl, rfl, rfl, rfl, rfl⟩ := e'
  refine ⟨⟨o, t.toNat, d⟩, _, _, _, _, _, ?_, o1, hd, by show t.toNat < 2 ^ 32; omega⟩
  show [_, Value.int .u32 t, _, _, _, _, _] = [_, Value.int .u32 ((t.toNat : Nat) : Int), _, _, _, _, _]
  rw [Int.toNat_of_nonneg ht.1]
theorem flatten_at (k : Nat) (k0 : 0 < k) : ∀ (l : List (List Value)), (∀ cs ∈ l, cs.length = k) → ∀ (t : Nat) (u : Value), l.flatten[t]? = some u → ∃ h : t / k < l.length, (l[t / k])[t % k]? = some u
  | [], _, t, u, h => by simp at h
  | x :: r, hk, t, u, h => by
    have hx := hk x (by simp)
    rw [List.flatten_cons] at h
    by_cases ht : t < k
    · rw [List.getElem?_append_left (by omega)] at h
      have e0 : t / k = 0 := Nat.div_eq_of_lt ht
      have e1 : t % k = t := Nat.mod_eq_of_lt ht
      refine ⟨by rw [e0]; simp, ?_⟩
      simp only [e0, e1, List.getElem_cons_zero]
      exact h
    · rw [List.getElem?_append_right (by omega), hx] at h
      obtain ⟨h1, h2⟩ := flatten_at k k0 r (fun cs hc => hk cs (by simp [hc])) (t - k) u h
      have e0 : t / k = (t - k) / k + 1 := by
        rw [Nat.div_eq_sub_div k0 (by omega)]
      have e1 : t % k = (t - k) % k := by
        rw [Nat.mod_eq_sub_mod (by omega)]
      refine ⟨by rw [e0]; simpa using h1, ?_⟩
      simp only [e0, e1, List.getElem_cons_succ]
      exact h2
instance inhRec : Inhabited (List Value × Rc) := ⟨([], Rc.none)⟩
theorem open_recs {fuel : Nat} {v : Value} {x : DataW H × List MemPlace} (hf : DataW.trod enc Tryz.prog W 0 (fun _ => true) true fuel 34 [v] = some x) :
    ∃ (css : List (List Value)) (l : List Rc), SlK W v css ∧ css.length = l.length ∧ ∀ i (h1 : i < css.length) (h2 : i < l.length), RcArg W css[i] l[i] := by
  rcases Go.Deep.open_slice Tryz.underlying34 hf with ⟨hcs, _⟩ | ⟨a, len, cap, m, n, D, Pl, hcs, _, hl, hm, hmm, _, hV⟩
  · simp at hcs
    subst hcs
    exact ⟨[], [], SlK.nil W, rfl, fun i h1 => absurd h1 (Nat.not_lt_zero _)⟩
  · simp at hcs
    subst hcs
    simp only [if_true] at hmm
    subst hmm
    rw [cellsRec] at hV
    obtain ⟨F, hF⟩ := Go.Deep.choose_lt (α := List Value × Rc) (p := fun i z => W.cells? 0 (a.add (i * 7)) 7 = some z.1 ∧ RcArg W z.1 z.2) (fun i hi => by
      obtain ⟨cs', h1, h2⟩ := hV i hi
      obtain ⟨r, hr⟩ := open_rec h2
      exact ⟨(cs', r), h1, hr⟩)
    have hlen : ∀ i, i < len → (F i).1.length = 7 := fun i hi => (World.cells?_some (hF i (by omega)).1).2.1
    refine ⟨(List.range len).map fun i => (F i).1, (List.range len).map fun i => (F i).2, ⟨some a, m, by simp, by simpa using hl, (fun e => by cases e), ?_⟩, by simp, fun i h1 h2 => ?_⟩
    · by_cases h0 : len = 0
      · subst h0; left; rfl
      · right
        obtain ⟨b, off, spot⟩ := a
        have hc0 := (World.cells?_some (hF 0 (by omega)).1).2.2 0 (by omega)
        rw [List.getElem?_eq_getElem (by rw [hlen 0 (by omega)]; omega)] at hc0
        have hspot : spot = none := by simpa [Addr.add] using World.cell?_spot hc0
        subst hspot
        have hb : b < W.heap.size := World.block_lt_of_cell? W _ (by simpa [Addr.add] using hc0 : W.cell? ⟨b, off, none⟩ = some _)
        refine ⟨b, off, rfl, hb, fun j u hj => ?_⟩
        obtain ⟨h1, h2⟩ := flatten_at 7 (by omega) _ (fun cs hc => by
          obtain ⟨i, hi, rfl⟩ := List.mem_map.1 hc
          exact hlen i (List.mem_range.1 hi)) j u hj
        have hi : j / 7 < len := by simpa using h1
        rw [List.getElem_map, List.getElem_range] at h2
        have hd : j % 7 < 7 := Nat.mod_lt _ (by omega)
        have hc := (World.cells?_some (hF (j / 7) (by omega)).1).2.2 (j % 7) hd
        rw [h2] at hc
        rw [Addr.add_lit, Addr.add_lit, show off + j / 7 * 7 + j % 7 = off + j by omega] at hc
        exact hc
    · simp only [List.length_map, List.length_range] at h1
      simpa using (hF i (by omega)).2
end Go.Proofs.YtfcdajldpnomfaaGreatDoor

