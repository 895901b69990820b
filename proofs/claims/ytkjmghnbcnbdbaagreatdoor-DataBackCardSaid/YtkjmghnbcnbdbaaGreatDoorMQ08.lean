/-
  law4.known holds. (Written by wip/tools/gen10.py.)
-/
import Derived.Test.YtkjmghnbcnbdbaaGreatDoorMQ37
namespace Go.Proofs.YtkjmghnbcnbdbaaGreatDoor
open Go.RowKit Go.Shelf
set_option maxRecDepth 20000
def Box (W : World) (g : Nat) (cs : Array Value) : Prop := W.heap[g]? = some (.cells cs 27)
theorem Box.below {W W' : World} {g : Nat} {cs : Array Value} (h : Box W g cs) (hb : Below W.heap.size W W') : Box W' g cs := (hb.block g (block_lt h)).trans h
theorem Box.alloc {W : World} {g : Nat} {cs : Array Value} (h : Box W g cs) (o : Obj) : Box (W.alloc o) g cs := h.below ((Below.refl _ W).alloc (Nat.le_refl _) o)
theorem Box.new (W : World) (cs : Array Value) : Box (W.alloc (.cells cs 27)) W.heap.size cs := block_new W _
theorem DatAt.alloc {W : World} {v : Value} {d : Dat} (h : DatAt W v d) (o : Obj) : DatAt (W.alloc o) v d := h.below ((Below.refl _ W).alloc (Nat.le_refl _) o)
theorem datRaw {W : World} {v1 v2 v3 : Value} {a4 : Option Addr} {n c4 : Nat} (h : DatAt W (.agg #[.int .i64 1, v1, v2, v3, .slice a4 n c4]) knA) : ∃ b off, a4 = some ⟨b, off, none⟩ ∧ W.cell? ⟨b, off + 3, none⟩ = some (.int .u8 7) ∧ b < W.heap.size := by
  obtain ⟨vn, vu, vt, vr, e, _, _, _, h4⟩ := h
  injection e with e
  obtain ⟨a, c, rfl, _, _, h⟩ := h4
  rcases h with h | ⟨b, off, rfl, hlt, hc⟩
  · simp [knA] at h
  · refine ⟨b, off, ?_, ?_, hlt⟩
    · simp only [Array.mk.injEq, List.cons.injEq, Value.slice.injEq] at e; exact e.2.2.2.2.1.1
    · exact hc 3 (by simp [knA])
set_option maxRecDepth 100000 in
set_option maxHeartbeats 16000000 in
theorem law4_known (w : World) (hT : Tab w) (hM : MaxC w) :
    Calls Tryz.prog 7 #[] w fun e w' => e = .returned (.bool true) ∧ Below w.heap.size w w' := by
  have HT := Lib.hid hT
  have HMx := Lib.hid hM
  clear hT hM
  go_enter Tryz.func7, Tryz.ntmps7
  go_wp2_with fail
  have bk0 := ((Below.refl w.heap.size w)).alloc ((Below.refl w.heap.size w)).size (.cells #[.string ⟨#[49, 48, 46, 48, 46, 48, 46, 55]⟩, .bool false] 52)
  have bc1 := bk0
  refine (kn_Parse 1 _ [] knA 0 0 0 0 4 kp1 rfl rfl rfl rfl 1 rfl _ _ _ (wds_lit _ _ [.string ⟨#[49, 48, 46, 48, 46, 48, 46, 55]⟩, .bool false] 1 _ rfl rfl (by simp)) (nm_nil _) (HMx.out.below bc1) ⟨by decide, by decide⟩ (by decide) ⟨by decide, by decide⟩ (by decide)).mono ?_
  rintro e w1 ⟨a11, c11, a12, c12, a13, c13, a14, c14, rfl, D1, hb⟩
  have B1 := bc1.trans (hb.mono bc1.size)
  clear hb bc1 bk0
  go_wp2_with fail
  have bk0 := (B1).alloc (B1).size (.cells #[.int .i64 1, .slice a11 0 c11, .slice a12 0 c12, .slice a13 0 c13, .slice a14 4 c14] 27)
  have bk1 := (bk0).alloc (bk0).size (.cells #[.string ⟨#[53]⟩, .bool false, .string ⟨#[120]⟩, .bool false] 52)
  have bk2 := (bk1).alloc (bk1).size (.cells #[.string ⟨#[111]⟩] 9)
  have bc2 := bk2
  refine (kn_Parse 15 _ [[111]] knM 0 1 1 0 0 kp2 rfl rfl rfl rfl 15 rfl _ _ _ ((wds_lit _ _ [.string ⟨#[53]⟩, .bool false, .string ⟨#[120]⟩, .bool false] 2 _ rfl rfl (by simp)).below ((Below.refl _ _).alloc (Nat.le_refl _) _)) (nm_lit _ [[111]] [.string ⟨#[111]⟩] 1 _ rfl rfl (by decide) (by simp)) (HMx.out.below bc2) ⟨by decide, by decide⟩ (by decide) ⟨by decide, by decide⟩ (by decide)).mono ?_
  rintro e w2 ⟨a21, c21, a22, c22, a23, c23, a24, c24, rfl, D2, hb⟩
  have B2 := bc2.trans (hb.mono bc2.size)
  have X1_2 := ((((Box.new w1 #[.int .i64 1, .slice a11 0 c11, .slice a12 0 c12, .slice a13 0 c13, .slice a14 4 c14])).alloc (.cells #[.string ⟨#[53]⟩, .bool false, .string ⟨#[120]⟩, .bool false] 52)).alloc (.cells #[.string ⟨#[111]⟩] 9)).below hb
  have D1_2 := ((((D1).alloc (.cells #[.int .i64 1, .slice a11 0 c11, .slice a12 0 c12, .slice a13 0 c13, .slice a14 4 c14] 27)).alloc (.cells #[.string ⟨#[53]⟩, .bool false, .string ⟨#[120]⟩, .bool false] 52)).alloc (.cells #[.string ⟨#[111]⟩] 9)).below hb
  clear hb bc2 B1 D1 bk0 bk1 bk2
  go_wp2_with fail
  have bk0 := (B2).alloc (B2).size (.cells #[.int .i64 15, .slice a21 1 c21, .slice a22 1 c22, .slice a23 0 c23, .slice a24 0 c24] 27)
  have bk1 := (bk0).alloc (bk0).size (.cells #[.string ⟨#[92, 35]⟩, .bool false, .string ⟨#[50]⟩, .bool false, .string ⟨#[48, 65]⟩, .bool false, .string ⟨#[102, 102]⟩, .bool false] 52)
  have bc3 := bk1
  refine (kn_Parse 99 _ [] knU 0 0 0 0 2 kp3 rfl rfl rfl rfl 99 rfl _ _ _ (wds_lit _ _ [.string ⟨#[92, 35]⟩, .bool false, .string ⟨#[50]⟩, .bool false, .string ⟨#[48, 65]⟩, .bool false, .string ⟨#[102, 102]⟩, .bool false] 4 _ rfl rfl (by simp)) (nm_nil _) (HMx.out.below bc3) ⟨by decide, by decide⟩ (by decide) ⟨by decide, by decide⟩ (by decide)).mono ?_
  rintro e w3 ⟨a31, c31, a32, c32, a33, c33, a34, c34, rfl, D3, hb⟩
  have B3 := bc3.trans (hb.mono bc3.size)
  have X1_3 := (((X1_2).alloc (.cells #[.int .i64 15, .slice a21 1 c21, .slice a22 1 c22, .slice a23 0 c23, .slice a24 0 c24] 27)).alloc (.cells #[.string ⟨#[92, 35]⟩, .bool false, .string ⟨#[50]⟩, .bool false, .string ⟨#[48, 65]⟩, .bool false, .string ⟨#[102, 102]⟩, .bool false] 52)).below hb
  have D1_3 := (((D1_2).alloc (.cells #[.int .i64 15, .slice a21 1 c21, .slice a22 1 c22, .slice a23 0 c23, .slice a24 0 c24] 27)).alloc (.cells #[.string ⟨#[92, 35]⟩, .bool false, .string ⟨#[50]⟩, .bool false, .string ⟨#[48, 65]⟩, .bool false, .string ⟨#[102, 102]⟩, .bool false] 52)).below hb
  have X2_3 := (((Box.new w2 #[.int .i64 15, .slice a21 1 c21, .slice a22 1 c22, .slice a23 0 c23, .slice a24 0 c24])).alloc (.cells #[.string ⟨#[92, 35]⟩, .bool false, .string ⟨#[50]⟩, .bool false, .string ⟨#[48, 65]⟩, .bool false, .string ⟨#[102, 102]⟩, .bool false] 52)).below hb
  have D2_3 := (((D2).alloc (.cells #[.int .i64 15, .slice a21 1 c21, .slice a22 1 c22, .slice a23 0 c23, .slice a24 0 c24] 27)).alloc (.cells #[.string ⟨#[92, 35]⟩, .bool false, .string ⟨#[50]⟩, .bool false, .string ⟨#[48, 65]⟩, .bool false, .string ⟨#[102, 102]⟩, .bool false] 52)).below hb
  clear hb bc3 B2 X1_2 D1_2 D2 bk0 bk1
  go_wp2_with fail
  have bk0 := (B3).alloc (B3).size (.cells #[.int .i64 99, .slice a31 0 c31, .slice a32 0 c32, .slice a33 0 c33, .slice a34 2 c34] 27)
  have bk1 := (bk0).alloc (bk0).size (.cells #[.string ⟨#[50, 53, 54, 46, 48, 46, 48, 46, 49]⟩, .bool false] 52)
  have bc4 := bk1
  refine (kn_Parse 1 _ [] Dat.none 7 0 0 0 0 kp4 rfl rfl rfl rfl 0 rfl _ _ _ (wds_lit _ _ [.string ⟨#[50, 53, 54, 46, 48, 46, 48, 46, 49]⟩, .bool false] 1 _ rfl rfl (by simp)) (nm_nil _) (HMx.out.below bc4) ⟨by decide, by decide⟩ (by decide) ⟨by decide, by decide⟩ (by decide)).mono ?_
  rintro e w4 ⟨a41, c41, a42, c42, a43, c43, a44, c44, rfl, D4, hb⟩
  have B4 := bc4.trans (hb.mono bc4.size)
  have X1_4 := (((X1_3).alloc (.cells #[.int .i64 99, .slice a31 0 c31, .slice a32 0 c32, .slice a33 0 c33, .slice a34 2 c34] 27)).alloc (.cells #[.string ⟨#[50, 53, 54, 46, 48, 46, 48, 46, 49]⟩, .bool false] 52)).below hb
  have D1_4 := (((D1_3).alloc (.cells #[.int .i64 99, .slice a31 0 c31, .slice a32 0 c32, .slice a33 0 c33, .slice a34 2 c34] 27)).alloc (.cells #[.string ⟨#[50, 53, 54, 46, 48, 46, 48, 46, 49]⟩, .bool false] 52)).below hb
  have X2_4 := (((X2_3).alloc (.cells #[.int .i64 99, .slice a31 0 c31, .slice a32 0 c32, .slice a33 0 c33, .slice a34 2 c34] 27)).alloc (.cells #[.string ⟨#[50, 53, 54, 46, 48, 46, 48, 46, 49]⟩, .bool false] 52)).below hb
  have D2_4 := (((D2_3).alloc (.cells #[.int .i64 99, .slice a31 0 c31, .slice a32 0 c32, .slice a33 0 c33, .slice a34 2 c34] 27)).alloc (.cells #[.string ⟨#[50, 53, 54, 46, 48, 46, 48, 46, 49]⟩, .bool false] 52)).below hb
  have X3_4 := (((Box.new w3 #[.int .i64 99, .slice a31 0 c31, .slice a32 0 c32, .slice a33 0 c33, .slice a34 2 c34])).alloc (.cells #[.string ⟨#[50, 53, 54, 46, 48, 46, 48, 46, 49]⟩, .bool false] 52)).below hb
  have D3_4 := (((D3).alloc (.cells #[.int .i64 99, .slice a31 0 c31, .slice a32 0 c32, .slice a33 0 c33, .slice a34 2 c34] 27)).alloc (.cells #[.string ⟨#[50, 53, 54, 46, 48, 46, 48, 46, 49]⟩, .bool false] 52)).below hb
  clear hb bc4 B3 X1_3 D1_3 X2_3 D2_3 D3 bk0 bk1
  go_wp2_with fail
  have bk0 := (B4).alloc (B4).size (.cells #[.int .i64 0, .slice a41 0 c41, .slice a42 0 c42, .slice a43 0 c43, .slice a44 0 c44] 27)
  have bk1 := (bk0).alloc (bk0).size (.cells #[.string ⟨#[97, 92, 34, 98]⟩, .bool true] 52)
  have bc5 := bk1
  refine (kn_Parse 16 _ [] knT 0 0 0 1 0 kp5 rfl rfl rfl rfl 16 rfl _ _ _ (wds_lit _ _ [.string ⟨#[97, 92, 34, 98]⟩, .bool true] 1 _ rfl rfl (by simp)) (nm_nil _) (HMx.out.below bc5) ⟨by decide, by decide⟩ (by decide) ⟨by decide, by decide⟩ (by decide)).mono ?_
  rintro e w5 ⟨a51, c51, a52, c52, a53, c53, a54, c54, rfl, D5, hb⟩
  have B5 := bc5.trans (hb.mono bc5.size)
  have X1_5 := (((X1_4).alloc (.cells #[.int .i64 0, .slice a41 0 c41, .slice a42 0 c42, .slice a43 0 c43, .slice a44 0 c44] 27)).alloc (.cells #[.string ⟨#[97, 92, 34, 98]⟩, .bool true] 52)).below hb
  have D1_5 := (((D1_4).alloc (.cells #[.int .i64 0, .slice a41 0 c41, .slice a42 0 c42, .slice a43 0 c43, .slice a44 0 c44] 27)).alloc (.cells #[.string ⟨#[97, 92, 34, 98]⟩, .bool true] 52)).below hb
  have X2_5 := (((X2_4).alloc (.cells #[.int .i64 0, .slice a41 0 c41, .slice a42 0 c42, .slice a43 0 c43, .slice a44 0 c44] 27)).alloc (.cells #[.string ⟨#[97, 92, 34, 98]⟩, .bool true] 52)).below hb
  have D2_5 := (((D2_4).alloc (.cells #[.int .i64 0, .slice a41 0 c41, .slice a42 0 c42, .slice a43 0 c43, .slice a44 0 c44] 27)).alloc (.cells #[.string ⟨#[97, 92, 34, 98]⟩, .bool true] 52)).below hb
  have X3_5 := (((X3_4).alloc (.cells #[.int .i64 0, .slice a41 0 c41, .slice a42 0 c42, .slice a43 0 c43, .slice a44 0 c44] 27)).alloc (.cells #[.string ⟨#[97, 92, 34, 98]⟩, .bool true] 52)).below hb
  have D3_5 := (((D3_4).alloc (.cells #[.int .i64 0, .slice a41 0 c41, .slice a42 0 c42, .slice a43 0 c43, .slice a44 0 c44] 27)).alloc (.cells #[.string ⟨#[97, 92, 34, 98]⟩, .bool true] 52)).below hb
  have X4_5 := (((Box.new w4 #[.int .i64 0, .slice a41 0 c41, .slice a42 0 c42, .slice a43 0 c43, .slice a44 0 c44])).alloc (.cells #[.string ⟨#[97, 92, 34, 98]⟩, .bool true] 52)).below hb
  have D4_5 := (((D4).alloc (.cells #[.int .i64 0, .slice a41 0 c41, .slice a42 0 c42, .slice a43 0 c43, .slice a44 0 c44] 27)).alloc (.cells #[.string ⟨#[97, 92, 34, 98]⟩, .bool true] 52)).below hb
  clear hb bc5 B4 X1_4 D1_4 X2_4 D2_4 X3_4 D3_4 D4 bk0 bk1
  have hb0 : Below w5.heap.size w5 (w5.alloc (.cells #[.int .i64 16, .slice a51 0 c51, .slice a52 0 c52, .slice a53 1 c53, .slice a54 0 c54] 27)) := (Below.refl _ w5).alloc (Nat.le_refl _) _
  have X1 := (X1_5).below hb0
  have E1 := (D1_5).below hb0
  have X2 := (X2_5).below hb0
  have E2 := (D2_5).below hb0
  have X3 := (X3_5).below hb0
  have E3 := (D3_5).below hb0
  have X4 := (X4_5).below hb0
  have E4 := (D4_5).below hb0
  have X5 := Box.new w5 #[.int .i64 16, .slice a51 0 c51, .slice a52 0 c52, .slice a53 1 c53, .slice a54 0 c54]
  have E5 := (D5).below hb0
  have Bz := B5.trans (hb0.mono B5.size)
  obtain ⟨b, off, hbo, hcell, hblt⟩ := datRaw E1
  subst hbo
  clear hb0 B5 X1_5 D1_5 X2_5 D2_5 X3_5 D3_5 X4_5 D4_5  D5
  obtain ⟨p10, p11, p12, p13, p14⟩ := cells5 X1
  obtain ⟨p20, p21, p22, p23, p24⟩ := cells5 X2
  obtain ⟨p30, p31, p32, p33, p34⟩ := cells5 X3
  obtain ⟨p50, p51, p52, p53, p54⟩ := cells5 X5
  go_wp2_with fail
  generalize (w5.alloc (.cells #[.int .i64 16, .slice a51 0 c51, .slice a52 0 c52, .slice a53 1 c53, .slice a54 0 c54] 27)) = Wz at *
  refine (kn_Text knA _ kt1 (by decide) knA_few _ _ E1 (HT.out.below Bz)).mono ?_
  clear p10 p11 p12 p13 p14 p20 p21 p22 p23 p24 p30 p31 p32 p33 p34 p50 p51 p52 p53 p54 hcell
  rintro e wr ⟨rfl, hb⟩
  replace Bz := Bz.trans (hb.mono Bz.size)
  replace X1 := X1.below hb
  replace E1 := E1.below hb
  replace X2 := X2.below hb
  replace E2 := E2.below hb
  replace X3 := X3.below hb
  replace E3 := E3.below hb
  replace X5 := X5.below hb
  replace E5 := E5.below hb
  clear hb
  obtain ⟨p10, p11, p12, p13, p14⟩ := cells5 X1
  obtain ⟨p20, p21, p22, p23, p24⟩ := cells5 X2
  obtain ⟨p30, p31, p32, p33, p34⟩ := cells5 X3
  obtain ⟨p50, p51, p52, p53, p54⟩ := cells5 X5
  go_wp2_with fail
  refine (kn_Text knM _ kt2 (by decide) knM_few _ _ E2 (HT.out.below Bz)).mono ?_
  clear p10 p11 p12 p13 p14 p20 p21 p22 p23 p24 p30 p31 p32 p33 p34 p50 p51 p52 p53 p54
  rintro e wr ⟨rfl, hb⟩
  replace Bz := Bz.trans (hb.mono Bz.size)
  replace X1 := X1.below hb
  replace E1 := E1.below hb
  replace X2 := X2.below hb
  replace E2 := E2.below hb
  replace X3 := X3.below hb
  replace E3 := E3.below hb
  replace X5 := X5.below hb
  replace E5 := E5.below hb
  clear hb
  obtain ⟨p10, p11, p12, p13, p14⟩ := cells5 X1
  obtain ⟨p20, p21, p22, p23, p24⟩ := cells5 X2
  obtain ⟨p30, p31, p32, p33, p34⟩ := cells5 X3
  obtain ⟨p50, p51, p52, p53, p54⟩ := cells5 X5
  go_wp2_with fail
  refine (kn_Text knU _ kt3 (by decide) knU_few _ _ E3 (HT.out.below Bz)).mono ?_
  clear p10 p11 p12 p13 p14 p20 p21 p22 p23 p24 p30 p31 p32 p33 p34 p50 p51 p52 p53 p54
  rintro e wr ⟨rfl, hb⟩
  replace Bz := Bz.trans (hb.mono Bz.size)
  replace X1 := X1.below hb
  replace E1 := E1.below hb
  replace X2 := X2.below hb
  replace E2 := E2.below hb
  replace X3 := X3.below hb
  replace E3 := E3.below hb
  replace X5 := X5.below hb
  replace E5 := E5.below hb
  clear hb
  obtain ⟨p10, p11, p12, p13, p14⟩ := cells5 X1
  obtain ⟨p20, p21, p22, p23, p24⟩ := cells5 X2
  obtain ⟨p30, p31, p32, p33, p34⟩ := cells5 X3
  obtain ⟨p50, p51, p52, p53, p54⟩ := cells5 X5
  go_wp2_with fail
  refine (kn_Text knT _ kt4 (by decide) knT_few _ _ E5 (HT.out.below Bz)).mono ?_
  clear p10 p11 p12 p13 p14 p20 p21 p22 p23 p24 p30 p31 p32 p33 p34 p50 p51 p52 p53 p54
  rintro e wr ⟨rfl, hb⟩
  replace Bz := Bz.trans (hb.mono Bz.size)
  replace X1 := X1.below hb
  replace E1 := E1.below hb
  replace X2 := X2.below hb
  replace E2 := E2.below hb
  replace X3 := X3.below hb
  replace E3 := E3.below hb
  replace X5 := X5.below hb
  replace E5 := E5.below hb
  clear hb
  obtain ⟨p10, p11, p12, p13, p14⟩ := cells5 X1
  obtain ⟨p20, p21, p22, p23, p24⟩ := cells5 X2
  obtain ⟨p30, p31, p32, p33, p34⟩ := cells5 X3
  obtain ⟨p50, p51, p52, p53, p54⟩ := cells5 X5
  go_wp2_with fail
  refine (kn_Check knA _ kc1 knA_ok _ _ E1).mono ?_
  clear p10 p11 p12 p13 p14 p20 p21 p22 p23 p24 p30 p31 p32 p33 p34 p50 p51 p52 p53 p54
  rintro e wr ⟨rfl, hb⟩
  replace Bz := Bz.trans (hb.mono Bz.size)
  replace X1 := X1.below hb
  replace E1 := E1.below hb
  replace X2 := X2.below hb
  replace E2 := E2.below hb
  replace X3 := X3.below hb
  replace E3 := E3.below hb
  replace X5 := X5.below hb
  replace E5 := E5.below hb
  clear hb
  obtain ⟨p10, p11, p12, p13, p14⟩ := cells5 X1
  obtain ⟨p20, p21, p22, p23, p24⟩ := cells5 X2
  obtain ⟨p30, p31, p32, p33, p34⟩ := cells5 X3
  obtain ⟨p50, p51, p52, p53, p54⟩ := cells5 X5
  go_wp2_with fail
  refine (kn_Same knM knM _ ks1 knM_ok knM_ok _ _ _ E2 E2).mono ?_
  clear p10 p11 p12 p13 p14 p20 p21 p22 p23 p24 p30 p31 p32 p33 p34 p50 p51 p52 p53 p54
  rintro e wr ⟨rfl, hb⟩
  replace Bz := Bz.trans (hb.mono Bz.size)
  replace X1 := X1.below hb
  replace E1 := E1.below hb
  replace X2 := X2.below hb
  replace E2 := E2.below hb
  replace X3 := X3.below hb
  replace E3 := E3.below hb
  replace X5 := X5.below hb
  replace E5 := E5.below hb
  clear hb
  obtain ⟨p10, p11, p12, p13, p14⟩ := cells5 X1
  obtain ⟨p20, p21, p22, p23, p24⟩ := cells5 X2
  obtain ⟨p30, p31, p32, p33, p34⟩ := cells5 X3
  obtain ⟨p50, p51, p52, p53, p54⟩ := cells5 X5
  go_wp2_with fail
  refine (kn_Same knA knM _ ks2 knA_ok knM_ok _ _ _ E1 E2).mono ?_
  clear p10 p11 p12 p13 p14 p20 p21 p22 p23 p24 p30 p31 p32 p33 p34 p50 p51 p52 p53 p54
  rintro e wr ⟨rfl, hb⟩
  replace Bz := Bz.trans (hb.mono Bz.size)
  replace X1 := X1.below hb
  replace E1 := E1.below hb
  replace X2 := X2.below hb
  replace E2 := E2.below hb
  replace X3 := X3.below hb
  replace E3 := E3.below hb
  replace X5 := X5.below hb
  replace E5 := E5.below hb
  clear hb
  obtain ⟨p10, p11, p12, p13, p14⟩ := cells5 X1
  obtain ⟨p20, p21, p22, p23, p24⟩ := cells5 X2
  obtain ⟨p30, p31, p32, p33, p34⟩ := cells5 X3
  obtain ⟨p50, p51, p52, p53, p54⟩ := cells5 X5
  go_wp2_with fail
  refine (kn_Compare knA knM _ kc2 knA_ok knM_ok _ _ _ E1 E2).mono ?_
  clear p10 p11 p12 p13 p14 p20 p21 p22 p23 p24 p30 p31 p32 p33 p34 p50 p51 p52 p53 p54
  rintro e wr ⟨rfl, hb⟩
  replace Bz := Bz.trans (hb.mono Bz.size)
  replace X1 := X1.below hb
  replace E1 := E1.below hb
  replace X2 := X2.below hb
  replace E2 := E2.below hb
  replace X3 := X3.below hb
  replace E3 := E3.below hb
  replace X5 := X5.below hb
  replace E5 := E5.below hb
  clear hb
  go_wp2
  go_ret
  exact ⟨rfl, Bz⟩
end Go.Proofs.YtkjmghnbcnbdbaaGreatDoor

