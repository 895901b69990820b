/-
  law25.few: whether a report is short. (Written by wip/tools/genrepf.py.)
-/
import Derived.Test.YtbnkecmhmcligaaDoorRepA
import Derived.Test.YtbnkecmhmcligaaDoorMQ13
import Derived.Deep.DeepCutAuto
import Derived.Deep.CutBlock
namespace Go.Proofs.YtbnkecmhmcligaaDoor
open Go.RowKit Go.Shelf
set_option maxRecDepth 20000
set_option linter.unusedVariables false
set_option linter.unusedSimpArgs false
theorem fewN_w {n : Nm} (h : fewN n = true) : NmW n := ⟨fewN_ok h, by
  have h9 : (textN n).length ≤ 500000 := by
    have h2 := of_decide_eq_true h
    unfold textN
    split
    · simp
    · have : ∀ m : Nm, (∀ x ∈ m, x.length ≤ 100) → (m.flatMap fun x => textL x ++ [46]).length ≤ m.length * 401 := by
        intro m
        induction m with
        | nil => simp
        | cons x r ih =>
          intro hm
          have h3 := textL_le x
          have h4 := hm x (by simp)
          have h5 := ih (fun y hy => hm y (by simp [hy]))
          simp only [List.flatMap_cons, List.length_append, List.length_cons, List.length_nil] at h5 ⊢
          omega
      have h6 := this n h2.2
      have h7 := h2.1
      omega

  omega⟩
structure RpMax (r : Rp) : Prop where
  flaws : ∀ f ∈ r.flaws, NmMax f.owner
  edges : ∀ f ∈ r.edges, NmMax f.par ∧ NmMax f.chi ∧ NmMax f.host
  seen : ∀ f ∈ r.seen, NmMax f.nm
def okE (f : Ft) : Prop := FtOK f ∧ 0 ≤ f.line ∧ f.line ≤ 4611686018427387904
def okF (f : Fw) : Prop := FwOK f ∧ 0 ≤ f.ty ∧ f.ty ≤ 65535
def okD (f : Ed) : Prop := EdOK f ∧ 0 ≤ f.srv ∧ f.srv ≤ 4611686018427387904
def okS (f : Sn) : Prop := SnOK f ∧ (0 ≤ f.ty ∧ f.ty ≤ 65535) ∧ f.picks.length ≤ 1000 ∧ ∀ p ∈ f.picks, 0 ≤ p ∧ p ≤ 4611686018427387904
def AllUp {α : Type} (p : α → Prop) (l : List α) (k : Nat) : Prop := ∀ j (h : j < l.length), j < k → p l[j]
theorem AllUp.zero {α : Type} (p : α → Prop) (l : List α) : AllUp p l 0 := fun j h h2 => absurd h2 (Nat.not_lt_zero _)
theorem AllUp.succ {α : Type} {p : α → Prop} {l : List α} {k : Nat} (h : AllUp p l k) (hk : k < l.length) (hx : p l[k]) : AllUp p l (k + 1) := fun j hj h2 => by
  by_cases e : j = k
  · subst e; exact hx
  · exact h j hj (by omega)
theorem AllUp.all {α : Type} {p : α → Prop} {l : List α} {n : Nat} (h : AllUp p l n) (hn : l.length = n) : ∀ x ∈ l, p x := fun x hx => by
  obtain ⟨j, hj, rfl⟩ := List.mem_iff_getElem.1 hx
  exact h j hj (by omega)
def FewPost (w : World) (r : Rp) (e : Ending) (w' : World) : Prop := ∃ b, e = .returned (.bool b) ∧ (b = true → RpF r) ∧ Below w.heap.size w w'
theorem FewPost.no {w w' : World} {r : Rp} (h : Below w.heap.size w w') : FewPost w r (.returned (.bool false)) w' := ⟨false, rfl, fun h => (by cases h), h⟩
/-- Where the region n stands first. -/
def leftAtC : Code → Option Nat
  | .region id _ _ => some id
  | .seq a _ => leftAtC a
  | _ => none
def tailAtC (n : Nat) : Code → Option Code
  | .seq a b => if leftAtC a = some n then some (.seq a b) else (tailAtC n a).or (tailAtC n b)
  | .scope c => tailAtC n c
  | .block _ c => tailAtC n c
  | .loop c => tailAtC n c
  | _ => none
noncomputable def fewTail19 : Code := (Tryd.f6.body.bind (tailAtC 19)).getD .skip
section
set_option maxRecDepth 1000000 in
set_option maxHeartbeats 400000000 in
theorem few_t19 {w W0 W5 : World} {ae af ad asx : Option Addr} {nE nF nD nS ce cf cd cs0 RB : Nat} {er0 : Int} {r : Rp} (HA : Hid (RpAt w (.slice ae nE ce) (.slice af nF cf) (.slice ad nD cd) (.slice asx nS cs0) r)) (HMX : Hid (RpMax r)) (HER : Hid (r.err = er0)) (HNE : Hid (r.errs.length = nE)) (HNF : Hid (r.flaws.length = nF)) (HND : Hid (r.edges.length = nD)) (HNS : Hid (r.seen.length = nS)) (HB0 : Hid (Below w.heap.size w W0)) (HRB : Hid (W0.heap[RB]? = some (.cells #[.slice ae nE ce, .slice af nF cf, .slice ad nD cd, .slice asx nS cs0, .int .i64 er0] 30))) (bE' : (nE : Int) ≤ 10) (bF' : (nF : Int) ≤ 10) (bD' : (nD : Int) ≤ 10) (bS' : (nS : Int) ≤ 10) (HQE : Hid (∀ x ∈ r.errs, okE x)) (HQF : Hid (∀ x ∈ r.flaws, okF x)) (HQD : Hid (∀ x ∈ r.edges, okD x)) (HBP : Hid (Below W0.heap.size W0 W5)) (x0 x2 x3 x4 x5 x6 x7 x8 x9 x10 x11 x12 x13 x14 x15 x16 x17 x18 x19 x20 x21 x22 x23 x24 x25 x26 x27 x28 x29 x30 x31 x32 x33 x34 x35 x36 x37 x38 x39 x40 x41 x42 x43 x44 x45 x46 x47 x48 x49 x50 x51 x52 x53 x54 x55 x56 x57 x58 x59 x60 x61 x62 x63 x64 x65 x66 x67 x68 x69 x70 x71 x72 x73 x74 x75 x76 x77 x78 x79 x80 x81 x82 x83 x84 x85 x86 x87 x88 x89 x90 x91 x92 x93 x94 x95 x96 x97 x98 x99 x100 x101 x102 x103 x104 x105 x106 x107 x108 x109 x110 x111 x112 x113 x114 x115 x116 x117 x118 x119 x120 x121 x122 x123 x124 x125 x126 x127 x128 x129 x130 x131 x132 x133 x134 x135 x136 x137 x138 x139 x140 x141 x142 x143 x144 x145 x146 x147 x148 x149 x150 x151 x152 x153 x154 x155 x156 x157 x158 x159 x160 x161 x162 x163 x164 x165 x166 x167 x168 x169 x170 x171 x172 x173 x174 x175 x176 x177 x178 x179 x180 x181 x182 x183 x184 x185 x186 x187 x188 x189 x190 x191 x192 x193 x194 x195 x196 x197 x198 x199 x200 x201 x202 x203 x204 x205 x206 x207 x208 x209 x210 x211 x212 x213 x214 x215 x216 x217 x218 x219 x220 x221 x222 x223 x224 x225 x226 x227 x228 x229 x230 x231 x232 x233 x234 x235 x236 x237 x238 x239 x240 x241 x242 x243 x244 x245 x246 x247 x248 x249 x250 x251 x252 x253 x254 x255 x256 x257 x258 x259 x260 x261 x262 x263 x264 x265 x266 x267 x268 x269 x270 : Value) :
    Code.wp Tryd.prog fewTail19 (bodyPost Tryd.prog Tryd.f6 (FewPost w r)) ⟨#[x0, .pointer (some ⟨RB, 0, none⟩), x2, x3, x4, x5, x6, x7, x8, x9, x10, x11, x12, x13, x14, x15, x16, x17, x18, x19, x20, x21, x22, x23, x24, x25, x26, x27, x28, x29, x30, x31, x32, x33, x34, x35, x36, x37, x38, x39, x40, x41, x42, x43, x44, x45, x46, x47, x48, x49, x50, x51, x52, x53, x54, x55, x56, x57, x58, x59, x60, x61, x62, x63, x64, x65, x66, x67, x68, x69, x70, x71, x72, x73, x74, x75, x76, x77, x78, x79, x80, x81, x82, x83, x84, x85, x86, x87, x88, x89, x90, x91, x92, x93, x94, x95, x96, x97, x98, x99, x100, x101, x102, x103, x104, x105, x106, x107, x108, x109, x110, x111, x112, x113, x114, x115, x116, x117, x118, x119, x120, x121, x122, x123, x124, x125, x126, x127, x128, x129, x130, x131, x132, x133, x134, x135, x136, x137, x138, x139, x140, x141, x142, x143, x144, x145, x146, x147, x148, x149, x150, x151, x152, x153, x154, x155, x156, x157, x158, x159, x160, x161, x162, x163, x164, x165, x166, x167, x168, x169, x170, x171, x172, x173, x174, x175, x176, x177, x178, x179, x180, x181, x182, x183, x184, x185, x186, x187, x188, x189, x190, x191, x192, x193, x194, x195, x196, x197, x198, x199, x200, x201, x202, x203, x204, x205, x206, x207, x208, x209, x210, x211, x212, x213, x214, x215, x216, x217, x218, x219, x220, x221, x222, x223, x224, x225, x226, x227, x228, x229, x230, x231, x232, x233, x234, x235, x236, x237, x238, x239, x240, x241, x242, x243, x244, x245, x246, x247, x248, x249, x250, x251, x252, x253, x254, x255, x256, x257, x258, x259, x260, x261, x262, x263, x264, x265, x266, x267, x268, x269, x270], []⟩ W5 := by
  conv => arg 2; whnf
  conv => arg 4; zeta
  go_wp2_with fail
  go_loopw [7] (fun i wr => ∃ (k : Nat), i = .int .i64 k ∧ k ≤ nS ∧ Hid (AllUp okS r.seen k) ∧ Hid (Below W0.heap.size W0 wr)) (fun i _ => nS - (intOf i).toNat)
  case atStart => exact ⟨0, rfl, Nat.zero_le _, Lib.hid (AllUp.zero _ _), HBP⟩
  case round =>
    clear HBP
    rename World => wr
    obtain ⟨k, rfl, hk, HI, HB⟩ := hrel
    have hBw : Below w.heap.size w wr := HB0.out.trans (HB.out.mono HB0.out.size)
    have HBW := Lib.hid hBw
    have rb := (HB.out.block RB (kblock_lt HRB.out)).trans HRB.out
    have r3 := kcell rb 3 _ rfl
    by_cases hlt : k < nS
    · have hkl : k < r.seen.length := by rw [HNS.out]; exact hlt
      have hltz : (k : Int) < (nS : Int) := by omega
      have hkz : (0 : Int) ≤ (k : Int) := by omega
      obtain ⟨g, off, cs, rfl, hg, hat, hck, hcl⟩ := (HA.out.s).get SnAt.len hkl
      have hmx := HMX.out.seen _ (List.getElem_mem hkl)
      have HSUC := Lib.hid (fun h => AllUp.succ (p := okS) HI.out hkl h)
      generalize r.seen[k] = f at *
      obtain ⟨v1, v2, rfl, a1, a2⟩ := id hat
      obtain ⟨⟨q1, d1, rfl, -⟩, -⟩ := id a1
      obtain ⟨q2, d2, rfl, -⟩ := id a2
      have c0 := (hBw.cell (p := ⟨g, off + k * 4 + 0, none⟩) hg).trans (hcl 0 _ rfl)
      have c1 := (hBw.cell (p := ⟨g, off + k * 4 + 1, none⟩) hg).trans (hcl 1 _ rfl)
      have c2 := (hBw.cell (p := ⟨g, off + k * 4 + 2, none⟩) hg).trans (hcl 2 _ rfl)
      have c3 := (hBw.cell (p := ⟨g, off + k * 4 + 3, none⟩) hg).trans (hcl 3 _ rfl)
      simp only [Nat.add_zero, Nat.mul_one] at c0
      obtain ⟨X, hX⟩ : ∃ n, wr.heap.size = n := ⟨_, rfl⟩
      obtain ⟨wx, hwx⟩ : ∃ wx, wr.alloc (.cells #[.int .i64 f.kind, .slice q1 f.nm.length d1, .int .i64 f.ty, .slice q2 (List.map (fun p => Value.int IntKind.i64 p) f.picks).length d2] 44) = wx := ⟨_, rfl⟩
      have hbx : Below wr.heap.size wr wx := by rw [← hwx]; exact (Below.refl _ wr).alloc (Nat.le_refl _) _
      have hxb : wx.heap[X]? = some (.cells #[.int .i64 f.kind, .slice q1 f.nm.length d1, .int .i64 f.ty, .slice q2 (List.map (fun p => Value.int IntKind.i64 p) f.picks).length d2] 44) := by rw [← hwx, ← hX]; exact knew _ _
      have x0 := kcell hxb 0 _ rfl
      have x1 := kcell hxb 1 _ rfl
      have x2 := kcell hxb 2 _ rfl
      have x3 := kcell hxb 3 _ rfl
      have hbwx : Below w.heap.size w wx := hBw.trans (hbx.mono hBw.size)
      have HBX := Lib.hid (HB.out.trans (hbx.mono HB.out.size))
      have HBW := Lib.hid hbwx
      obtain ⟨b1, hb1⟩ : ∃ b, fewN f.nm = b := ⟨_, rfl⟩
      have hfb1 := law2_Few (.slice q1 f.nm.length d1) f.nm wx (a1.below hbwx).1 hmx.1 hmx.2
      rw [hb1] at hfb1
      have Hb1 := Lib.hid hb1
      clear hb1
      have hpk := fun (W : World) (hb : Below w.heap.size w W) => a2.below hb
      have HP : Hid (b1 = true → f.picks.length ≤ 20 → 1 ≤ f.kind → f.kind ≤ 9 → 1 ≤ f.ty → f.ty ≤ 65535 → (∀ p ∈ f.picks, 0 ≤ p ∧ p ≤ 1099511627776) → okS f) := Lib.hid (fun g1 g2 h1 h2 h3 h4 h5 => ⟨⟨⟨by omega, by omega⟩, fewN_w (Hb1.out.trans g1), ⟨by omega, by omega⟩, by omega, fun p hp => ⟨by have := h5 p hp; omega, by have := h5 p hp; omega⟩⟩, ⟨by omega, h4⟩, by omega, fun p hp => ⟨(h5 p hp).1, by have := h5 p hp; omega⟩⟩)
      generalize f.picks = pk at *
      generalize hm2 : (List.map (fun p => Value.int IntKind.i64 p) pk).length = m2 at *
      generalize f.nm.length = m1 at *
      generalize f.kind = kd at *
      generalize f.ty = ty at *
      clear hat hcl hck hg hkl a1 a2 hmx
      have HXB := Lib.hid hxb
      clear hxb hbx
      cases b1
      · go_wp2_with fail
        refine hfb1.mono ?_
        rintro e w2 ⟨rfl, rfl⟩
        go_wp2
        go_ret
        exact FewPost.no HBW.out
      by_cases h0 : 20 < (m2 : Int)
      · go_wp2_with fail
        refine hfb1.mono ?_
        rintro e w2 ⟨rfl, rfl⟩
        go_wp2
        go_ret
        exact FewPost.no HBW.out
      have h0' : (m2 : Int) ≤ 20 := by omega
      clear h0
      by_cases h1 : kd < 1
      · go_wp2_with fail
        refine hfb1.mono ?_
        rintro e w2 ⟨rfl, rfl⟩
        go_wp2
        go_ret
        exact FewPost.no HBW.out
      have h1' : 1 ≤ kd := by omega
      clear h1
      by_cases h2 : 9 < kd
      · go_wp2_with fail
        refine hfb1.mono ?_
        rintro e w2 ⟨rfl, rfl⟩
        go_wp2
        go_ret
        exact FewPost.no HBW.out
      have h2' : kd ≤ 9 := by omega
      clear h2
      by_cases h3 : ty < 1
      · go_wp2_with fail
        refine hfb1.mono ?_
        rintro e w2 ⟨rfl, rfl⟩
        go_wp2
        go_ret
        exact FewPost.no HBW.out
      have h3' : 1 ≤ ty := by omega
      clear h3
      by_cases h4 : 65535 < ty
      · go_wp2_with fail
        refine hfb1.mono ?_
        rintro e w2 ⟨rfl, rfl⟩
        go_wp2
        go_ret
        exact FewPost.no HBW.out
      have h4' : ty ≤ 65535 := by omega
      clear h4
      have hml : pk.length = m2 := by rw [List.length_map] at hm2; exact hm2
      have HP2 := Lib.hid (fun h5 => HP.out rfl (by omega) h1' h2' h3' h4' h5)
      go_wp2_with fail
      refine hfb1.mono ?_
      rintro e w2 ⟨rfl, rfl⟩
      go_wp2_with fail
      clear hwx
      have HPK := Lib.hid hpk
      clear hpk
      go_loopw [9] (fun i2 w7 => ∃ (k2 : Nat), i2 = .int .i64 k2 ∧ k2 ≤ m2 ∧ Hid (Below w2.heap.size w2 w7) ∧ Hid (AllUp (fun p => 0 ≤ p ∧ p ≤ 1099511627776) pk k2)) (fun i2 _ => m2 - (intOf i2).toNat)
      case atStart => exact ⟨0, rfl, Nat.zero_le _, Lib.hid (Below.refl _ _), Lib.hid (AllUp.zero _ _)⟩
      case round =>
        rename World => w7
        obtain ⟨k2, rfl, hk2, HB7, HU⟩ := hrel
        have x37 := cell_below HB7.out x3
        have HBW7 := Lib.hid (HBW.out.trans (HB7.out.mono HBW.out.size))
        clear x0 x1 x2 x3
        by_cases hlt2 : k2 < m2
        · have hk2l : k2 < (pk.map fun p => Value.int .i64 p).length := by rw [hm2]; exact hlt2
          have hk2p : k2 < pk.length := by rw [hml]; exact hlt2
          obtain ⟨gp, op, rfl, hgp, hcp⟩ := (HPK.out w7 HBW7.out).cellP (Below.refl _ _) k2 hk2l
          rw [List.getElem_map] at hcp
          have HU2 := Lib.hid (fun h => AllUp.succ (p := fun p => 0 ≤ p ∧ p ≤ 1099511627776) HU.out hk2p h)
          have hltz2 : (k2 : Int) < (m2 : Int) := by omega
          have hk2z : (0 : Int) ≤ (k2 : Int) := by omega
          generalize pk[k2] = pv at *
          clear hk2l hk2p hgp
          by_cases g1 : pv < 0
          · go_wp2
            go_ret
            exact FewPost.no HBW7.out
          have g1' : 0 ≤ pv := by omega
          clear g1
          by_cases g2 : 1099511627776 < pv
          · go_wp2
            go_ret
            exact FewPost.no HBW7.out
          have g2' : pv ≤ 1099511627776 := by omega
          clear g2
          have HU3 := Lib.hid (HU2.out ⟨g1', g2'⟩)
          go_wp2
          go_roundw
          case rel => exact ⟨k2 + 1, by go_num, by omega, HB7, HU3⟩
          case measure => simp [intOf]; omega
        · obtain rfl : m2 = k2 := by omega
          have HX := Lib.hid (HSUC.out (HP2.out (HU.out.all hml)))
          have HBY := Lib.hid (HBX.out.trans (HB7.out.mono HBX.out.size))
          go_wp2
          go_roundw
          case rel => exact ⟨k + 1, by go_num, by omega, HX, HBY⟩
          case measure => simp [intOf]; omega
    · obtain rfl : nS = k := by omega
      have HQS := Lib.hid (HI.out.all HNS.out)
      have HBP := HB
      clear HI hlt hk
      have r4 := kcell rb 4 _ rfl
      by_cases h1 : er0 < 0
      · have h1'' : ¬ (0 : Int) ≤ er0 := by omega
        go_wp2
        go_ret
        exact FewPost.no HBW.out
      have h1' : 0 ≤ er0 := by omega
      by_cases h2 : 12 < er0
      · have h2'' : ¬ er0 ≤ (12 : Int) := by omega
        go_wp2
        go_ret
        exact FewPost.no HBW.out
      have h2' : er0 ≤ 12 := by omega
      have HR : Hid (RpF r) := Lib.hid ⟨⟨fun f hf => (HQE.out f hf).1, fun f hf => (HQF.out f hf).1, fun f hf => (HQD.out f hf).1, fun f hf => (HQS.out f hf).1, ⟨by rw [HER.out]; exact h1', by rw [HER.out]; omega⟩, by have a1 := HNE.out; have a2 := HNF.out; have a3 := HND.out; have a4 := HNS.out; exact ⟨by omega, by omega, by omega, by omega⟩⟩, fun f hf => (HQE.out f hf).2, fun f hf => (HQF.out f hf).2, fun f hf => (HQD.out f hf).2, fun f hf => (HQS.out f hf).2⟩
      clear h1 h2
      go_wp2
      go_ret
      exact ⟨true, rfl, fun _ => HR.out, HBW.out⟩
end
noncomputable def fewTail13 : Code := (Tryd.f6.body.bind (tailAtC 13)).getD .skip
section
set_option maxRecDepth 1000000 in
set_option maxHeartbeats 400000000 in
theorem few_t13 {w W0 W5 : World} {ae af ad asx : Option Addr} {nE nF nD nS ce cf cd cs0 RB : Nat} {er0 : Int} {r : Rp} (HA : Hid (RpAt w (.slice ae nE ce) (.slice af nF cf) (.slice ad nD cd) (.slice asx nS cs0) r)) (HMX : Hid (RpMax r)) (HER : Hid (r.err = er0)) (HNE : Hid (r.errs.length = nE)) (HNF : Hid (r.flaws.length = nF)) (HND : Hid (r.edges.length = nD)) (HNS : Hid (r.seen.length = nS)) (HB0 : Hid (Below w.heap.size w W0)) (HRB : Hid (W0.heap[RB]? = some (.cells #[.slice ae nE ce, .slice af nF cf, .slice ad nD cd, .slice asx nS cs0, .int .i64 er0] 30))) (bE' : (nE : Int) ≤ 10) (bF' : (nF : Int) ≤ 10) (bD' : (nD : Int) ≤ 10) (bS' : (nS : Int) ≤ 10) (HQE : Hid (∀ x ∈ r.errs, okE x)) (HQF : Hid (∀ x ∈ r.flaws, okF x)) (HBP : Hid (Below W0.heap.size W0 W5)) (x0 x2 x3 x4 x5 x6 x7 x8 x9 x10 x11 x12 x13 x14 x15 x16 x17 x18 x19 x20 x21 x22 x23 x24 x25 x26 x27 x28 x29 x30 x31 x32 x33 x34 x35 x36 x37 x38 x39 x40 x41 x42 x43 x44 x45 x46 x47 x48 x49 x50 x51 x52 x53 x54 x55 x56 x57 x58 x59 x60 x61 x62 x63 x64 x65 x66 x67 x68 x69 x70 x71 x72 x73 x74 x75 x76 x77 x78 x79 x80 x81 x82 x83 x84 x85 x86 x87 x88 x89 x90 x91 x92 x93 x94 x95 x96 x97 x98 x99 x100 x101 x102 x103 x104 x105 x106 x107 x108 x109 x110 x111 x112 x113 x114 x115 x116 x117 x118 x119 x120 x121 x122 x123 x124 x125 x126 x127 x128 x129 x130 x131 x132 x133 x134 x135 x136 x137 x138 x139 x140 x141 x142 x143 x144 x145 x146 x147 x148 x149 x150 x151 x152 x153 x154 x155 x156 x157 x158 x159 x160 x161 x162 x163 x164 x165 x166 x167 x168 x169 x170 x171 x172 x173 x174 x175 x176 x177 x178 x179 x180 x181 x182 x183 x184 x185 x186 x187 x188 x189 x190 x191 x192 x193 x194 x195 x196 x197 x198 x199 x200 x201 x202 x203 x204 x205 x206 x207 x208 x209 x210 x211 x212 x213 x214 x215 x216 x217 x218 x219 x220 x221 x222 x223 x224 x225 x226 x227 x228 x229 x230 x231 x232 x233 x234 x235 x236 x237 x238 x239 x240 x241 x242 x243 x244 x245 x246 x247 x248 x249 x250 x251 x252 x253 x254 x255 x256 x257 x258 x259 x260 x261 x262 x263 x264 x265 x266 x267 x268 x269 x270 : Value) :
    Code.wp Tryd.prog fewTail13 (bodyPost Tryd.prog Tryd.f6 (FewPost w r)) ⟨#[x0, .pointer (some ⟨RB, 0, none⟩), x2, x3, x4, x5, x6, x7, x8, x9, x10, x11, x12, x13, x14, x15, x16, x17, x18, x19, x20, x21, x22, x23, x24, x25, x26, x27, x28, x29, x30, x31, x32, x33, x34, x35, x36, x37, x38, x39, x40, x41, x42, x43, x44, x45, x46, x47, x48, x49, x50, x51, x52, x53, x54, x55, x56, x57, x58, x59, x60, x61, x62, x63, x64, x65, x66, x67, x68, x69, x70, x71, x72, x73, x74, x75, x76, x77, x78, x79, x80, x81, x82, x83, x84, x85, x86, x87, x88, x89, x90, x91, x92, x93, x94, x95, x96, x97, x98, x99, x100, x101, x102, x103, x104, x105, x106, x107, x108, x109, x110, x111, x112, x113, x114, x115, x116, x117, x118, x119, x120, x121, x122, x123, x124, x125, x126, x127, x128, x129, x130, x131, x132, x133, x134, x135, x136, x137, x138, x139, x140, x141, x142, x143, x144, x145, x146, x147, x148, x149, x150, x151, x152, x153, x154, x155, x156, x157, x158, x159, x160, x161, x162, x163, x164, x165, x166, x167, x168, x169, x170, x171, x172, x173, x174, x175, x176, x177, x178, x179, x180, x181, x182, x183, x184, x185, x186, x187, x188, x189, x190, x191, x192, x193, x194, x195, x196, x197, x198, x199, x200, x201, x202, x203, x204, x205, x206, x207, x208, x209, x210, x211, x212, x213, x214, x215, x216, x217, x218, x219, x220, x221, x222, x223, x224, x225, x226, x227, x228, x229, x230, x231, x232, x233, x234, x235, x236, x237, x238, x239, x240, x241, x242, x243, x244, x245, x246, x247, x248, x249, x250, x251, x252, x253, x254, x255, x256, x257, x258, x259, x260, x261, x262, x263, x264, x265, x266, x267, x268, x269, x270], []⟩ W5 := by
  conv => arg 2; whnf
  conv => arg 4; zeta
  go_upto_block 4 with (fail)
  go_cut [5] (fun _ wx => Hid (∀ x ∈ r.edges, okD x) ∧ Hid (Below W0.heap.size W0 wx))
  case first =>
    go_wp2_with fail
    go_loopw [5] (fun i wr => ∃ (k : Nat), i = .int .i64 k ∧ k ≤ nD ∧ Hid (AllUp okD r.edges k) ∧ Hid (Below W0.heap.size W0 wr)) (fun i _ => nD - (intOf i).toNat)
    case atStart => exact ⟨0, rfl, Nat.zero_le _, Lib.hid (AllUp.zero _ _), HBP⟩
    case round =>
      clear HBP
      rename World => wr
      obtain ⟨k, rfl, hk, HI, HB⟩ := hrel
      have hBw : Below w.heap.size w wr := HB0.out.trans (HB.out.mono HB0.out.size)
      have HBW := Lib.hid hBw
      have rb := (HB.out.block RB (kblock_lt HRB.out)).trans HRB.out
      have r2 := kcell rb 2 _ rfl
      by_cases hlt : k < nD
      · have hkl : k < r.edges.length := by rw [HND.out]; exact hlt
        have hltz : (k : Int) < (nD : Int) := by omega
        have hkz : (0 : Int) ≤ (k : Int) := by omega
        obtain ⟨g, off, cs, rfl, hg, hat, hck, hcl⟩ := (HA.out.d).get EdAt.len hkl
        have hmx := HMX.out.edges _ (List.getElem_mem hkl)
        have HSUC := Lib.hid (fun h => AllUp.succ (p := okD) HI.out hkl h)
        generalize r.edges[k] = f at *
        obtain ⟨v1, v2, v3, rfl, a1, a2, a3⟩ := id hat
        obtain ⟨⟨q1, d1, rfl, -⟩, -⟩ := id a1
        obtain ⟨⟨q2, d2, rfl, -⟩, -⟩ := id a2
        obtain ⟨⟨q3, d3, rfl, -⟩, -⟩ := id a3
        have c0 := (hBw.cell (p := ⟨g, off + k * 5 + 0, none⟩) hg).trans (hcl 0 _ rfl)
        have c1 := (hBw.cell (p := ⟨g, off + k * 5 + 1, none⟩) hg).trans (hcl 1 _ rfl)
        have c2 := (hBw.cell (p := ⟨g, off + k * 5 + 2, none⟩) hg).trans (hcl 2 _ rfl)
        have c3 := (hBw.cell (p := ⟨g, off + k * 5 + 3, none⟩) hg).trans (hcl 3 _ rfl)
        have c4 := (hBw.cell (p := ⟨g, off + k * 5 + 4, none⟩) hg).trans (hcl 4 _ rfl)
        simp only [Nat.add_zero, Nat.mul_one] at c0
        obtain ⟨X, hX⟩ : ∃ n, wr.heap.size = n := ⟨_, rfl⟩
        obtain ⟨wx, hwx⟩ : ∃ wx, wr.alloc (.cells #[.int .i64 f.kind, .slice q1 f.par.length d1, .slice q2 f.chi.length d2, .slice q3 f.host.length d3, .int .i64 f.srv] 47) = wx := ⟨_, rfl⟩
        have hbx : Below wr.heap.size wr wx := by rw [← hwx]; exact (Below.refl _ wr).alloc (Nat.le_refl _) _
        have hxb : wx.heap[X]? = some (.cells #[.int .i64 f.kind, .slice q1 f.par.length d1, .slice q2 f.chi.length d2, .slice q3 f.host.length d3, .int .i64 f.srv] 47) := by rw [← hwx, ← hX]; exact knew _ _
        have x0 := kcell hxb 0 _ rfl
        have x1 := kcell hxb 1 _ rfl
        have x2 := kcell hxb 2 _ rfl
        have x3 := kcell hxb 3 _ rfl
        have x4 := kcell hxb 4 _ rfl
        have hbwx : Below w.heap.size w wx := hBw.trans (hbx.mono hBw.size)
        have HBX := Lib.hid (HB.out.trans (hbx.mono HB.out.size))
        have HBW := Lib.hid hbwx
        obtain ⟨b1, hb1⟩ : ∃ b, fewN f.par = b := ⟨_, rfl⟩
        have hfb1 := law2_Few (.slice q1 f.par.length d1) f.par wx (a1.below hbwx).1 hmx.1.1 hmx.1.2
        rw [hb1] at hfb1
        have Hb1 := Lib.hid hb1
        clear hb1
        obtain ⟨b2, hb2⟩ : ∃ b, fewN f.chi = b := ⟨_, rfl⟩
        have hfb2 := law2_Few (.slice q2 f.chi.length d2) f.chi wx (a2.below hbwx).1 hmx.2.1.1 hmx.2.1.2
        rw [hb2] at hfb2
        have Hb2 := Lib.hid hb2
        clear hb2
        obtain ⟨b3, hb3⟩ : ∃ b, fewN f.host = b := ⟨_, rfl⟩
        have hfb3 := law2_Few (.slice q3 f.host.length d3) f.host wx (a3.below hbwx).1 hmx.2.2.1 hmx.2.2.2
        rw [hb3] at hfb3
        have Hb3 := Lib.hid hb3
        clear hb3
        have HP : Hid (b1 = true → b2 = true → b3 = true → 1 ≤ f.kind → f.kind ≤ 4 → 0 ≤ f.srv → f.srv ≤ 1099511627776 → okD f) := Lib.hid (fun g1 g2 g3 h1 h2 h3 h4 => ⟨⟨⟨by omega, by omega⟩, fewN_w (Hb1.out.trans g1), fewN_w (Hb2.out.trans g2), fewN_w (Hb3.out.trans g3), ⟨by omega, by omega⟩⟩, h3, by omega⟩)
        generalize f.par.length = m1 at *
        generalize f.chi.length = m2 at *
        generalize f.host.length = m3 at *
        generalize f.kind = kd at *
        generalize f.srv = sv at *
        clear hat hcl hck hg hkl a1 a2 a3 hmx hxb hbx hbwx
        cases b1
        · go_wp2_with fail
          refine hfb1.mono ?_
          rintro e w2 ⟨rfl, rfl⟩
          go_wp2
          go_ret
          exact FewPost.no HBW.out
        cases b2
        · go_wp2_with fail
          refine hfb1.mono ?_
          rintro e w2 ⟨rfl, rfl⟩
          go_wp2_with fail
          refine hfb2.mono ?_
          rintro e w2 ⟨rfl, rfl⟩
          go_wp2
          go_ret
          exact FewPost.no HBW.out
        cases b3
        · go_wp2_with fail
          refine hfb1.mono ?_
          rintro e w2 ⟨rfl, rfl⟩
          go_wp2_with fail
          refine hfb2.mono ?_
          rintro e w2 ⟨rfl, rfl⟩
          go_wp2_with fail
          refine hfb3.mono ?_
          rintro e w2 ⟨rfl, rfl⟩
          go_wp2
          go_ret
          exact FewPost.no HBW.out
        by_cases h1 : kd < 1
        · go_wp2_with fail
          refine hfb1.mono ?_
          rintro e w2 ⟨rfl, rfl⟩
          go_wp2_with fail
          refine hfb2.mono ?_
          rintro e w2 ⟨rfl, rfl⟩
          go_wp2_with fail
          refine hfb3.mono ?_
          rintro e w2 ⟨rfl, rfl⟩
          go_wp2
          go_ret
          exact FewPost.no HBW.out
        have h1' : 1 ≤ kd := by omega
        clear h1
        by_cases h2 : 4 < kd
        · go_wp2_with fail
          refine hfb1.mono ?_
          rintro e w2 ⟨rfl, rfl⟩
          go_wp2_with fail
          refine hfb2.mono ?_
          rintro e w2 ⟨rfl, rfl⟩
          go_wp2_with fail
          refine hfb3.mono ?_
          rintro e w2 ⟨rfl, rfl⟩
          go_wp2
          go_ret
          exact FewPost.no HBW.out
        have h2' : kd ≤ 4 := by omega
        clear h2
        by_cases h3 : sv < 0
        · go_wp2_with fail
          refine hfb1.mono ?_
          rintro e w2 ⟨rfl, rfl⟩
          go_wp2_with fail
          refine hfb2.mono ?_
          rintro e w2 ⟨rfl, rfl⟩
          go_wp2_with fail
          refine hfb3.mono ?_
          rintro e w2 ⟨rfl, rfl⟩
          go_wp2
          go_ret
          exact FewPost.no HBW.out
        have h3' : 0 ≤ sv := by omega
        clear h3
        by_cases h4 : 1099511627776 < sv
        · go_wp2_with fail
          refine hfb1.mono ?_
          rintro e w2 ⟨rfl, rfl⟩
          go_wp2_with fail
          refine hfb2.mono ?_
          rintro e w2 ⟨rfl, rfl⟩
          go_wp2_with fail
          refine hfb3.mono ?_
          rintro e w2 ⟨rfl, rfl⟩
          go_wp2
          go_ret
          exact FewPost.no HBW.out
        have h4' : sv ≤ 1099511627776 := by omega
        clear h4
        have HX := Lib.hid (HSUC.out (HP.out rfl rfl rfl h1' h2' h3' h4'))
        go_wp2_with fail
        refine hfb1.mono ?_
        rintro e w2 ⟨rfl, rfl⟩
        go_wp2_with fail
        refine hfb2.mono ?_
        rintro e w2 ⟨rfl, rfl⟩
        go_wp2_with fail
        refine hfb3.mono ?_
        rintro e w2 ⟨rfl, rfl⟩
        go_wp2
        go_roundw
        case rel => exact ⟨k + 1, by go_num, by omega, HX, HBX⟩
        case measure => simp [intOf]; omega
      · obtain rfl : nD = k := by omega
        have HQD := Lib.hid (HI.out.all HND.out)
        have HBP := HB
        clear HI hlt hk
        go_wp2_with fail
        go_meet
        exact ⟨HQD, HBP⟩
  case rest =>
    clear HBP
    rename World => W5
    obtain ⟨HQD, HBP⟩ := hcut
    rename Act → World → Prop => K0
    rename ∀ (a_1 : Act) (w_1 : World), _ → K0 a_1 w_1 => hK
    exact hK _ _ (few_t19 HA HMX HER HNE HNF HND HNS HB0 HRB bE' bF' bD' bS' HQE HQF HQD HBP _ _ _ _ _ _ _ _ _ _ _ _ _ _ _ _ _ _ _ _ _ _ _ _ _ _ _ _ _ _ _ _ _ _ _ _ _ _ _ _ _ _ _ _ _ _ _ _ _ _ _ _ _ _ _ _ _ _ _ _ _ _ _ _ _ _ _ _ _ _ _ _ _ _ _ _ _ _ _ _ _ _ _ _ _ _ _ _ _ _ _ _ _ _ _ _ _ _ _ _ _ _ _ _ _ _ _ _ _ _ _ _ _ _ _ _ _ _ _ _ _ _ _ _ _ _ _ _ _ _ _ _ _ _ _ _ _ _ _ _ _ _ _ _ _ _ _ _ _ _ _ _ _ _ _ _ _ _ _ _ _ _ _ _ _ _ _ _ _ _ _ _ _ _ _ _ _ _ _ _ _ _ _ _ _ _ _ _ _ _ _ _ _ _ _ _ _ _ _ _ _ _ _ _ _ _ _ _ _ _ _ _ _ _ _ _ _ _ _ _ _ _ _ _ _ _ _ _ _ _ _ _ _ _ _ _ _ _ _ _ _ _ _ _ _ _ _ _ _ _ _ _ _ _ _ _ _ _ _ _ _ _ _ _ _ _ _ _ _ _)
end
section
set_option maxRecDepth 100000 in
set_option maxHeartbeats 400000000 in
theorem law25_few (ve vf vd vs : Value) (r : Rp) (w : World) (hA : RpAt w ve vf vd vs r) (hM : RpMax r) (er0 : Int) (her : r.err = er0) :
    Calls Tryd.prog 6 #[.agg #[ve, vf, vd, vs, .int .i64 er0]] w (FewPost w r) := by
  obtain ⟨ae, ce, rfl, -⟩ := hA.e.shape
  obtain ⟨af, cf, rfl, -⟩ := hA.f.shape
  obtain ⟨ad, cd, rfl, -⟩ := hA.d.shape
  obtain ⟨asx, cs0, rfl, -⟩ := hA.s.shape
  have HMX := Lib.hid hM; have HER := Lib.hid her
  obtain ⟨nE, hnE⟩ : ∃ n, r.errs.length = n := ⟨_, rfl⟩
  obtain ⟨nF, hnF⟩ : ∃ n, r.flaws.length = n := ⟨_, rfl⟩
  obtain ⟨nD, hnD⟩ : ∃ n, r.edges.length = n := ⟨_, rfl⟩
  obtain ⟨nS, hnS⟩ : ∃ n, r.seen.length = n := ⟨_, rfl⟩
  rw [hnE, hnF, hnD, hnS] at hA ⊢
  have HA := Lib.hid hA; have HNE := Lib.hid hnE; have HNF := Lib.hid hnF; have HND := Lib.hid hnD; have HNS := Lib.hid hnS
  clear hA hM her hnE hnF hnD hnS
  obtain ⟨W0, hW0⟩ : ∃ W0, w.alloc (.cells #[.slice ae nE ce, .slice af nF cf, .slice ad nD cd, .slice asx nS cs0, .int .i64 er0] 30) = W0 := ⟨_, rfl⟩
  obtain ⟨RB, hRB⟩ : ∃ n, w.heap.size = n := ⟨_, rfl⟩
  have HB0 : Hid (Below w.heap.size w W0) := Lib.hid (by rw [← hW0]; exact (Below.refl _ w).alloc (Nat.le_refl _) _)
  have HRB : Hid (W0.heap[RB]? = some (.cells #[.slice ae nE ce, .slice af nF cf, .slice ad nD cd, .slice asx nS cs0, .int .i64 er0] 30)) := Lib.hid (by rw [← hW0, ← hRB]; exact knew _ _)
  have HBW := HB0
  have s0 := kcell HRB.out 0 _ rfl; have s1 := kcell HRB.out 1 _ rfl; have s2 := kcell HRB.out 2 _ rfl; have s3 := kcell HRB.out 3 _ rfl
  go_enter Tryd.func6, Tryd.ntmps6
  by_cases bE : 10 < (nE : Int)
  · go_wp2
    go_ret
    exact FewPost.no HBW.out
  have bE' : (nE : Int) ≤ 10 := by omega
  clear bE
  by_cases bF : 10 < (nF : Int)
  · go_wp2
    go_ret
    exact FewPost.no HBW.out
  have bF' : (nF : Int) ≤ 10 := by omega
  clear bF
  by_cases bD : 10 < (nD : Int)
  · go_wp2
    go_ret
    exact FewPost.no HBW.out
  have bD' : (nD : Int) ≤ 10 := by omega
  clear bD
  by_cases bS : 10 < (nS : Int)
  · go_wp2
    go_ret
    exact FewPost.no HBW.out
  have bS' : (nS : Int) ≤ 10 := by omega
  clear bS
  go_wp2_with fail
  clear hW0 s0 s1 s2 s3 HBW
  go_loopw [3] (fun i wr => ∃ (k : Nat), i = .int .i64 k ∧ k ≤ nE ∧ Hid (AllUp okE r.errs k) ∧ Hid (Below W0.heap.size W0 wr)) (fun i _ => nE - (intOf i).toNat)
  case atStart => exact ⟨0, rfl, Nat.zero_le _, Lib.hid (AllUp.zero _ _), Lib.hid (Below.refl _ _)⟩
  case round =>
    rename World => wr
    obtain ⟨k, rfl, hk, HI, HB⟩ := hrel
    have hBw : Below w.heap.size w wr := HB0.out.trans (HB.out.mono HB0.out.size)
    have HBW := Lib.hid hBw
    have rb := (HB.out.block RB (kblock_lt HRB.out)).trans HRB.out
    have r0 := kcell rb 0 _ rfl
    by_cases hlt : k < nE
    · have hkl : k < r.errs.length := by rw [HNE.out]; exact hlt
      have hltz : (k : Int) < (nE : Int) := by omega
      have hkz : (0 : Int) ≤ (k : Int) := by omega
      obtain ⟨g, off, cs, rfl, hg, hat, hck, hcl⟩ := (HA.out.e).get FtAt.len hkl
      have HSUC := Lib.hid (fun h => AllUp.succ (p := okE) HI.out hkl h)
      generalize r.errs[k] = f at *
      obtain ⟨b, rfl, hblt, y0, y1, y2⟩ := id hat
      have c0 := (hBw.cell (p := ⟨g, off + k * 1 + 0, none⟩) hg).trans (hcl 0 _ rfl)
      simp only [Nat.add_zero, Nat.mul_one] at c0
      replace y0 := (hBw.cell (p := ⟨b, 0, none⟩) hblt).trans y0
      replace y1 := (hBw.cell (p := ⟨b, 1, none⟩) hblt).trans y1
      replace y2 := (hBw.cell (p := ⟨b, 2, none⟩) hblt).trans y2
      obtain ⟨s, hs0, hsz, hsv⟩ := str_of f.path
      rw [hsv] at y0
      have HP : Hid ((s.size : Int) ≤ 50 → 1 ≤ f.err → f.err ≤ 12 → 0 ≤ f.line → f.line ≤ 1099511627776 → okE f) := Lib.hid (fun h1 h2 h3 h4 h5 => ⟨⟨by omega, ⟨by omega, by omega⟩, by omega, by omega⟩, h4, by omega⟩)
      generalize f.err = er at *
      generalize f.line = ln at *
      clear hat hcl hck hg hblt hs0 hsz hsv hkl
      by_cases h1 : (50 : Int) < (s.size : Int)
      · go_wp2
        go_ret
        exact FewPost.no HBW.out
      have h1' : (s.size : Int) ≤ 50 := by omega
      clear h1
      by_cases h2 : er < 1
      · go_wp2
        go_ret
        exact FewPost.no HBW.out
      have h2' : 1 ≤ er := by omega
      clear h2
      by_cases h3 : 12 < er
      · go_wp2
        go_ret
        exact FewPost.no HBW.out
      have h3' : er ≤ 12 := by omega
      clear h3
      by_cases h4 : ln < 0
      · go_wp2
        go_ret
        exact FewPost.no HBW.out
      have h4' : 0 ≤ ln := by omega
      clear h4
      by_cases h5 : 1099511627776 < ln
      · go_wp2
        go_ret
        exact FewPost.no HBW.out
      have h5' : ln ≤ 1099511627776 := by omega
      clear h5
      have HX := Lib.hid (HSUC.out (HP.out h1' h2' h3' h4' h5'))
      go_wp2
      go_roundw
      case rel => exact ⟨k + 1, by go_num, by omega, HX, HB⟩
      case measure => simp [intOf]; omega
    · obtain rfl : nE = k := by omega
      have HQE := Lib.hid (HI.out.all HNE.out)
      have HBP := HB
      clear HI hlt hk
      clear rb hBw HB HBW
      go_upto_block 2 with (fail)
      go_cut [4] (fun _ wx => Hid (∀ x ∈ r.flaws, okF x) ∧ Hid (Below W0.heap.size W0 wx))
      case first =>
        go_wp2_with fail
        go_loopw [4] (fun i wr => ∃ (k : Nat), i = .int .i64 k ∧ k ≤ nF ∧ Hid (AllUp okF r.flaws k) ∧ Hid (Below W0.heap.size W0 wr)) (fun i _ => nF - (intOf i).toNat)
        case atStart => exact ⟨0, rfl, Nat.zero_le _, Lib.hid (AllUp.zero _ _), HBP⟩
        case round =>
          clear HBP
          rename World => wr
          obtain ⟨k, rfl, hk, HI, HB⟩ := hrel
          have hBw : Below w.heap.size w wr := HB0.out.trans (HB.out.mono HB0.out.size)
          have HBW := Lib.hid hBw
          have rb := (HB.out.block RB (kblock_lt HRB.out)).trans HRB.out
          have r1 := kcell rb 1 _ rfl
          by_cases hlt : k < nF
          · have hkl : k < r.flaws.length := by rw [HNF.out]; exact hlt
            have hltz : (k : Int) < (nF : Int) := by omega
            have hkz : (0 : Int) ≤ (k : Int) := by omega
            obtain ⟨g, off, cs, rfl, hg, hat, hck, hcl⟩ := (HA.out.f).get FwAt.len hkl
            have hmx := HMX.out.flaws _ (List.getElem_mem hkl)
            have HSUC := Lib.hid (fun h => AllUp.succ (p := okF) HI.out hkl h)
            generalize r.flaws[k] = f at *
            obtain ⟨vo, rfl, a1⟩ := id hat
            obtain ⟨⟨q1, d1, rfl, -⟩, -⟩ := id a1
            have c0 := (hBw.cell (p := ⟨g, off + k * 3 + 0, none⟩) hg).trans (hcl 0 _ rfl)
            have c1 := (hBw.cell (p := ⟨g, off + k * 3 + 1, none⟩) hg).trans (hcl 1 _ rfl)
            have c2 := (hBw.cell (p := ⟨g, off + k * 3 + 2, none⟩) hg).trans (hcl 2 _ rfl)
            simp only [Nat.add_zero, Nat.mul_one] at c0
            obtain ⟨b1, hb1⟩ : ∃ b, fewN f.owner = b := ⟨_, rfl⟩
            have hfb1 := law2_Few (.slice q1 f.owner.length d1) f.owner wr (a1.below hBw).1 hmx.1 hmx.2
            rw [hb1] at hfb1
            have Hb1 := Lib.hid hb1
            clear hb1
            have HP : Hid (b1 = true → 1 ≤ f.kind → f.kind ≤ 9 → 1 ≤ f.ty → f.ty ≤ 65535 → okF f) := Lib.hid (fun h0 h1 h2 h3 h4 => ⟨⟨⟨by omega, by omega⟩, fewN_w (Hb1.out.trans h0), ⟨by omega, by omega⟩⟩, by omega, h4⟩)
            generalize f.owner.length = m1 at *
            generalize f.kind = kd at *
            generalize f.ty = ty at *
            clear hat hcl hck hg hkl a1 hmx
            cases b1
            · go_wp2_with fail
              refine hfb1.mono ?_
              rintro e w2 ⟨rfl, rfl⟩
              go_wp2
              go_ret
              exact FewPost.no HBW.out
            by_cases h1 : kd < 1
            · go_wp2_with fail
              refine hfb1.mono ?_
              rintro e w2 ⟨rfl, rfl⟩
              go_wp2
              go_ret
              exact FewPost.no HBW.out
            have h1' : 1 ≤ kd := by omega
            clear h1
            by_cases h2 : 9 < kd
            · go_wp2_with fail
              refine hfb1.mono ?_
              rintro e w2 ⟨rfl, rfl⟩
              go_wp2
              go_ret
              exact FewPost.no HBW.out
            have h2' : kd ≤ 9 := by omega
            clear h2
            by_cases h3 : ty < 1
            · go_wp2_with fail
              refine hfb1.mono ?_
              rintro e w2 ⟨rfl, rfl⟩
              go_wp2
              go_ret
              exact FewPost.no HBW.out
            have h3' : 1 ≤ ty := by omega
            clear h3
            by_cases h4 : 65535 < ty
            · go_wp2_with fail
              refine hfb1.mono ?_
              rintro e w2 ⟨rfl, rfl⟩
              go_wp2
              go_ret
              exact FewPost.no HBW.out
            have h4' : ty ≤ 65535 := by omega
            clear h4
            have HX := Lib.hid (HSUC.out (HP.out rfl h1' h2' h3' h4'))
            go_wp2_with fail
            refine hfb1.mono ?_
            rintro e w2 ⟨rfl, rfl⟩
            go_wp2
            go_roundw
            case rel => exact ⟨k + 1, by go_num, by omega, HX, HB⟩
            case measure => simp [intOf]; omega
          · obtain rfl : nF = k := by omega
            have HQF := Lib.hid (HI.out.all HNF.out)
            have HBP := HB
            clear HI hlt hk
            go_wp2_with fail
            go_meet
            exact ⟨HQF, HBP⟩
      case rest =>
        clear HBP
        rename World => W5
        obtain ⟨HQF, HBP⟩ := hcut
        rename Act → World → Prop => K0
        rename ∀ (a_1 : Act) (w_1 : World), _ → K0 a_1 w_1 => hK
        exact hK _ _ (few_t13 HA HMX HER HNE HNF HND HNS HB0 HRB bE' bF' bD' bS' HQE HQF HBP _ _ _ _ _ _ _ _ _ _ _ _ _ _ _ _ _ _ _ _ _ _ _ _ _ _ _ _ _ _ _ _ _ _ _ _ _ _ _ _ _ _ _ _ _ _ _ _ _ _ _ _ _ _ _ _ _ _ _ _ _ _ _ _ _ _ _ _ _ _ _ _ _ _ _ _ _ _ _ _ _ _ _ _ _ _ _ _ _ _ _ _ _ _ _ _ _ _ _ _ _ _ _ _ _ _ _ _ _ _ _ _ _ _ _ _ _ _ _ _ _ _ _ _ _ _ _ _ _ _ _ _ _ _ _ _ _ _ _ _ _ _ _ _ _ _ _ _ _ _ _ _ _ _ _ _ _ _ _ _ _ _ _ _ _ _ _ _ _ _ _ _ _ _ _ _ _ _ _ _ _ _ _ _ _ _ _ _ _ _ _ _ _ _ _ _ _ _ _ _ _ _ _ _ _ _ _ _ _ _ _ _ _ _ _ _ _ _ _ _ _ _ _ _ _ _ _ _ _ _ _ _ _ _ _ _ _ _ _ _ _ _ _ _ _ _ _ _ _ _ _ _ _ _ _ _ _ _ _ _ _ _ _ _ _ _ _ _ _ _)
end
end Go.Proofs.YtbnkecmhmcligaaDoor
