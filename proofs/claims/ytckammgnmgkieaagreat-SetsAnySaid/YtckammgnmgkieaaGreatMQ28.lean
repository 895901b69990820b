/-
  rset.sets as an iterator: a row set by set. (Written by wip/tools/gensetb.py.)
-/
import Derived.Test.YtckammgnmgkieaaGreatMQ32
import Derived.Test.YtckammgnmgkieaaGreatMQ27
import Derived.Test.YtckammgnmgkieaaGreatMQ26
import Derived.Deep.RegionHeld3
namespace Go.Proofs.YtckammgnmgkieaaGreat
set_option maxRecDepth 20000
open Go.RowKit Go.Shelf
set_option maxRecDepth 20000
set_option linter.unusedVariables false
set_option linter.unusedSimpArgs false

abbrev SegD (n : Nat) := { x : (Nat × Nat) × (Option Addr × Nat) // x.1.1 < x.1.2 ∧ x.1.2 ≤ n }
def rcZ : Rc := ⟨[], 0, ⟨0, [], [], [], []⟩⟩
def dcs (css : List (List Value)) (s e : Nat) : List (List Value) := ((css.drop s).take (e - s)).map fun cs => cs.drop 2
def ttlS (rs : List Rc) (s e : Nat) : Nat := leastM (rs.getD s rcZ).ttl ((rs.drop s).take (e - s))
def setV (vo : Nat → Value) (rs : List Rc) {n : Nat} (x : SegD n) : Array Value :=
  #[.agg #[vo x.1.1.1, .int .i64 (rs.getD x.1.1.1 rcZ).data.ty, .int .u32 (ttlS rs x.1.1.1 x.1.1.2 : Int), .slice x.1.2.1 (x.1.1.2 - x.1.1.1) x.1.2.2]]
def DatO (base : Nat) (css : List (List Value)) {n : Nat} (x : SegD n) (W : World) : Prop := OwnC 5 101 W base (.slice x.1.2.1 (x.1.1.2 - x.1.1.1) x.1.2.2) (dcs css x.1.1.1 x.1.1.2)
theorem dcs_len {css : List (List Value)} {s e : Nat} (h : e ≤ css.length) : (dcs css s e).length = e - s := by unfold dcs; rw [List.length_map, List.length_take, List.length_drop]; omega
theorem dcs_snoc {css : List (List Value)} {s e : Nat} (h1 : s ≤ e) (h2 : e < css.length) : dcs css s (e + 1) = dcs css s e ++ [css[e].drop 2] := by
  unfold dcs
  obtain ⟨j, rfl⟩ : ∃ j, e = s + j := ⟨e - s, by omega⟩
  rw [show s + j + 1 - s = j + 1 by omega, show s + j - s = j by omega, List.take_succ_eq_append_getElem (by rw [List.length_drop]; omega), List.map_append]
  simp
theorem ttlS_self {rs : List Rc} {s : Nat} : ttlS rs s s = (rs.getD s rcZ).ttl := by unfold ttlS; rw [Nat.sub_self]; rfl
theorem ttlS_snoc {rs : List Rc} {s e : Nat} (h1 : s ≤ e) (h2 : e < rs.length) : ttlS rs s (e + 1) = minT (ttlS rs s e) rs[e].ttl := by
  unfold ttlS
  obtain ⟨j, rfl⟩ : ∃ j, e = s + j := ⟨e - s, by omega⟩
  rw [show s + j + 1 - s = j + 1 by omega, show s + j - s = j by omega, List.take_succ_eq_append_getElem (by rw [List.length_drop]; omega), leastM_snoc]
  simp
theorem getD_rs {rs : List Rc} {s : Nat} (h : s < rs.length) : rs.getD s rcZ = rs[s] := by simp [List.getD, h]
theorem elem_dat : ElemK 5 101 36 104 := ⟨Tryz.underlying36, _, _, rfl, rfl, rfl, rfl, rfl⟩
structure SetW (b1 : Nat) (a : Option Addr) (g off n c : Nat) (css : List (List Value)) (rs : List Rc) (vo vn vu vt vr : Nat → Option Addr × Nat × Nat) (Kp : World → World → Prop) (R : World → Prop) : Prop where
  c1 : ∀ W, R W → W.cell? ⟨b1, 0, none⟩ = some (.slice a n c)
  ha : 0 < n → a = some ⟨g, off, none⟩
  el : ∀ W, R W → ∀ k (hlt : k < css.length) (u0 u1 u2 u3 u4 u5 u6 : Value), css[k] = [u0, u1, u2, u3, u4, u5, u6] →
      W.cell? ⟨g, off + k * 7, none⟩ = some u0 ∧ W.cell? ⟨g, off + k * 7 + 1, none⟩ = some u1 ∧ W.cell? ⟨g, off + k * 7 + 2, none⟩ = some u2 ∧ W.cell? ⟨g, off + k * 7 + 3, none⟩ = some u3 ∧ W.cell? ⟨g, off + k * 7 + 4, none⟩ = some u4 ∧ W.cell? ⟨g, off + k * 7 + 5, none⟩ = some u5 ∧ W.cell? ⟨g, off + k * 7 + 6, none⟩ = some u6
  bel : ∀ W, R W → ∀ i j (hi : i < rs.length) (hj : j < css.length) (hj' : j < rs.length) (tt : Int) (a1 : Option Addr) (n1 c1 : Nat), Calls Tryz.prog 111 #[.agg #[.slice (vo i).1 (vo i).2.1 (vo i).2.2, .int .i64 rs[i].data.ty, .int .u32 tt, .slice a1 n1 c1], .agg css[j].toArray] W fun e W' => e = .returned (.bool (belR rs[i] rs[j])) ∧ Below W.heap.size W W'
  below : ∀ W W', R W → Below W.heap.size W W' → R W'
  kp : ∀ W W', R W → Kp W W' → R W'
  cell : ∀ k (hk : k < css.length) (hr : k < rs.length), css[k] = [.slice (vo k).1 (vo k).2.1 (vo k).2.2, .int .u32 (rs[k].ttl : Int), .int .i64 rs[k].data.ty, .slice (vn k).1 (vn k).2.1 (vn k).2.2, .slice (vu k).1 (vu k).2.1 (vu k).2.2, .slice (vt k).1 (vt k).2.1 (vt k).2.2, .slice (vr k).1 (vr k).2.1 (vr k).2.2]
structure SetB (wr : World) (b : Nat) (vo : Value) (ty : Int) (t : Nat) (vd : Value) (ds : List (List Value)) (W : World) : Prop where
  q : W.heap[b]? = some (.cells #[vo, .int .i64 ty, .int .u32 (t : Int), vd] 38)
  own : OwnC 5 101 W wr.heap.size vd ds
  below : Below wr.heap.size wr W
  hb : wr.heap.size ≤ b
theorem SetB.keep {wr W W' : World} {b : Nat} {vo vd : Value} {ty : Int} {t : Nat} {ds : List (List Value)} (h : SetB wr b vo ty t vd ds W) (hb : Below W.heap.size W W') : SetB wr b vo ty t vd ds W' :=
  ⟨(hb.block _ (kblock_lt h.q)).trans h.q, OwnK.below h.own hb, h.below.trans (hb.mono h.below.size), h.hb⟩
theorem SetB.ttl {wr W : World} {b : Nat} {vo vd : Value} {ty : Int} {t : Nat} {ds : List (List Value)} (h : SetB wr b vo ty t vd ds W) (t' : Nat) : SetB wr b vo ty t' vd ds (W.setCell ⟨b, 2, none⟩ (.int .u32 (t' : Int))) :=
  ⟨kset h.q 2 _, OwnK.keptB h.own h.q (by decide) 2 _, h.below.setCell (p := ⟨b, 2, none⟩) h.hb _, h.hb⟩
theorem SetB.push {wr W W' : World} {b : Nat} {vo vd vd' : Value} {ty : Int} {t : Nat} {ds ds' : List (List Value)} (h : SetB wr b vo ty t vd ds W) (hg : W.grownBy W' vd.ownBlock) (ho : OwnC 5 101 W' wr.heap.size vd' ds') : SetB wr b vo ty t vd' ds' (W'.setCell ⟨b, 3, none⟩ vd') := by
  have hq := (hg.block b (kblock_lt h.q) (OwnK.ne_block h.own h.q (by decide))).trans h.q
  exact ⟨kset hq 3 _, OwnK.keptB ho hq (by decide) 3 _, (h.below.grown hg h.below.size (OwnK.base_le h.own)).setCell (p := ⟨b, 3, none⟩) h.hb _, h.hb⟩

section
attribute [local go_sem] Oper.semAt_some
set_option maxRecDepth 100000 in
set_option maxHeartbeats 16000000 in
theorem sets1_in (nf : Nat) (hnf : 3 ≤ nf) (l b1 : Nat) (a : Option Addr) (g off n c : Nat) (hnc : n ≤ c) (hn63 : n ≤ 1048576) (css : List (List Value)) (rs : List Rc) (hcl : css.length = n) (hrl : rs.length = n) (vo vn vu vt vr : Nat → Option Addr × Nat × Nat) (base : Nat) (Kp : World → World → Prop) (R : World → Prop) (H : SetW b1 a g off n c css rs vo vn vu vt vr Kp R)
    (J Jx : List (SegD n) → World → Prop) (hJ : ∀ pre W W', J pre W → Below W.heap.size W W' → J pre W') (hB : ∀ W, R W → base ≤ W.heap.size)
    (hY : ∀ pre x W, J pre W → DatO base css x W → pre.length < n → YieldAt Fence.wide (nf - 1) Tryz.prog l (setV (fun k => .slice (vo k).1 (vo k).2.1 (vo k).2.2) rs x) W fun e W' =>
      (e = .returned (.bool true) ∧ J (pre ++ [x]) W' ∧ Kp W W') ∨ (e = .returned (.bool false) ∧ Jx (pre ++ [x]) W'))
    (W : World) (hR : R W) (h0 : J [] W) :
    CallsIn Fence.wide nf Tryz.prog 110 #[.func (.yield l) #[] #[], .pointer (some ⟨b1, 0, none⟩)] W fun e W' => (∃ v, e = .returned v) ∧
      ((∃ ys : List (SegD n), ys.map (·.1.1) = segsS rs ∧ J ys W') ∨ (∃ pre : List (SegD n), (pre.map (·.1.1) <+: segsS rs) ∧ Jx pre W')) := by
  have hn1' : 1 ≤ nf := by omega
  have HJJ := Lib.hid hJ
  have HCL := Lib.hid hcl; have HRL := Lib.hid hrl; have HBS := Lib.hid hB
  clear hJ hB
  have HR0 := Lib.hid hR
  have HJ0 := Lib.hid h0
  clear hR h0
  refine callsIn_of_wp Tryz.func110 rfl trivial ?_ rfl
  simp only [Tryz.ntmps110, List.size_toArray, List.length_cons, List.length_nil, Nat.reduceAdd, Nat.reduceSub, Array.replicate_succ, Array.replicate_zero, List.push_toArray, List.append_toArray, List.nil_append, List.cons_append]
  gi_wp2
  gi_loopw [3] (fun v3 wr => ∃ (s : Nat) (pre : List (SegD n)), v3 = .int .i64 s ∧ s ≤ n ∧ Hid (pre.map (·.1.1) ++ leftS rs s = segsS rs ∧ pre.length ≤ s) ∧ Hid (J pre wr) ∧ Hid (R wr))
    (fun v3 _ => n - (intOf v3).toNat)
  case atStart => exact ⟨0, [], rfl, Nat.zero_le _, Lib.hid ⟨rfl, Nat.zero_le _⟩, HJ0, HR0⟩
  case round =>
    obtain ⟨s, pre, rfl, hs, HP, HJ, HR⟩ := hrel
    generalize wr = w0 at *
    have hc0 := H.c1 _ HR.out
    by_cases hlt : s < n
    · have ha := H.ha (by omega)
      subst ha
      have hltz : (s : Int) < (n : Int) := by omega
      have hsr : s < rs.length := by omega
      have hsc : s < css.length := by omega
      have es := H.cell s hsc hsr
      obtain ⟨e0, e1, e2, e3, e4, e5, e6⟩ := H.el _ HR.out s hsc _ _ _ _ _ _ _ es
      have hc2 : W.cell? ⟨0, 0, none⟩ = W.cell? ⟨0, 0, none⟩ := rfl
      have HT0 : ttlS rs s s = rs[s].ttl := by rw [ttlS_self, getD_rs hsr]
      have hty : (rs.getD s rcZ).data.ty = rs[s].data.ty := by rw [getD_rs hsr]
      have HTY := Lib.hid hty
      clear hc2 hty
      gi_wp2_with fail
      clear e0 e1 e2 e3 e4 e5 e6 hc0
      gi_loopw [6] (fun v6 wq => ∃ (e : Nat) (ad : Option Addr) (cd : Nat), v6 = .int .i64 e ∧ s ≤ e ∧ e ≤ n ∧ Hid (e ≤ nxtS rs s) ∧ Hid (SetB w0 (w0.heap.size + 1) (.slice (vo s).1 (vo s).2.1 (vo s).2.2) rs[s].data.ty (ttlS rs s e) (.slice ad (e - s) cd) (dcs css s e) wq)) (fun v6 _ => n - (intOf v6).toNat)
      case atStart =>
        exact ⟨s, none, 0, rfl, Nat.le_refl _, by omega, Lib.hid (by have := nxtS_lt hsr; omega), Lib.hid (by
          rw [HT0, Nat.sub_self, show dcs css s s = [] by unfold dcs; rw [Nat.sub_self]; simp]
          refine ⟨?_, OwnK.nil _ _, ((Below.refl _ w0).alloc (Nat.le_refl _) _).alloc (by simp) _, by omega⟩
          have := knew (w0.alloc (.cells #[.slice (vo s).1 (vo s).2.1 (vo s).2.2, .int .u32 (rs[s].ttl : Int), .int .i64 rs[s].data.ty, .slice (vn s).1 (vn s).2.1 (vn s).2.2, .slice (vu s).1 (vu s).2.1 (vu s).2.2, .slice (vt s).1 (vt s).2.1 (vt s).2.2, .slice (vr s).1 (vr s).2.1 (vr s).2.2] 103)) (.cells #[.slice (vo s).1 (vo s).2.1 (vo s).2.2, .int .i64 rs[s].data.ty, .int .u32 (rs[s].ttl : Int), .slice none 0 0] 38)
          rw [World.size_alloc] at this
          exact this)⟩
      case round =>
        obtain ⟨e, ad, cd, rfl, he1, he2, HE, HS⟩ := hrel
        have hC := HS.out.keep (below_drew0 wr)
        obtain ⟨t, ht⟩ : ∃ t, ttlS rs s e = t := ⟨_, rfl⟩
        obtain ⟨ds, hds⟩ : ∃ ds, dcs css s e = ds := ⟨_, rfl⟩
        obtain ⟨k, hk⟩ : ∃ k, e - s = k := ⟨_, rfl⟩
        rw [ht, hds, hk] at hC
        have HSE := Lib.hid (show SetB w0 (w0.heap.size + 1) (.slice (vo s).1 (vo s).2.1 (vo s).2.2) rs[s].data.ty t (.slice ad k cd) ds wr by rw [← ht, ← hds, ← hk]; exact HS.out)
        have HTE := Lib.hid ht; have HDE := Lib.hid hds; have HKE := Lib.hid hk
        clear ht hds hk HS
        by_cases hen : e < n
        · have henz : (e : Int) < (n : Int) := by omega
          have her : e < rs.length := by omega
          have hec : e < css.length := by omega
          have ee := H.cell e hec her
          have hRp := fun p : WIn (fun W => SetB w0 (w0.heap.size + 1) (.slice (vo s).1 (vo s).2.1 (vo s).2.2) rs[s].data.ty t (.slice ad k cd) ds W) => H.below _ _ HR.out p.ok.below
          have hne : Nonempty (WIn (fun W => SetB w0 (w0.heap.size + 1) (.slice (vo s).1 (vo s).2.1 (vo s).2.2) rs[s].data.ty t (.slice ad k cd) ds W)) := ⟨⟨_, hC⟩⟩
          have k1 := fun p : WIn (fun W => SetB w0 (w0.heap.size + 1) (.slice (vo s).1 (vo s).2.1 (vo s).2.2) rs[s].data.ty t (.slice ad k cd) ds W) => H.c1 _ (hRp p)
          have f1 := fun p : WIn (fun W => SetB w0 (w0.heap.size + 1) (.slice (vo s).1 (vo s).2.1 (vo s).2.2) rs[s].data.ty t (.slice ad k cd) ds W) => H.el _ (hRp p) e hec _ _ _ _ _ _ _ ee
          have b0 := fun p : WIn (fun W => SetB w0 (w0.heap.size + 1) (.slice (vo s).1 (vo s).2.1 (vo s).2.2) rs[s].data.ty t (.slice ad k cd) ds W) => kcell p.ok.q 0 _ rfl; have b1' := fun p : WIn (fun W => SetB w0 (w0.heap.size + 1) (.slice (vo s).1 (vo s).2.1 (vo s).2.2) rs[s].data.ty t (.slice ad k cd) ds W) => kcell p.ok.q 1 _ rfl; have b2 := fun p : WIn (fun W => SetB w0 (w0.heap.size + 1) (.slice (vo s).1 (vo s).2.1 (vo s).2.2) rs[s].data.ty t (.slice ad k cd) ds W) => kcell p.ok.q 2 _ rfl; have b3 := fun p : WIn (fun W => SetB w0 (w0.heap.size + 1) (.slice (vo s).1 (vo s).2.1 (vo s).2.2) rs[s].data.ty t (.slice ad k cd) ds W) => kcell p.ok.q 3 _ rfl
          have j0 := fun p => (f1 p).1; have j1 := fun p => (f1 p).2.1; have j2 := fun p => (f1 p).2.2.1; have j3 := fun p => (f1 p).2.2.2.1; have j4 := fun p => (f1 p).2.2.2.2.1; have j5 := fun p => (f1 p).2.2.2.2.2.1; have j6 := fun p => (f1 p).2.2.2.2.2.2
          have hcg := fun p : WIn (fun W => SetB w0 (w0.heap.size + 1) (.slice (vo s).1 (vo s).2.1 (vo s).2.2) rs[s].data.ty t (.slice ad k cd) ds W) => Calls.cls (C := fun W => SetB w0 (w0.heap.size + 1) (.slice (vo s).1 (vo s).2.1 (vo s).2.2) rs[s].data.ty t (.slice ad k cd) ds W) ((H.bel _ (hRp p) s e hsr hec her (t : Int) ad k cd).mono fun _ _ ⟨hq, hb⟩ => ⟨hq, p.ok.keep hb⟩)
          rw [ee] at hcg
          obtain ⟨sm, hsm⟩ : ∃ sm, belR rs[s] rs[e] = sm := ⟨_, rfl⟩
          rw [hsm] at hcg
          have HSM := Lib.hid hsm; have HEE := Lib.hid ee
          clear f1 hsm ee
          cases sm
          · gi_wp2_with fail
            refine wpIn_wide.2 ?_
            refine wp_region_cls (fun W => SetB w0 (w0.heap.size + 1) (.slice (vo s).1 (vo s).2.1 (vo s).2.2) rs[s].data.ty t (.slice ad k cd) ds W) follows_mixed (by kernel_rfl) hC ?_
            repeat (go_big_quiet_step (exact hcg _))
            refine wpQuiet_nil ?_
            rintro _ ⟨p, rfl⟩
            have hse : s ≠ e := fun h => by subst h; have := HSM.out; rw [belR_refl] at this; cases this
            have HRp := Lib.hid (H.below _ _ HR.out p.ok.below)
            have HPOK := Lib.hid p.ok
            have hnx := nxtS_stop (rs := rs) (s := s) (e := e) hsr (by omega) HE.out (Or.inr ⟨her, HSM.out⟩)
            have hx : s < e ∧ e ≤ n := ⟨by omega, by omega⟩
            obtain ⟨fn, tmps, assign, body, hy, hRd⟩ := hY pre ⟨((s, e), (ad, cd)), hx⟩ p.w (HJJ.out _ _ _ HJ.out p.ok.below) (by
              have h := OwnK.weaken p.ok.own (HBS.out _ HR.out)
              show OwnC 5 101 p.w base (.slice ad (e - s) cd) (dcs css s e)
              rw [HDE.out, HKE.out]
              exact h) (by have := HP.out.2; omega)
            unfold setV at hy
            simp only at hy
            rw [HTY.out, HTE.out, HKE.out] at hy
            have y0 := kcell HPOK.out.q 0 _ rfl; have y1 := kcell HPOK.out.q 1 _ rfl; have y2 := kcell HPOK.out.q 2 _ rfl; have y3 := kcell HPOK.out.q 3 _ rfl
            have HRR := Lib.hid hRd
            have HNX := Lib.hid hnx
            have HX := Lib.hid hx
            clear hRd hnx hcg k1 b0 b1' b2 b3 j0 j1 j2 j3 j4 j5 j6 hRp
            gi_wp2
            refine HRR.out.mono ?_
            rintro e' W3 (⟨rfl, hJ3, hk3⟩ | ⟨rfl, hJx3⟩)
            · have HR3 := Lib.hid (H.kp _ _ HRp.out hk3)
              have HJ3 := Lib.hid hJ3
              clear hJ3 hk3 HRR
              gi_wp2
              go_roundw
              case measure => simp [intOf]; omega
              case rel =>
                refine ⟨e, pre ++ [⟨((s, e), (ad, cd)), HX.out⟩], rfl, by omega, Lib.hid ⟨?_, by have := HP.out.2; simp; omega⟩, HJ3, HR3⟩
                have hp := HP.out.1
                rw [leftS_step hsr, ← HNX.out] at hp
                simpa using hp
            · gi_wp2
              refine bodyPost_ret (results_none rfl _ _ _) rfl ?_
              exact ⟨⟨_, rfl⟩, .inr ⟨_, ⟨leftS rs e, by have hp := HP.out.1; rw [leftS_step hsr, ← HNX.out] at hp; simpa using hp⟩, hJx3⟩⟩
          · gi_wp2_with fail
            refine wpIn_wide.2 ?_
            refine wp_region_cls (fun W => SetB w0 (w0.heap.size + 1) (.slice (vo s).1 (vo s).2.1 (vo s).2.2) rs[s].data.ty t (.slice ad k cd) ds W) follows_mixed (by kernel_rfl) hC ?_
            repeat (go_big_quiet_step (exact hcg _))
            refine wpQuiet_nil ?_
            rintro _ ⟨p, rfl⟩
            have hS6 := p.ok.keep (below_drew0 p.w)
            have hR6 := H.below _ _ HR.out hS6.below
            have q2 := kcell hS6.q 2 _ rfl
            have f2 := kfrozen hS6.q 2
            have r1 := H.c1 _ hR6
            obtain ⟨-, m1, -⟩ := H.el _ hR6 e hec _ _ _ _ _ _ _ HEE.out
            obtain ⟨te, hte⟩ : ∃ te, rs[e].ttl = te := ⟨_, rfl⟩
            rw [hte] at m1
            obtain ⟨mt, hmt⟩ : ∃ m, minT t te = m := ⟨_, rfl⟩
            have hmz : min (t : Int) (te : Int) = (mt : Int) := by rw [← hmt, minT_min]; omega
            have HT1 := Lib.hid (show ttlS rs s (e + 1) = mt by rw [ttlS_snoc he1 her, HTE.out, hte, hmt])
            have HS6 := Lib.hid hS6
            clear hmt hte hcg k1 b0 b1' b2 b3 j0 j1 j2 j3 j4 j5 j6 hRp hS6 hR6 hC hne
            have mixed := (follows_mixed : Tryz.prog.follows .mixedOrders = true)
            generalize p.w = W6 at *
            gi_wp2_with fail
            refine wpIn_wide.2 ?_
            go_big_region_o
            all_goals
              obtain ⟨xe, hxe⟩ : ∃ x, rs[e].data.ty = x := ⟨_, rfl⟩
              have hS7 : SetB w0 (w0.heap.size + 1) (.slice (vo s).1 (vo s).2.1 (vo s).2.2) rs[s].data.ty mt (.slice ad k cd) ds ((W6.setCell ⟨w0.heap.size + 1, 2, none⟩ (.int .u32 (mt : Int))).drew) := HS6.out.ttl mt
              obtain ⟨W7, hW7⟩ : ∃ W, (W6.setCell ⟨w0.heap.size + 1, 2, none⟩ (.int .u32 (mt : Int))).drew = W := ⟨_, rfl⟩
              rw [hW7] at hS7 ⊢
              clear hW7 q2 f2 r1 m1 HS6
              have hS8 := hS7.keep (below_drew0 W7)
              have hSX : SetB w0 (w0.heap.size + 1) (.slice (vo s).1 (vo s).2.1 (vo s).2.2) rs[s].data.ty mt (.slice ad k cd) ds ((W7.alloc (.cells #[.int .i64 xe, .slice (vn e).1 (vn e).2.1 (vn e).2.2, .slice (vu e).1 (vu e).2.1 (vu e).2.2, .slice (vt e).1 (vt e).2.1 (vt e).2.2, .slice (vr e).1 (vr e).2.1 (vr e).2.2] 101)).drew) := hS8.keep ((Below.refl _ W7.drew).alloc (Nat.le_refl _) _)
              have HSX := Lib.hid hSX
              have hR8 := H.below _ _ HR.out hS8.below
              have q3 := kcell hS8.q 3 _ rfl
              have q3' := kcell hSX.q 3 _ rfl
              have r1 := H.c1 _ hR8
              have rX := H.c1 _ (H.below _ _ HR.out hSX.below)
              obtain ⟨-, -, m2, m3, m4, m5, m6⟩ := H.el _ hR8 e hec _ _ _ _ _ _ _ HEE.out
              rw [hxe] at m2
              have HXE := Lib.hid hxe
              clear hxe
              have HDL := Lib.hid (show ds.length = k by rw [← HDE.out, dcs_len (by omega), HKE.out])
              have HD5 := Lib.hid (show ∀ cs ∈ ([[.int .i64 xe, .slice (vn e).1 (vn e).2.1 (vn e).2.2, .slice (vu e).1 (vu e).2.1 (vu e).2.2, .slice (vt e).1 (vt e).2.1 (vt e).2.2, .slice (vr e).1 (vr e).2.1 (vr e).2.2]] : List (List Value)), cs.length = 5 by intro cs hc; rw [List.mem_singleton] at hc; subst hc; rfl)
              have HD1 := Lib.hid (show ∀ cs ∈ ([[.int .i64 xe, .slice (vn e).1 (vn e).2.1 (vn e).2.2, .slice (vu e).1 (vu e).2.1 (vu e).2.2, .slice (vt e).1 (vt e).2.1 (vt e).2.2, .slice (vr e).1 (vr e).2.1 (vr e).2.2]] : List (List Value)), ∀ u ∈ cs, u.oneCell' = true by
                intro cs hc u hu; rw [List.mem_singleton] at hc; subst hc
                simp only [List.mem_cons, List.not_mem_nil, or_false] at hu
                rcases hu with rfl | rfl | rfl | rfl | rfl <;> rfl)
              have HKN := Lib.hid (show k ≤ 1048576 by have := HKE.out; omega)
              have H8 := Lib.hid (fun (ops : Array Oper) (o : Oper) (a : Act) (K : Act → World → Prop) (Q : Exit → Act → World → Prop) (E : Prop) (h1 : o.guard = none) (h2 : o.op = .call { callee := .builtin .append, args := #[.tmp 46, .tmp 52], argTypes := #[36, 36] }) (h3 : a.eval (.tmp 46) = .slice ad k cd) (h4 : a.eval (.tmp 52) = .slice (some ⟨W7.heap.size, 0, none⟩) 1 1) h => step_append_slk (ops := ops) (a := a) (K := K) (Q := Q) (E := E) ((W7.alloc (.cells #[.int .i64 xe, .slice (vn e).1 (vn e).2.1 (vn e).2.2, .slice (vu e).1 (vu e).2.1 (vu e).2.2, .slice (vt e).1 (vt e).2.1 (vt e).2.2, .slice (vr e).1 (vr e).2.1 (vr e).2.2] 101)).drew) h1 (.tmp 46) (.tmp 52) elem_dat (by decide) h2 w0.heap.size _ ds h3 HSX.out.own _ [[.int .i64 xe, .slice (vn e).1 (vn e).2.1 (vn e).2.2, .slice (vu e).1 (vu e).2.1 (vu e).2.2, .slice (vt e).1 (vt e).2.1 (vt e).2.2, .slice (vr e).1 (vr e).2.1 (vr e).2.2]] h4 (slK_blk (css := [[.int .i64 xe, .slice (vn e).1 (vn e).2.1 (vn e).2.2, .slice (vu e).1 (vu e).2.1 (vu e).2.2, .slice (vt e).1 (vt e).2.1 (vt e).2.2, .slice (vr e).1 (vr e).2.1 (vr e).2.2]]) (knew W7 _)) HD5.out HD1.out HSX.out.below.size (by have := HKN.out; rw [HDL.out]; unfold maxLen; simp <;> omega) (by have := HKN.out; rw [HDL.out]; simp <;> omega) h)
              clear hS7 hS8 hSX hR8
              gi_wp2_with fail
              refine wpIn_wide.2 ?_
              go_region_law ((with_reducible refine H8.out _ _ _ _ _ _ ?_ ?_ ?_ ?_ ?_); exact rfl; exact rfl; exact rfl; exact rfl; intro v8 w8 ho8 hg8; obtain ⟨a8, z8, e8⟩ := OwnK.shape ho8; rw [List.length_append, HDL.out] at e8; simp only [List.length_cons, List.length_nil, Nat.zero_add] at e8; subst e8; have HS9 := Lib.hid (HSX.out.push hg8 ho8); have hq8 := (hg8.block _ (kblock_lt HSX.out.q) (OwnK.ne_block HSX.out.own HSX.out.q (by decide))).trans HSX.out.q; have c8 := kcell hq8 3 _ rfl; have f8 := kfrozen hq8 3; clear ho8 hg8 hq8)
              all_goals
                have HNX := Lib.hid (show e + 1 ≤ nxtS rs s by
                  rcases Nat.lt_or_ge s e with h | h
                  · exact nxtS_more hsr h HE.out her HSM.out
                  · obtain rfl : e = s := by omega
                    have := nxtS_lt hsr; omega)
                have HFI := Lib.hid (show SetB w0 (w0.heap.size + 1) (.slice (vo s).1 (vo s).2.1 (vo s).2.2) rs[s].data.ty (ttlS rs s (e + 1)) (.slice a8 (e + 1 - s) z8) (dcs css s (e + 1)) (w8.setCell ⟨w0.heap.size + 1, 3, none⟩ (.slice a8 (k + 1) z8)) by
                  rw [HT1.out, dcs_snoc he1 hec, HDE.out, show e + 1 - s = k + 1 by have := HKE.out; omega]
                  have e : css[e].drop 2 = [.int .i64 xe, .slice (vn e).1 (vn e).2.1 (vn e).2.2, .slice (vu e).1 (vu e).2.1 (vu e).2.2, .slice (vt e).1 (vt e).2.1 (vt e).2.2, .slice (vr e).1 (vr e).2.1 (vr e).2.2] := by rw [HEE.out, HXE.out]; rfl
                  rw [e]; exact HS9.out)
                clear q3 q3' r1 rX m2 m3 m4 m5 m6 c8 f8 HS9
                gi_wp2
                go_roundw
                case measure => simp [intOf]; omega
                case rel => exact ⟨e + 1, a8, z8, by go_num, by omega, by omega, HNX, HFI⟩
        · have henz : ¬ (e : Int) < (n : Int) := by omega
          have hRp := fun p : WIn (fun W => SetB w0 (w0.heap.size + 1) (.slice (vo s).1 (vo s).2.1 (vo s).2.2) rs[s].data.ty t (.slice ad k cd) ds W) => H.below _ _ HR.out p.ok.below
          have hne : Nonempty (WIn (fun W => SetB w0 (w0.heap.size + 1) (.slice (vo s).1 (vo s).2.1 (vo s).2.2) rs[s].data.ty t (.slice ad k cd) ds W)) := ⟨⟨_, hC⟩⟩
          have k1 := fun p : WIn (fun W => SetB w0 (w0.heap.size + 1) (.slice (vo s).1 (vo s).2.1 (vo s).2.2) rs[s].data.ty t (.slice ad k cd) ds W) => H.c1 _ (hRp p)
          gi_wp2_with fail
          refine wpIn_wide.2 ?_
          refine wp_region_cls (fun W => SetB w0 (w0.heap.size + 1) (.slice (vo s).1 (vo s).2.1 (vo s).2.2) rs[s].data.ty t (.slice ad k cd) ds W) follows_mixed (by kernel_rfl) hC ?_
          repeat (go_big_quiet_step (fail))
          refine wpQuiet_nil ?_
          rintro _ ⟨p, rfl⟩
          have HRp := Lib.hid (H.below _ _ HR.out p.ok.below)
          have HPOK := Lib.hid p.ok
          have hnx := nxtS_stop (rs := rs) (s := s) (e := e) hsr (by omega) HE.out (Or.inl (by omega))
          have hx : s < e ∧ e ≤ n := ⟨by omega, by omega⟩
          obtain ⟨fn, tmps, assign, body, hy, hRd⟩ := hY pre ⟨((s, e), (ad, cd)), hx⟩ p.w (HJJ.out _ _ _ HJ.out p.ok.below) (by
            have h := OwnK.weaken p.ok.own (HBS.out _ HR.out)
            show OwnC 5 101 p.w base (.slice ad (e - s) cd) (dcs css s e)
            rw [HDE.out, HKE.out]
            exact h) (by have := HP.out.2; omega)
          unfold setV at hy
          simp only at hy
          rw [HTY.out, HTE.out, HKE.out] at hy
          have y0 := kcell HPOK.out.q 0 _ rfl; have y1 := kcell HPOK.out.q 1 _ rfl; have y2 := kcell HPOK.out.q 2 _ rfl; have y3 := kcell HPOK.out.q 3 _ rfl
          have HRR := Lib.hid hRd
          have HNX := Lib.hid hnx
          have HX := Lib.hid hx
          clear hRd hnx k1 hRp
          gi_wp2
          refine HRR.out.mono ?_
          rintro e' W3 (⟨rfl, hJ3, hk3⟩ | ⟨rfl, hJx3⟩)
          · have HR3 := Lib.hid (H.kp _ _ HRp.out hk3)
            have HJ3 := Lib.hid hJ3
            clear hJ3 hk3 HRR
            gi_wp2
            go_roundw
            case measure => simp [intOf]; omega
            case rel =>
              refine ⟨e, pre ++ [⟨((s, e), (ad, cd)), HX.out⟩], rfl, by omega, Lib.hid ⟨?_, by have := HP.out.2; simp; omega⟩, HJ3, HR3⟩
              have hp := HP.out.1
              rw [leftS_step hsr, ← HNX.out] at hp
              simpa using hp
          · gi_wp2
            refine bodyPost_ret (results_none rfl _ _ _) rfl ?_
            exact ⟨⟨_, rfl⟩, .inr ⟨_, ⟨leftS rs e, by have hp := HP.out.1; rw [leftS_step hsr, ← HNX.out] at hp; simpa using hp⟩, hJx3⟩⟩
    · obtain rfl : s = n := by omega
      gi_wp2
      go_end0
      have hp := HP.out.1
      rw [leftS_end rs (by omega), List.append_nil] at hp
      exact ⟨⟨_, rfl⟩, .inl ⟨pre, hp, HJ.out⟩⟩
end
end Go.Proofs.YtckammgnmgkieaaGreat

/-
  step_append_slk with its arguments ahead: for the arms of go_region_law.
-/
namespace Go.Proofs.YtckammgnmgkieaaGreat
open Go.RowKit Go.Shelf
set_option maxRecDepth 20000
theorem step_append_h {S T : TypeId} {k bytes : Nat} (W : World) (s x : Operand) (hE : ElemK k T S bytes) (hk0 : 0 < k)
    (base : Nat) (v : Value) (xs : List (List Value)) (hown : OwnC k T W base v xs)
    (src : Value) (ys : List (List Value)) (hsrc : SlK W src ys) (hyk : ∀ cs ∈ ys, cs.length = k) (hy1 : ∀ cs ∈ ys, ∀ u ∈ cs, u.oneCell' = true)
    (hbase : base ≤ W.heap.size) (hk : xs.length + ys.length ≤ maxLen) (hk2 : (xs.length + ys.length) * bytes ≤ 140737488355328)
    (ops : Array Oper) (o : Oper) (a : Act) (K : Act → World → Prop) (Q : Exit → Act → World → Prop) (E : Prop) (hgd : o.guard = none)
    (ho : o.op = .call { callee := .builtin .append, args := #[s, x], argTypes := #[S, S] }) (hs : a.eval s = v) (hx : a.eval x = src)
    (h : ∀ v' w', OwnC k T w' base v' (xs ++ ys) → W.grownBy w' v.ownBlock → K (a.put o.dst v') w') :
    if Region.wanted o (yielded ops a.tmps) = true then Oper.wp Tryz.prog o a W K Q else E :=
  step_append_slk W hgd s x hE hk0 ho base v xs hs hown src ys hx hsrc hyk hy1 hbase hk hk2 h
end Go.Proofs.YtckammgnmgkieaaGreat

