import Derived.Deep.RegionHeld3
import Derived.Test.YtnpnfajgphpabaaGreatMQ28
import Derived.Test.YtnpnfajgphpabaaGreatMQ23
namespace Go.Proofs.YtnpnfajgphpabaaGreat.Fls
set_option linter.unusedVariables false
set_option linter.unusedSimpArgs false
set_option maxRecDepth 1000000
set_option maxHeartbeats 16000000
open Go.RowKit Go.Shelf Go.Sort Go.Lib
set_option linter.unusedSectionVars false
variable {P : Program} {α : Type} [Inhabited α]
theorem qcm {k : Nat} (L : SLay P k) (hF : P.funcs[80]? = some Tryz.f80) (hFr : P.funcs[101]? = some Tryz.f101) (hFs : P.funcs[116]? = some Tryz.f116)
 (es : ∀ args w, (callFunc 116 args).run P w = .ok (.enter 116 args) w) (er : ∀ args w, (callFunc 101 args).run P w = .ok (.enter 101 args) w) (em : ∀ args w, (callFunc 80 args).run P w = .ok (.enter 80 args) w)
 (enc : α → List Value) (hk : ∀ x, (enc x).length = k) (h1 : ∀ x, ∀ v ∈ enc x, v.oneCell' = true) (cf : α → α → Int) (tg : α → Nat) (hO : Stb.COrd cf) (g : Nat) (cb : Array Value)
 (blk off cap a m b : Nat) (hma : m ≠ a + 1) (hbm : b ≠ m + 1) (d : Array α) (w : World) (hcmp : CmpB P g cb enc cf w blk) (hH : HoldsK enc k w blk off d) (hblk : blk < w.heap.size) (hM : Stb.Mrg cf tg a m b d) (hsz : d.size < 4611686018427387904)
 (ih : ∀ (a' m' b' : Nat) (d' : Array α) (W : World), b' - a' < b - a → d'.size = d.size → SW enc k w blk off d' W → Stb.Mrg cf tg a' m' b' d' → Calls P 80 #[.slice (some ⟨blk, off, none⟩) d.size cap, .int .i64 a', .int .i64 m', .int .i64 b', .func (.func g) #[] cb] W (qaQ enc k cf tg W blk off d' a' b')) :
 Calls P 80 #[.slice (some ⟨blk, off, none⟩) d.size cap, .int .i64 a, .int .i64 m, .int .i64 b, .func (.func g) #[] cb] w (qaQ enc k cf tg w blk off d a b) := by
 have mixed := L.mixed; have t0 := L.t0; have a0 := L.a0; have z0 := L.z0; have v0 := L.v0; have t3 := L.t3; have a3 := L.a3; have z3 := L.z3; have v3 := L.v3; have t4 := L.t4; have a4 := L.a4; have z4 := L.z4; have v4 := L.v4; have t85 := L.t85; have a85 := L.a85; have z85 := L.z85; have v85 := L.v85; have t43 := L.t43; have a43 := L.a43; have z43 := L.z43; have v43 := L.v43; have t69 := L.t69; have a69 := L.a69; have z69 := L.z69; have v69 := L.v69; have aE := L.aE; have zE := L.zE
 have u43 := run_underlying L.t43
 have ham : a + 2 ≤ m := by have := hM.am; omega
 have hmb : m + 2 ≤ b := by have := hM.mb; omega
 have hb : b ≤ d.size := hM.bs
 have HM := qH0 hM
 have HC := qH0 hcmp
 have eg := hcmp.eg
 have HK := qH0 hk; have H1 := qH0 h1
 have HST : Hid (SW enc k w blk off d w) := qH0 (SW.refl hH hblk)
 have HR := qH0 (fun (s e : Nat) (W : World) (hW : SW enc k w blk off d W) (h1' : s < m) (h2 : m < e) (h3 : e ≤ d.size) => qcB L hFr hFs es enc hk h1 blk off cap s m e d (.func (.func g) #[] cb) W hW.row hW.lt' h1' h2 h3 (by omega))
 have IH := qH0 ih
 have c1 : ((m : Int) - (a : Int) == 1) = false := by simp; omega
 have c2 : ((b : Int) - (m : Int) == 1) = false := by simp; omega
 obtain ⟨mid, hmid⟩ : ∃ h : Nat, (a + b) / 2 = h := ⟨_, rfl⟩
 have hmidz : ((a : Int) + (b : Int)) / 2 = (mid : Int) := by omega
 obtain ⟨n, hn⟩ : ∃ h : Nat, mid + m = h := ⟨_, rfl⟩
 have hnz : (mid : Int) + (m : Int) = (n : Int) := by omega
 obtain ⟨pn, hpn⟩ : ∃ h : Nat, n - 1 = h := ⟨_, rfl⟩
 have hpnz : (n : Int) - 1 = (pn : Int) := by omega
 have k9 : pn + 1 ≤ n := by omega
 have k10 : n ≤ pn + 1 := by omega
 have k1 : a < mid := by omega
 have k2 : mid < b := by omega
 have k4 : n ≤ mid + b := by omega
 have HMID := qH0 hmid; have HN := qH0 hn
 have k5 : a + b ≤ 2 * mid + 1 := by omega
 have k6 : 2 * mid ≤ a + b := by omega
 have k7 : n ≤ mid + m := by omega
 have k8 : mid + m ≤ n := by omega
 clear hcmp hH hk h1 hblk hM hma hbm ih hmid hn hpn
 go_enter hF, Tryz.ntmps80
 go_upto_if 140 with (fail)
 go_cut [20, 21] (fun vs vr wx => (∃ s0 r0 : Nat, vs = .int .i64 s0 ∧ vr = .int .i64 r0 ∧ Hid (MidsAt a m b mid s0 r0)) ∧ w = wx)
 case first =>
  by_cases hc : mid < m
  ·have hcz : (mid : Int) < (m : Int) := by omega
   obtain ⟨s0, hs0⟩ : ∃ s0 : Nat, mid + m - b = s0 := ⟨_, rfl⟩
   have hs0z : (n : Int) - (b : Int) = (s0 : Int) := by omega
   have HX : Hid (MidsAt a m b mid s0 mid) := qH0 (Or.inl ⟨hc, hs0.symm, rfl⟩)
   clear hs0
   go_wp2_with fail
   go_meet
   exact ⟨⟨s0, mid, rfl, rfl, HX⟩, rfl⟩
  ·have hcz : ¬ (mid : Int) < (m : Int) := by omega
   have HX : Hid (MidsAt a m b mid a m) := qH0 (Or.inr ⟨by omega, rfl, rfl⟩)
   go_wp2_with fail
   go_meet
   exact ⟨⟨a, m, rfl, rfl, HX⟩, rfl⟩
 case rest =>
 obtain ⟨⟨s0, r0, rfl, rfl, HX⟩, rfl⟩ := hcut
 have hx := HX.out
 have x1 : a ≤ s0 := by rcases hx with ⟨q1, q2, q3⟩ | ⟨q1, q2, q3⟩ <;> omega
 have x2 : s0 ≤ r0 := by rcases hx with ⟨q1, q2, q3⟩ | ⟨q1, q2, q3⟩ <;> omega
 have x3 : r0 ≤ mid := by rcases hx with ⟨q1, q2, q3⟩ | ⟨q1, q2, q3⟩ <;> omega
 have x4 : r0 ≤ m := by rcases hx with ⟨q1, q2, q3⟩ | ⟨q1, q2, q3⟩ <;> omega
 have x5 : n ≤ s0 + b := by rcases hx with ⟨q1, q2, q3⟩ | ⟨q1, q2, q3⟩ <;> omega
 clear hx
 go_wp2
 go_loopw [20, 21] (fun vs vr wr => ∃ (s r : Nat), vs = .int .i64 s ∧ vr = .int .i64 r ∧ s0 ≤ s ∧ s ≤ r ∧ r ≤ r0 ∧ Hid (Mids cf n s0 r0 s r d) ∧ Hid (SW enc k w blk off d wr)) (fun vs vr _ => (intOf vr).toNat - (intOf vs).toNat)
 case atStart => exact ⟨s0, r0, rfl, rfl, qN0, x2, qN0, qH0 ⟨Or.inl rfl, Or.inl rfl⟩, HST⟩
 case round =>
  obtain ⟨s, r, rfl, rfl, hs, hsr, hr, HP, HW⟩ := hrel
  by_cases hlt : s < r
  ·have hltz : (s : Int) < (r : Int) := by omega
   obtain ⟨c, hc⟩ : ∃ h : Nat, (s + r) / 2 = h := ⟨_, rfl⟩
   have hcz : ((s : Int) + (r : Int)) / 2 = (c : Int) := by omega
   obtain ⟨y, hy⟩ : ∃ h : Nat, pn - c = h := ⟨_, rfl⟩
   have hyz : (pn : Int) - (c : Int) = (y : Int) := by omega
   have h1 : s ≤ c := by omega
   have h2 : c < r := by omega
   have h3 : (c : Int) < (d.size : Int) := by omega
   have h4 : (y : Int) < (d.size : Int) := by omega
   have hwy : IntKind.i64.wrap (y : Int) = (y : Int) := by rw [IntKind.wrap_i64]; omega
   have HY : Hid (n - (c + 1) = y ∧ n - c - 1 = y) := qH0 ⟨by omega, by omega⟩
   clear hc hy
   obtain ⟨xc, hxc⟩ : ∃ x, d[c]! = x := ⟨_, rfl⟩
   obtain ⟨xy, hxy⟩ : ∃ x, d[y]! = x := ⟨_, rfl⟩
   have lc : ∀ p : WIn (fun W => SW enc k w blk off d W), Sem.run P (loadCellsFrom ⟨blk, off + c * k, none⟩ 0 k #[]) p.w = .ok (enc xc).toArray p.w := fun p => by
    rw [← hxc]; exact p.ok.load P HK.out c (by omega)
   have ly : ∀ p : WIn (fun W => SW enc k w blk off d W), Sem.run P (loadCellsFrom ⟨blk, off + y * k, none⟩ 0 k #[]) p.w = .ok (enc xy).toArray p.w := fun p => by
    rw [← hxy]; exact p.ok.load P HK.out y (by omega)
   have hne : Nonempty (WIn (fun W => SW enc k w blk off d W)) := ⟨⟨_, HW.out.drew⟩⟩
   have hcg := fun p : WIn (fun W => SW enc k w blk off d W) => HC.out.cls d p xy xc
   have HXC := qH0 hxc; have HXY := qH0 hxy
   clear hxc hxy
   by_cases hlv : cf xy xc < 0
   ·have HN' : Hid (Mids cf n s0 r0 s c d) := qH0 ⟨HP.out.lo, Or.inr (by rw [HY.out.2, HXC.out, HXY.out]; exact hlv)⟩
    go_wp2_with fail
    refine qad (fun W => SW enc k w blk off d W) mixed (by kernel_rfl) HW.out.drew ?_
    repeat (go_big_quiet_step (first | (go_at_fn g; exact hcg _)))
    refine wpQuiet_nil ?_
    rintro _ ⟨p, rfl⟩
    go_wp2
    go_roundw
    case measure => simp [intOf]; omega
    case rel => exact ⟨s, c, rfl, rfl, by omega, by omega, by omega, HN', qH0 p.ok⟩
   ·have hlb : (!decide (cf xy xc < 0)) = true := by simp; omega
    have HN' : Hid (Mids cf n s0 r0 (c + 1) r d) := qH0 ⟨Or.inr (by rw [Nat.add_sub_cancel, HY.out.1, HXC.out, HXY.out]; exact hlv), HP.out.hi⟩
    go_wp2_with fail
    refine qad (fun W => SW enc k w blk off d W) mixed (by kernel_rfl) HW.out.drew ?_
    repeat (go_big_quiet_step (first | (go_at_fn g; exact hcg _)))
    refine wpQuiet_nil ?_
    rintro _ ⟨p, rfl⟩
    go_wp2
    go_roundw
    case measure => simp [intOf]; omega
    case rel => exact ⟨c + 1, r, by go_num, rfl, by omega, by omega, hr, HN', qH0 p.ok⟩
  ·obtain rfl : s = r := by omega
   rename World => wo
   obtain ⟨e, he⟩ : ∃ h : Nat, n - s = h := ⟨_, rfl⟩
   have hez : (n : Int) - (s : Int) = (e : Int) := by omega
   have y1 : e + s ≤ n := by omega
   have y2 : n ≤ e + s := by omega
   have HCP : Hid (Stb.Cutp cf a m b mid s d) := by
    have hp := HP.out
    have hx := HX.out
    have e1 : mid + m - s = n - s := by omega
    refine qH0 ⟨by omega, by omega, by omega, by omega, ?_, ?_⟩
    ·rcases hp.lo with q | q
     ·rcases hx with ⟨q1, q2, q3⟩ | ⟨q1, q2, q3⟩
      ·right; left; omega
      ·left; omega
     ·right; right; rw [e1]; exact q
    ·rcases hp.hi with q | q
     ·rcases hx with ⟨q1, q2, q3⟩ | ⟨q1, q2, q3⟩
      ·right; left; omega
      ·left; omega
     ·right; right; rw [e1]; exact q
   clear he hlt
   go_upto_region 39 with (fail)
   go_cut [185] (fun vc wx => (∃ c : Bool, vc = .bool c ∧ Hid (c = decide (s < m ∧ m < e))) ∧ wo = wx)
   case first =>
    by_cases q1 : s < m
    ·have q1z : (s : Int) < (m : Int) := by omega
     by_cases q2 : m < e
     ·have q2z : (m : Int) < (e : Int) := by omega
      go_wp2_with fail
      go_meet
      exact ⟨⟨true, rfl, qH0 (decide_eq_true (show s < m ∧ m < e from ⟨q1, q2⟩)).symm⟩, rfl⟩
     ·have q2z : ¬ (m : Int) < (e : Int) := by omega
      go_wp2_with fail
      go_meet
      exact ⟨⟨false, rfl, qH0 (decide_eq_false (show ¬ (s < m ∧ m < e) from fun h => q2 h.2)).symm⟩, rfl⟩
    ·have q1z : ¬ (s : Int) < (m : Int) := by omega
     go_wp2_with fail
     go_meet
     exact ⟨⟨false, rfl, qH0 (decide_eq_false (show ¬ (s < m ∧ m < e) from fun h => q1 h.1)).symm⟩, rfl⟩
   case rest =>
   obtain ⟨⟨cc1, rfl, HCCcc1⟩, rfl⟩ := hcut
   go_upto_if 185 with (fail)
   have hms : s ≤ m := by omega
   have hme : m ≤ e := by omega
   have heb : e ≤ b := HCP.out.e |> fun h => by omega
   go_cut [] (fun wx => ∃ d1 : Array α, Hid (Trn enc k w blk off d a b m s e d1 wx))
   case first =>
    cases cc1
    ·have q : ¬ (s < m ∧ m < e) := of_decide_eq_false HCCcc1.out.symm
     have HX' : Hid (Trn enc k w blk off d a b m s e d wo) := by
      refine qH0 ⟨rfl, fun x hx => ?_, permIn_refl d a b, HW.out⟩
      by_cases h : s = m
      ·subst h; rw [Stb.rot_left]
      ·have : e = m := by omega
       subst this; rw [Stb.rot_right]
     clear q
     go_wp2_with fail
     go_meet
     exact ⟨d, HX'⟩
    ·have q : s < m ∧ m < e := of_decide_eq_true HCCcc1.out.symm
     have hr := HR.out s e _ HW.out q.1 q.2 (by omega)
     clear q
     go_wp2_with fail
     go_at_fn 101
     refine hr.mono ?_
     rintro e' w' ⟨rfl, d1, g1, g2, g3, g4⟩
     go_wp2_with fail
     go_meet
     exact ⟨d1, qH0 ⟨g1, g2, permIn_mono _ _ s e a b (by omega) heb hb g3, HW.out.trans g4⟩⟩
   case rest =>
   obtain ⟨d1, HT⟩ := hcut
   rename World => w1
   have HTD : Hid (Trd cf tg a s mid e b d1) := by
    have ht := HT.out
    have hE : mid + m - s = e := by omega
    have t := HM.out.turned hO HCP.out k1 k2 ht.size (by rw [hE]; exact ht.at_)
    rw [hE] at t
    exact qH0 ⟨t.1, t.2.1, t.2.2.1, t.2.2.2.1, t.2.2.2.2⟩
   rename Act → World → Prop => K0
   rename ∀ (a_1 : Act) (w_1 : World), _ → K0 a_1 w_1 => hK
   exact hK _ _ (qb9 L em enc cf tg g cb blk off cap a m b mid s e d d1 w w1 k1 k2 hb hsz (by omega) (by omega) HT HTD IH _ _ _ _ _ _ _ _ _ _ _ _ _ _ _ _ _ _ _ _ _ _ _ _ _ _ _ _ _ _ _ _ _ _ _ _ _ _ _ _ _ _ _ _ _ _ _ _ _ _ _ _ _ _ _ _ _ _ _ _ _ _ _ _ _ _ _ _ _ _ _ _ _ _ _ _ _ _ _ _ _ _ _ _ _ _ _ _ _ _ _ _ _ _ _ _ _ _ _ _ _ _ _ _ _ _ _ _ _ _ _ _ _ _ _ _ _ _ _ _ _ _ _ _ _ _ _ _ _ _ _ _ _ _ _ _ _ _ _ _ _ _ _ _ _ _ _ _ _ _ _ _ _ _ _ _ _ _ _ _ _ _ _ _ _ _ _ _ _ _ _ _ _ _ _ _ _ _ _ _ _ _ _ _ _ _ _ _ _ _ _ _ _ _ _ _ _ _ _ _ _ _ _ _ _ _ _ _ _ _ _ _ )
end Go.Proofs.YtnpnfajgphpabaaGreat.Fls

namespace Go.Proofs.YtnpnfajgphpabaaGreat.Fls
set_option maxRecDepth 1000000
set_option maxHeartbeats 8000000
open Go.RowKit Go.Shelf Go.Sort Go.Lib
set_option linter.unusedSectionVars false
variable {P : Program} {α : Type} [Inhabited α]
structure SFun (P : Program) : Prop where
 fs : P.funcs[116]? = some Tryz.f116
 fr : P.funcs[101]? = some Tryz.f101
 fi : P.funcs[79]? = some Tryz.f79
 fm : P.funcs[80]? = some Tryz.f80
 ft : P.funcs[53]? = some Tryz.f53
 es : ∀ args w, (callFunc 116 args).run P w = .ok (.enter 116 args) w
 er : ∀ args w, (callFunc 101 args).run P w = .ok (.enter 101 args) w
 ei : ∀ args w, (callFunc 79 args).run P w = .ok (.enter 79 args) w
 em : ∀ args w, (callFunc 80 args).run P w = .ok (.enter 80 args) w
theorem qco {k : Nat} (L : SLay P k) (F : SFun P) (enc : α → List Value) (hk : ∀ x, (enc x).length = k) (h1 : ∀ x, ∀ v ∈ enc x, v.oneCell' = true) (cf : α → α → Int) (tg : α → Nat) (hO : Stb.COrd cf) (g : Nat) (cb : Array Value)
 (blk off cap N : Nat) (hN : N < 4611686018427387904) (w : World) (hcmp : CmpB P g cb enc cf w blk) : ∀ (n a m b : Nat) (d : Array α) (W : World), b - a ≤ n → d.size = N → SW enc k w blk off d W → Stb.Mrg cf tg a m b d →
 Calls P 80 #[.slice (some ⟨blk, off, none⟩) N cap, .int .i64 a, .int .i64 m, .int .i64 b, .func (.func g) #[] cb] W (qaQ enc k cf tg W blk off d a b)
 | 0, a, m, b, d, W, hn, _, _, hM => by have := hM.am; have := hM.mb; omega
 | n + 1, a, m, b, d, W, hn, hs, hW, hM => by
  subst hs
  have hc := hcmp.later hW.rest
  by_cases hma : m = a + 1
  ·exact qcp L F.fm enc hk h1 cf tg hO g cb blk off cap a m b hma d W hc hW.row hW.lt' hM hN
  by_cases hbm : b = m + 1
  ·exact qca L F.fm enc hk h1 cf tg hO g cb blk off cap a m b hma hbm d W hc hW.row hW.lt' hM hN
  exact qcm L F.fm F.fr F.fs F.es F.er F.em enc hk h1 cf tg hO g cb blk off cap a m b hma hbm d W hc hW.row hW.lt' hM hN
   (fun a' m' b' d' W' hlt hs' hW' hM' => qco L F enc hk h1 cf tg hO g cb blk off cap d.size hN w hcmp n a' m' b' d' W' (by omega) hs' (hW.trans hW') hM')
def qft (enc : α → List Value) (k : Nat) (cf : α → α → Int) (tg : α → Nat) (w : World) (blk off : Nat) (d : Array α) (e : Ending) (w' : World) : Prop :=
 e = .returned (.tuple #[]) ∧ ∃ d' : Array α, PermIn 0 d.size d d' ∧ Stb.Rise cf tg 0 d.size d' ∧ SW enc k w blk off d' w'
structure StbAt (enc : α → List Value) (k : Nat) (w : World) (blk off : Nat) (d : Array α) (Q : Array α → Prop) (dk : Array α) (W : World) : Prop where
 perm : PermIn 0 d.size d dk
 sw : SW enc k w blk off dk W
 q : Q dk
theorem StbAt.next {enc : α → List Value} {k : Nat} {w : World} {blk off : Nat} {d : Array α} {Q Q' : Array α → Prop} {dk d' : Array α} {W W' : World} (h : StbAt enc k w blk off d Q dk W) {a b : Nat} (hb : b ≤ d.size) (hp : PermIn a b dk d') (hw : SW enc k W blk off d' W') (hq : Q' d') : StbAt enc k w blk off d Q' d' W' :=
 ⟨permIn_trans _ _ _ 0 d.size h.perm (permIn_mono _ _ a b 0 d.size (Nat.zero_le _) hb (by rw [h.perm.1]; omega) hp), h.sw.trans hw, hq⟩
theorem sort_stable {k : Nat} (L : SLay P k) (F : SFun P) (enc : α → List Value) (hk : ∀ x, (enc x).length = k) (h1 : ∀ x, ∀ v ∈ enc x, v.oneCell' = true) (cf : α → α → Int) (tg : α → Nat) (hO : Stb.COrd cf) (g : Nat) (cb : Array Value)
 (blk off cap : Nat) (d : Array α) (w : World) (hcmp : CmpB P g cb enc cf w blk) (hH : HoldsK enc k w blk off d) (hblk : blk < w.heap.size) (ht : ∀ i, i < d.size → tg d[i]! = i) (hsz : d.size < 4611686018427387904) :
 Calls P 53 #[.slice (some ⟨blk, off, none⟩) d.size cap, .int .i64 d.size, .func (.func g) #[] cb] w (qft enc k cf tg w blk off d) := by
 have mixed := L.mixed; have t0 := L.t0; have a0 := L.a0; have z0 := L.z0; have v0 := L.v0; have t3 := L.t3; have a3 := L.a3; have z3 := L.z3; have v3 := L.v3; have t4 := L.t4; have a4 := L.a4; have z4 := L.z4; have v4 := L.v4; have t85 := L.t85; have a85 := L.a85; have z85 := L.z85; have v85 := L.v85; have t43 := L.t43; have a43 := L.a43; have z43 := L.z43; have v43 := L.v43; have t69 := L.t69; have a69 := L.a69; have z69 := L.z69; have v69 := L.v69; have aE := L.aE; have zE := L.zE
 have u43 := run_underlying L.t43
 obtain ⟨n, hn⟩ : ∃ n, d.size = n := ⟨_, rfl⟩
 have HNN := qH0 hn
 have hF := F.ft
 have ei := F.ei
 have em := F.em
 have HI := qH0 (fun (dk : Array α) (W : World) (a b : Nat) (hs : dk.size = n) (hW : SW enc k w blk off dk W) (hab : a ≤ b) (hb : b ≤ n) =>
  (show Calls P 79 #[.slice (some ⟨blk, off, none⟩) n cap, .int .i64 a, .int .i64 b, .func (.func g) #[] cb] W (qcM enc k cf W blk off dk a b) from hs ▸ qbT L F.fi enc hk h1 cf g cb blk off cap a b dk W (hcmp.later hW.rest) hW.row hW.lt' hab (by omega) (by omega)))
 have HM := qH0 (fun (dk : Array α) (W : World) (a m b : Nat) (hs : dk.size = n) (hW : SW enc k w blk off dk W) (hM : Stb.Mrg cf tg a m b dk) => qco L F enc hk h1 cf tg hO g cb blk off cap n (by omega) w hcmp (b - a) a m b dk W (qN0) hs hW hM)
 have HS0 : Hid (StbAt enc k w blk off d (Stb.Blk0 cf tg 20 0) d w) := qH0 ⟨permIn_refl d 0 _, SW.refl hH hblk, Stb.Blk0.start ht⟩
 rw [hn] at hsz ⊢
 clear hcmp hH hblk ht hk h1 hn F
 go_enter hF, Tryz.ntmps53
 go_wp2
 go_loopw [7, 8] (fun va vb wr => ∃ (A B : Nat) (dk : Array α), va = .int .i64 A ∧ vb = .int .i64 B ∧ A ≤ n ∧ B ≤ A + 20 ∧ A + 20 ≤ B ∧ Hid (∃ r, A = r * 20) ∧ Hid (StbAt enc k w blk off d (Stb.Blk0 cf tg 20 A) dk wr)) (fun va _ _ => n - (intOf va).toNat)
 case atStart => exact ⟨0, 20, d, rfl, rfl, Nat.zero_le _, by omega, by omega, qH0 ⟨0, by omega⟩, HS0⟩
 case round =>
  obtain ⟨A, B, dk, rfl, rfl, hA, hB1, hB2, HR, HS⟩ := hrel
  have hds : dk.size = n := by rw [HS.out.perm.1]; exact HNN.out
  have HDS := qH0 hds
  clear hds
  by_cases hlt : B ≤ n
  ·have hltz : (B : Int) ≤ (n : Int) := by omega
   have hc := HI.out dk _ A B HDS.out HS.out.sw (by omega) hlt
   go_wp2_with (go_at_fn 79; refine hc.mono ?_; rintro e w' ⟨rfl, g1⟩)
   have HN : Hid (StbAt enc k w blk off d (Stb.Blk0 cf tg 20 B) (insertionSort (Stb.lb cf) dk A B) w') := by
    have hs := HS.out
    have hd := HDS.out
    have hnn := HNN.out
    have hi := Stb.insertion_rise (tg := tg) hO dk A B (by omega) (by omega) (hs.q.tags (by omega))
    obtain ⟨r, rfl⟩ := HR.out
    have hB : B = r * 20 + 20 := by omega
    exact qH0 (hs.next (by omega) hi.1 g1 (hs.q.next (by omega) (by omega) (by omega) hi.1 hi.2))
   have HR' : Hid (∃ r, B = r * 20) := by
    obtain ⟨r, rfl⟩ := HR.out
    exact qH0 ⟨r + 1, by omega⟩
   clear g1 hc
   go_roundw
   case measure => simp [intOf]; omega
   case rel => exact ⟨B, B + 20, _, rfl, by go_num, hlt, qN0, qN0, HR', HN⟩
  ·have hltz : ¬ (B : Int) ≤ (n : Int) := by omega
   have hc := HI.out dk _ A n HDS.out HS.out.sw hA (qN0)
   go_wp2_with (go_at_fn 79; refine hc.mono ?_; rintro e w' ⟨rfl, g1⟩)
   have HN : Hid (StbAt enc k w blk off d (Stb.Blk cf tg 20) (insertionSort (Stb.lb cf) dk A n) w') := by
    have hs := HS.out
    have hd := HDS.out
    have hnn := HNN.out
    have hi := Stb.insertion_rise (tg := tg) hO dk A n hA (by omega) (hs.q.tags (by omega))
    obtain ⟨r, rfl⟩ := HR.out
    have hw := hs.q.next (by omega) hA (by omega) hi.1 hi.2
    have he : (insertionSort (Stb.lb cf) dk (r * 20) n).size = n := hi.1.1.trans hd
    have hw' : Stb.Blk0 cf tg 20 (insertionSort (Stb.lb cf) dk (r * 20) n).size (insertionSort (Stb.lb cf) dk (r * 20) n) := by rw [he]; exact hw
    exact qH0 (hs.next (by omega) hi.1 g1 hw'.whole)
   generalize insertionSort (Stb.lb cf) dk A n = dj at HN
   clear g1 hc HDS HS HR hlt hltz hB1 hB2 hA
   rename World => wo
   go_loopw [6] (fun vs wr => ∃ (s : Nat) (dk : Array α), vs = .int .i64 s ∧ 20 ≤ s ∧ s < 9223372036854775807 ∧ Hid (StbAt enc k w blk off d (Stb.Blk cf tg s) dk wr)) (fun vs _ => n - (intOf vs).toNat)
   case atStart => exact ⟨20, dj, rfl, qN0, by omega, HN⟩
   case round =>
    obtain ⟨s, dk, rfl, hs1, hs2, HS⟩ := hrel
    by_cases hlt : s < n
    ·have hltz : (s : Int) < (n : Int) := by omega
     obtain ⟨t, ht⟩ : ∃ t, 2 * s = t := ⟨_, rfl⟩
     have htz : 2 * (s : Int) = (t : Int) := by omega
     have htz' : (s : Int) * 2 = (t : Int) := by omega
     have htb : (t : Int) ≤ 9223372036854775806 := by omega
     have htp : s < t := by omega
     have HTT := qH0 ht
     have HS2 : Hid (StbAt enc k w blk off d (Stb.Blk2 cf tg s 0) dk wr) := by
      have hs := HS.out
      exact qH0 ⟨hs.perm, hs.sw, Stb.Blk2.start hs.q⟩
     clear ht
     rename World => w1
     go_wp2
     go_loopw [7, 8] (fun va vb wr => ∃ (A B : Nat) (dk : Array α), va = .int .i64 A ∧ vb = .int .i64 B ∧ A ≤ n ∧ B ≤ A + t ∧ A + t ≤ B ∧ Hid (∃ r, A = r * (2 * s)) ∧ Hid (StbAt enc k w blk off d (Stb.Blk2 cf tg s A) dk wr)) (fun va _ _ => n - (intOf va).toNat)
     case atStart => exact ⟨0, t, dk, rfl, rfl, Nat.zero_le _, by omega, by omega, qH0 ⟨0, by omega⟩, HS2⟩
     case round =>
      obtain ⟨A, B, dl, rfl, rfl, hA, hB1, hB2, HR, HL⟩ := hrel
      have hds : dl.size = n := by rw [HL.out.perm.1]; exact HNN.out
      have HDS := qH0 hds
      clear hds
      have hAsz : ((A + s : Nat) : Int) = (A : Int) + (s : Int) := by omega
      have HAS := qH0 hAsz
      clear hAsz
      by_cases hBn : B ≤ n
      ·have hBnz : (B : Int) ≤ (n : Int) := by omega
       have hM : Stb.Mrg cf tg A (A + s) B dl := by
        have hl := HL.out
        have hd := HDS.out
        have ht := HTT.out
        obtain ⟨r, rfl⟩ := HR.out
        exact hl.q.mrg (by omega) (by omega) (by omega) (by omega)
       have hc := HM.out dl _ A (A + s) B HDS.out HL.out.sw hM
       rw [HAS.out] at hc
       clear hM
       go_wp2_with (go_at_fn 80; refine hc.mono ?_; rintro e w' ⟨rfl, dm, g1, g2, g3⟩)
       have HN2 : Hid (StbAt enc k w blk off d (Stb.Blk2 cf tg s B) dm w') := by
        have hl := HL.out
        have hd := HDS.out
        have ht := HTT.out
        have hnn := HNN.out
        obtain ⟨r, rfl⟩ := HR.out
        exact qH0 (hl.next (by omega) g1 g3 (hl.q.next (by omega) (by omega) (by omega) (Or.inl (by omega)) g1 g2))
       have HR' : Hid (∃ r, B = r * (2 * s)) := by
        have ht := HTT.out
        obtain ⟨r, rfl⟩ := HR.out
        exact qH0 ⟨r + 1, by rw [Nat.succ_mul]; omega⟩
       clear g1 g2 g3 hc
       go_roundw
       case measure => simp [intOf]; omega
       case rel => exact ⟨B, B + t, dm, rfl, by go_num, hBn, qN0, qN0, HR', HN2⟩
      ·have hBnz : ¬ (B : Int) ≤ (n : Int) := by omega
       by_cases hm : A + s < n
       ·have hmz : (A : Int) + (s : Int) < (n : Int) := by omega
        have hM : Stb.Mrg cf tg A (A + s) n dl := by
         have hl := HL.out
         have hd := HDS.out
         have ht := HTT.out
         obtain ⟨r, rfl⟩ := HR.out
         exact hl.q.mrg (by omega) (by omega) (by omega) (by omega)
        have hc := HM.out dl _ A (A + s) n HDS.out HL.out.sw hM
        rw [HAS.out] at hc
        clear hM
        go_wp2_with (go_at_fn 80; refine hc.mono ?_; rintro e w' ⟨rfl, dm, g1, g2, g3⟩)
        have HN2 : Hid (StbAt enc k w blk off d (Stb.Blk cf tg t) dm w') := by
         have hl := HL.out
         have hd := HDS.out
         have ht := HTT.out
         have hnn := HNN.out
         obtain ⟨r, rfl⟩ := HR.out
         have hw := hl.q.next (by omega) hA (by omega) (Or.inr hd.symm) g1 g2
         rw [← ht]
         exact qH0 (hl.next (by omega) g1 g3 (hw.whole (by rw [g1.1]; omega)))
        clear g1 g2 g3 hc
        go_roundw
        case measure => simp [intOf]; omega
        case rel => exact ⟨t, dm, rfl, by omega, by omega, HN2⟩
       ·have hmz : ¬ (A : Int) + (s : Int) < (n : Int) := by omega
        have HN2 : Hid (StbAt enc k w blk off d (Stb.Blk cf tg t) dl wr) := by
         have hl := HL.out
         have hd := HDS.out
         have ht := HTT.out
         have hnn := HNN.out
         obtain ⟨r, rfl⟩ := HR.out
         have hr : Stb.Rise cf tg (r * (2 * s)) n dl := by have := hl.q.short (by omega); rwa [hd] at this
         have hw := hl.q.next (d' := dl) (by omega) hA (by omega) (Or.inr hd.symm) (permIn_refl dl _ _) hr
         rw [← ht]
         exact qH0 ⟨hl.perm, hl.sw, hw.whole (by omega)⟩
        go_wp2
        go_roundw
        case measure => simp [intOf]; omega
        case rel => exact ⟨t, dl, rfl, by omega, by omega, HN2⟩
    ·have hltz : ¬ (s : Int) < (n : Int) := by omega
     go_wp2
     go_end0
     have hs := HS.out
     have hnn := HNN.out
     have hd : dk.size = n := by rw [hs.perm.1]; exact hnn
     have hr := hs.q.rise (by omega)
     rw [hd] at hr
     exact ⟨rfl, dk, hs.perm, by rw [hnn]; exact hr, hs.sw⟩
end Go.Proofs.YtnpnfajgphpabaaGreat.Fls

namespace Go.Proofs.YtnpnfajgphpabaaGreat
set_option maxRecDepth 20000
open Go.RowKit Go.Shelf
theorem qea (zs : List Int) : ∀ (j : Nat) (h : j < zs.length), zs[j] ∈ Lib.compact zs
 | 0, h => by
  unfold Lib.compact Lib.compactUpTo
  refine List.mem_map.2 ⟨0, List.mem_filter.2 ⟨List.mem_range.2 h, by simp [Lib.keeps]⟩, ?_⟩
  simp [getElem!_pos, h]
 | j + 1, h => by
  by_cases e : zs[j + 1] = zs[j]'(by omega)
  ·rw [e]; exact qea zs j (by omega)
  ·unfold Lib.compact Lib.compactUpTo
   refine List.mem_map.2 ⟨j + 1, List.mem_filter.2 ⟨List.mem_range.2 h, ?_⟩, ?_⟩
   ·refine Lib.keeps_pos ?_
    simpa [getElem!_pos, h, show j < zs.length by omega] using e
   ·simp [getElem!_pos, h]
theorem qcg {l : List Rc} {s : St} (hl : ∀ r ∈ l, RcOK r) (h : s ∈ setsM (canonM l)) : NmOK s.owner ∧ ∀ d ∈ s.data, DatOK d := by
 obtain ⟨y, r, e1, e2, e3⟩ := qbh _ _ (qN0) (qa1 l).up s h
 have hc := qbv l hl
 have hyr : ∀ z ∈ y :: r, RcOK z := fun z hz => hc z (by
  have : z ∈ (canonM l).filter (belM s.owner s.ty) := by rw [e3]; exact hz
  exact (List.mem_filter.1 this).1)
 rw [e1]
 refine ⟨(hyr y (by simp)).1, fun d hd => ?_⟩
 simp only [stR, List.mem_cons, List.mem_map] at hd
 rcases hd with rfl | ⟨z, hz, rfl⟩
 ·exact (hyr y (by simp)).2.2
 ·exact (hyr z (by simp [hz])).2.2
end Go.Proofs.YtnpnfajgphpabaaGreat
namespace Go.Proofs.YtnpnfajgphpabaaGreat
set_option maxRecDepth 20000
theorem qfN : ∀ (a b : List Int), a.Pairwise (· < ·) → b.Pairwise (· < ·) → (∀ x, x ∈ a ↔ x ∈ b) → a = b
 | [], [], _, _, _ => rfl
 | [], y :: t, _, _, h => absurd ((h y).2 (by simp)) (by simp)
 | x :: r, [], _, _, h => absurd ((h x).1 (by simp)) (by simp)
 | x :: r, y :: t, ha, hb, h => by
  rw [List.pairwise_cons] at ha hb
  have e : x = y := by
   rcases List.mem_cons.1 ((h x).1 (by simp)) with e | e
   ·exact e
   ·rcases List.mem_cons.1 ((h y).2 (by simp)) with e2 | e2
    ·exact e2.symm
    ·have := hb.1 x e; have := ha.1 y e2; omega
  subst e
  congr 1
  refine qfN r t ha.2 hb.2 fun z => ?_
  constructor
  ·intro hz
   rcases List.mem_cons.1 ((h z).1 (List.mem_cons_of_mem _ hz)) with e | e
   ·subst e; have := ha.1 z hz; omega
   ·exact e
  ·intro hz
   rcases List.mem_cons.1 ((h z).2 (List.mem_cons_of_mem _ hz)) with e | e
   ·subst e; have := hb.1 z hz; omega
   ·exact e
def keyS (a b : St) : Int := orI (qai a.owner b.owner) (cmpI a.ty b.ty)
theorem qdG : ∀ (n : Nat) (c : List Rc), c.length ≤ n → StrictR c → (setsM c).Pairwise fun a b => keyS a b < 0
 | 0, c, h, _ => by
  obtain rfl : c = [] := List.eq_nil_of_length_eq_zero (by omega)
  rw [qa3]; exact List.Pairwise.nil
 | n + 1, [], h, _ => by rw [qa3]; exact List.Pairwise.nil
 | n + 1, y :: r, h, hs => by
  rw [qaM, List.pairwise_cons]
  have hs' := hs
  unfold StrictR at hs'
  rw [List.pairwise_cons] at hs'
  have hl : (r.dropWhile (belR y)).length ≤ n := by
   have := (List.dropWhile_sublist (p := belR y) (l := r)).length_le
   simp at h; omega
  have hd : StrictR (r.dropWhile (belR y)) := hs'.2.sublist (List.dropWhile_sublist _)
  refine ⟨fun s hm => ?_, qdG n _ hl hd⟩
  obtain ⟨z, r2, e1, e2, _⟩ := qbh _ _ (qN0) hd s hm
  have hz : z ∈ r := (List.dropWhile_sublist (p := belR y) (l := r)).subset e2
  have h1 := hs'.1 z hz
  have h2 := qew hs z e2
  have h3 : keyR y z ≤ 0 := qcS (by omega)
  have h4 : keyR y z ≠ 0 := fun e => by
   have := (qaF z y).1 (qcq e)
   rw [h2] at this; cases this
  rw [e1]
  show keyR y z < 0
  omega
theorem qf3 {l : List Rc} {o : Nm} : (((setsM (canonM l)).filter fun s => sameN s.owner o).map St.ty).Pairwise (· < ·) := by
 rw [List.pairwise_map, List.pairwise_filter]
 refine (qdG _ _ (qN0) (qa1 l).up).imp fun {a b} h h1 h2 => ?_
 have e : qai a.owner b.owner = 0 := (qbA _ _).2 (qa6 h1 (by rw [qaR]; exact h2))
 unfold keyS at h
 rw [e] at h
 simp only [orI, if_true] at h
 revert h
 unfold cmpI
 intro h
 omega
theorem qht (zs : List Int) : ∀ x ∈ Lib.compact zs, x ∈ zs := by
 intro x hx
 unfold Lib.compact Lib.compactUpTo at hx
 obtain ⟨i, hi, rfl⟩ := List.mem_map.1 hx
 have := List.mem_range.1 (List.mem_filter.1 hi).1
 rw [getElem!_pos zs.toArray i (by simpa using this), List.getElem_toArray]
 exact List.getElem_mem _
theorem qe9 {zs : List Int} (h : zs.Pairwise (· ≤ ·)) : (Lib.compact zs).Pairwise (· < ·) := by
 unfold Lib.compact Lib.compactUpTo
 rw [List.pairwise_map, List.pairwise_filter]
 refine List.pairwise_iff_getElem.2 fun i j hi hj hij hk1 hk2 => ?_
 simp only [List.length_range] at hi hj
 simp only [List.getElem_range] at hk1 hk2 ⊢
 have hne : zs.toArray[j]! ≠ zs.toArray[j - 1]! := by
  simp only [Lib.keeps, decide_eq_true_eq] at hk2
  rcases hk2 with e | e
  ·omega
  ·exact e
 rw [getElem!_pos zs.toArray j (by simpa using hj), getElem!_pos zs.toArray (j - 1) (by simp; omega)] at hne
 rw [getElem!_pos zs.toArray j (by simpa using hj), getElem!_pos zs.toArray i (by simpa using hi)]
 simp only [List.getElem_toArray] at hne ⊢
 have hp := List.pairwise_iff_getElem.1 h
 have h1 : zs[i] ≤ zs[j - 1]'(by omega) := by
  by_cases e : i = j - 1
  ·subst e; exact Int.le_refl _
  ·exact hp i (j - 1) (by omega) (by omega) (by omega)
 have h2 : zs[j - 1]'(by omega) ≤ zs[j] := hp (j - 1) j (by omega) (by omega) (by omega)
 omega
theorem qee (l : List Rc) (o : Nm) : typesM o l = ((setsM (canonM l)).filter fun s => sameN s.owner o).map St.ty := by
 refine qfN _ _ ?_ qf3 fun t => ?_
 ·unfold typesM
  refine qe9 ?_
  have := List.pairwise_mergeSort (le := fun x y : Int => decide (x ≤ y)) (fun a b c h1 h2 => by simp only [decide_eq_true_eq] at *; omega) (fun a b => by simp; omega) (tysM o l)
  exact this.imp fun {a b} h => by simpa using h
 ·have hm : t ∈ typesM o l ↔ t ∈ tysM o l := by
   unfold typesM
   constructor
   ·intro h; exact List.mem_mergeSort.1 (qht _ _ h)
   ·intro h
    obtain ⟨j, hj, e⟩ := List.mem_iff_getElem.1 (List.mem_mergeSort.2 h : t ∈ (tysM o l).mergeSort fun x y => decide (x ≤ y))
    rw [← e]; exact qea _ j hj
  rw [hm]
  unfold tysM
  constructor
  ·intro h
   obtain ⟨a, ha, e⟩ := List.mem_map.1 h
   obtain ⟨ha, ho⟩ := List.mem_filter.1 ha
   obtain ⟨y, hy, hc, _⟩ := qdA l a ha
   obtain ⟨s, hs, hb⟩ := qcZ _ _ (qN0) y hy
   have hk := qh5 (o := s.owner) (t := s.ty) (qcO hc)
   rw [hb] at hk
   simp only [belM, Bool.and_eq_true, decide_eq_true_eq] at hb
   have hk2 := hk.symm
   simp only [belM, Bool.and_eq_true, decide_eq_true_eq] at hk2
   refine List.mem_map.2 ⟨s, List.mem_filter.2 ⟨hs, ?_⟩, by rw [← e, hk2.1]⟩
   exact qa6 (by rw [qaR]; exact hk2.2) ho
  ·intro h
   obtain ⟨s, hs, e⟩ := List.mem_map.1 h
   obtain ⟨hs, ho⟩ := List.mem_filter.1 hs
   obtain ⟨a, ha, h1, h2⟩ := qjz hs
   exact List.mem_map.2 ⟨a, List.mem_filter.2 ⟨ha, qa6 h1 ho⟩, by rw [h2, e]⟩
end Go.Proofs.YtnpnfajgphpabaaGreat
namespace Go.Proofs.YtnpnfajgphpabaaGreat
set_option maxRecDepth 20000
open Go.RowKit
structure Fl where
 kind : Int
 owner : Nm
 ty : Int
def qaj (a b : Fl) : Int := orI (qai a.owner b.owner) (orI (cmpI a.kind b.kind) (cmpI a.ty b.ty))
theorem cord_compareF : Stb.COrd qaj := qbk (qaH qby Fl.owner) (qbk (qaH qbj Fl.kind) (qaH qbj Fl.ty))
theorem qel {a b : Int} : orI a b = 0 ↔ a = 0 ∧ b = 0 := by
 unfold orI
 by_cases h : a = 0
 ·rw [if_pos h]; simp [h]
 ·rw [if_neg h]; simp [h]
theorem compareF_zero {a b : Fl} : qaj a b = 0 ↔ qai a.owner b.owner = 0 ∧ a.kind = b.kind ∧ a.ty = b.ty := by
 unfold qaj
 rw [qel, qel, cmpI_zero, cmpI_zero]
def flawsM (at0 : List Fl) (K : St → List Int) (ss : List St) : List Fl := at0 ++ ss.flatMap fun s => (K s).map fun k => ⟨k, s.owner, s.ty⟩
theorem qhu {at0 : List Fl} {K : St → List Int} {ss : List St} (h0 : at0.Pairwise fun a b => qaj a b ≠ 0) (hk : ∀ a ∈ at0, a.kind < 4) (hK : ∀ s ∈ ss, (K s).Pairwise (· < ·) ∧ ∀ k ∈ K s, 4 ≤ k) (hs : ss.Pairwise fun a b => keyS a b < 0) :
 (flawsM at0 K ss).Pairwise fun a b => qaj a b ≠ 0 := by
 unfold flawsM
 rw [List.pairwise_append]
 refine ⟨h0, ?_, ?_⟩
 ·rw [List.pairwise_flatMap]
  refine ⟨fun s hs2 => ?_, ?_⟩
  ·rw [List.pairwise_map]
   refine (hK s hs2).1.imp fun {a b} hab => ?_
   intro e
   have := (compareF_zero.1 e).2.1
   simp only at this; omega
  ·refine hs.imp fun {a b} hab => ?_
   intro x hx y hy e
   rw [List.mem_map] at hx hy
   obtain ⟨k, _, rfl⟩ := hx
   obtain ⟨j, _, rfl⟩ := hy
   have h := compareF_zero.1 e
   simp only at h
   unfold keyS at hab
   have : orI (qai a.owner b.owner) (cmpI a.ty b.ty) = 0 := by rw [qel, cmpI_zero]; exact ⟨h.1, h.2.2⟩
   omega
 ·intro a ha b hb e
  rw [List.mem_flatMap] at hb
  obtain ⟨s, hs2, hb⟩ := hb
  rw [List.mem_map] at hb
  obtain ⟨k, hk2, rfl⟩ := hb
  have h1 := hk a ha
  have h2 := (hK s hs2).2 k hk2
  have := (compareF_zero.1 e).2.1
  simp only at this; omega
theorem qeE {l m : List Fl} (h : l.Perm m) (hm : m.Pairwise fun a b => qaj a b ≠ 0) : l.Pairwise fun a b => qaj a b ≠ 0 :=
 (h.pairwise_iff (fun {a b} hab e => hab (by have := cord_compareF.anti a b; omega))).2 hm
theorem qhb {l m : List Fl} (h : l.Perm m) (hm : m.Pairwise fun a b => qaj a b ≠ 0) (hs : l.Pairwise fun a b => qaj a b ≤ 0) : l.Pairwise fun a b => qaj a b < 0 := by
 have h1 := qeE h hm
 exact (h1.and hs).imp fun {a b} ⟨x, y⟩ => by omega
end Go.Proofs.YtnpnfajgphpabaaGreat
namespace Go.Proofs.YtnpnfajgphpabaaGreat
set_option maxRecDepth 100000
set_option maxHeartbeats 8000000
open Go.RowKit Go.Shelf
def FlAt (W : World) (cs : List Value) (f : Fl) : Prop := ∃ vo, cs = [.int .i64 f.kind, vo, .int .i64 f.ty] ∧ NmAt W vo f.owner
theorem FlAt.below {W W' : World} {cs : List Value} {f : Fl} (h : FlAt W cs f) (hb : Below W.heap.size W W') : FlAt W' cs f := by
 obtain ⟨vo, e, h1⟩ := h
 exact ⟨vo, e, h1.below hb⟩
theorem qk0 (W : World) (a b c : Int) :
 Calls Tryz.prog 37 #[.slice (some ⟨W.heap.size, 0, none⟩) 3 3] (W.alloc (.cells #[.int .i64 a, .int .i64 b, .int .i64 c] 3)) fun e w' => e = .returned (.int .i64 (orI a (orI b c))) ∧ w' = W.alloc (.cells #[.int .i64 a, .int .i64 b, .int .i64 c] 3) := by
 refine (cmp_Or W.heap.size 3 [a, b, c] _ (by simp) ?_).mono ?_
 ·intro j h
  have e := qba W [.int .i64 a, .int .i64 b, .int .i64 c] 3 j (.int .i64 ([a, b, c][j])) (by
   have : ([.int .i64 a, .int .i64 b, .int .i64 c] : List Value) = [a, b, c].map (.int .i64) := rfl
   rw [this, List.getElem?_map, List.getElem?_eq_getElem h]; rfl)
  rw [Go.WideShapes.add_plain, Nat.zero_add] at e
  exact e
 ·rintro e w' ⟨rfl, rfl⟩
  refine ⟨?_, rfl⟩
  have : (if c = 0 then 0 else c) = c := by split <;> omega
  simp only [qbq, orI, this]
theorem qdi (cs cs' : List Value) (a b : Fl) (w : World) (hA : FlAt w cs a) (hU : FlAt w cs' b) (hk : NmOK a.owner) (hk2 : NmOK b.owner) :
 Calls Tryz.prog 14 #[.agg cs.toArray, .agg cs'.toArray] w fun e w' => e = .returned (.int .i64 (qaj a b)) ∧ Below w.heap.size w w' := by
 obtain ⟨vo, rfl, a1⟩ := hA
 obtain ⟨uo, rfl, b1⟩ := hU
 have hL1 := fun W (hB : Below w.heap.size w W) => qdZ vo uo a.owner b.owner _ rfl W (a1.below hB) (b1.below hB) hk hk2
 have hR := qH0 (show qaj a b = orI (qai a.owner b.owner) (orI (cmpI a.kind b.kind) (cmpI a.ty b.ty)) from rfl)
 generalize qaj a b = r at *
 generalize qai a.owner b.owner = q1 at *
 have hL0 := fun W => qa8 a.kind b.kind W
 have hL2 := fun W => qa8 a.ty b.ty W
 generalize cmpI a.kind b.kind = q0 at *
 generalize cmpI a.ty b.ty = q2 at *
 generalize a.kind = x at *
 generalize b.kind = y at *
 generalize a.ty = x2 at *
 generalize b.ty = y2 at *
 have hO := fun W => qk0 W q1 q0 q2
 have hS0 : ∀ W0, ((w.alloc (.cells #[.int .i64 x, vo, .int .i64 x2] 49)).alloc (.cells #[.int .i64 y, uo, .int .i64 y2] 49)) = W0 → W0.cell? ⟨w.heap.size, 0, none⟩ = some (.int .i64 x) ∧ W0.cell? ⟨w.heap.size, 1, none⟩ = some vo ∧ W0.cell? ⟨w.heap.size, 2, none⟩ = some (.int .i64 x2) ∧ W0.cell? ⟨w.heap.size + 1, 0, none⟩ = some (.int .i64 y) ∧ W0.cell? ⟨w.heap.size + 1, 1, none⟩ = some uo ∧ W0.cell? ⟨w.heap.size + 1, 2, none⟩ = some (.int .i64 y2) ∧ Below w.heap.size w W0 ∧ w.heap.size + 2 ≤ W0.heap.size := by
  rintro W0 rfl
  have n1 := new_at w [.int .i64 x, vo, .int .i64 x2] 49
  have n2 := new_at (w.alloc (.cells #[.int .i64 x, vo, .int .i64 x2] 49)) [.int .i64 y, uo, .int .i64 y2] 49
  rw [World.size_alloc] at n2
  have hb : Below (w.heap.size + 1) (w.alloc (.cells #[.int .i64 x, vo, .int .i64 x2] 49)) ((w.alloc (.cells #[.int .i64 x, vo, .int .i64 x2] 49)).alloc (.cells #[.int .i64 y, uo, .int .i64 y2] 49)) := (qL0).alloc (by simp) _
  have hlt : w.heap.size < w.heap.size + 1 := Nat.lt_succ_self _
  refine ⟨(hb.cell hlt).trans (n1 0 _ rfl), (hb.cell hlt).trans (n1 1 _ rfl), (hb.cell hlt).trans (n1 2 _ rfl), n2 0 _ rfl, n2 1 _ rfl, n2 2 _ rfl, ((Below.refl _ w).alloc (qN0) _).alloc (by simp) _, by simp⟩
 have HS0 := qH0 hS0
 clear hS0 a1 b1 hk hk2
 go_enter Tryz.func14, Tryz.ntmps14
 go_wp2
 generalize hW0 : ((w.alloc (.cells #[.int .i64 x, vo, .int .i64 x2] 49)).alloc (.cells #[.int .i64 y, uo, .int .i64 y2] 49)) = W0
 have hS1 := HS0.out W0 hW0
 clear hW0
 have KD : ∀ W W' : World, (W.cell? ⟨w.heap.size, 0, none⟩ = some (.int .i64 x) ∧ W.cell? ⟨w.heap.size, 1, none⟩ = some vo ∧ W.cell? ⟨w.heap.size, 2, none⟩ = some (.int .i64 x2) ∧ W.cell? ⟨w.heap.size + 1, 0, none⟩ = some (.int .i64 y) ∧ W.cell? ⟨w.heap.size + 1, 1, none⟩ = some uo ∧ W.cell? ⟨w.heap.size + 1, 2, none⟩ = some (.int .i64 y2) ∧ Below w.heap.size w W ∧ w.heap.size + 2 ≤ W.heap.size) → Below (w.heap.size + 2) W W' → (W'.cell? ⟨w.heap.size, 0, none⟩ = some (.int .i64 x) ∧ W'.cell? ⟨w.heap.size, 1, none⟩ = some vo ∧ W'.cell? ⟨w.heap.size, 2, none⟩ = some (.int .i64 x2) ∧ W'.cell? ⟨w.heap.size + 1, 0, none⟩ = some (.int .i64 y) ∧ W'.cell? ⟨w.heap.size + 1, 1, none⟩ = some uo ∧ W'.cell? ⟨w.heap.size + 1, 2, none⟩ = some (.int .i64 y2) ∧ Below w.heap.size w W' ∧ w.heap.size + 2 ≤ W'.heap.size) := by
  rintro W W' ⟨a0, a1, a2, b0, b1, b2, hw, hsz⟩ hb
  have hA : w.heap.size < w.heap.size + 2 := by omega
  have hB : w.heap.size + 1 < w.heap.size + 2 := by omega
  exact ⟨(hb.cell hA).trans a0, (hb.cell hA).trans a1, (hb.cell hA).trans a2, (hb.cell hB).trans b0, (hb.cell hB).trans b1, (hb.cell hB).trans b2, hw.trans (hb.mono (by omega)), Nat.le_trans hsz hb.size⟩
 have KS := qH0 (fun (W W' : World) (h : W.cell? ⟨w.heap.size, 0, none⟩ = some (.int .i64 x) ∧ W.cell? ⟨w.heap.size, 1, none⟩ = some vo ∧ W.cell? ⟨w.heap.size, 2, none⟩ = some (.int .i64 x2) ∧ W.cell? ⟨w.heap.size + 1, 0, none⟩ = some (.int .i64 y) ∧ W.cell? ⟨w.heap.size + 1, 1, none⟩ = some uo ∧ W.cell? ⟨w.heap.size + 1, 2, none⟩ = some (.int .i64 y2) ∧ Below w.heap.size w W ∧ w.heap.size + 2 ≤ W.heap.size) (hb : Below W.heap.size W W') => KD W W' h (hb.mono h.2.2.2.2.2.2.2))
 have KA := qH0 (fun (W : World) (o : Obj) (h : W.cell? ⟨w.heap.size, 0, none⟩ = some (.int .i64 x) ∧ W.cell? ⟨w.heap.size, 1, none⟩ = some vo ∧ W.cell? ⟨w.heap.size, 2, none⟩ = some (.int .i64 x2) ∧ W.cell? ⟨w.heap.size + 1, 0, none⟩ = some (.int .i64 y) ∧ W.cell? ⟨w.heap.size + 1, 1, none⟩ = some uo ∧ W.cell? ⟨w.heap.size + 1, 2, none⟩ = some (.int .i64 y2) ∧ Below w.heap.size w W ∧ w.heap.size + 2 ≤ W.heap.size) => KD W (W.alloc o) h ((Below.refl _ W).alloc h.2.2.2.2.2.2.2 o))
 have KR := qH0 (fun (W : World) (h : W.cell? ⟨w.heap.size, 0, none⟩ = some (.int .i64 x) ∧ W.cell? ⟨w.heap.size, 1, none⟩ = some vo ∧ W.cell? ⟨w.heap.size, 2, none⟩ = some (.int .i64 x2) ∧ W.cell? ⟨w.heap.size + 1, 0, none⟩ = some (.int .i64 y) ∧ W.cell? ⟨w.heap.size + 1, 1, none⟩ = some uo ∧ W.cell? ⟨w.heap.size + 1, 2, none⟩ = some (.int .i64 y2) ∧ Below w.heap.size w W ∧ w.heap.size + 2 ≤ W.heap.size) => KD W W.drew h (qaI (Below.refl _ W)))
 have HL1 := qH0 (fun (W : World) (h : W.cell? ⟨w.heap.size, 0, none⟩ = some (.int .i64 x) ∧ W.cell? ⟨w.heap.size, 1, none⟩ = some vo ∧ W.cell? ⟨w.heap.size, 2, none⟩ = some (.int .i64 x2) ∧ W.cell? ⟨w.heap.size + 1, 0, none⟩ = some (.int .i64 y) ∧ W.cell? ⟨w.heap.size + 1, 1, none⟩ = some uo ∧ W.cell? ⟨w.heap.size + 1, 2, none⟩ = some (.int .i64 y2) ∧ Below w.heap.size w W ∧ w.heap.size + 2 ≤ W.heap.size) => hL1 W h.2.2.2.2.2.2.1)
 have HL0 := qH0 hL0; have HL2 := qH0 hL2; have HO := qH0 hO
 clear KD hL1 hL0 hL2 hO HS0
 go_region_held3 (fun W' => W'.cell? ⟨w.heap.size, 0, none⟩ = some (.int .i64 x) ∧ W'.cell? ⟨w.heap.size, 1, none⟩ = some vo ∧ W'.cell? ⟨w.heap.size, 2, none⟩ = some (.int .i64 x2) ∧ W'.cell? ⟨w.heap.size + 1, 0, none⟩ = some (.int .i64 y) ∧ W'.cell? ⟨w.heap.size + 1, 1, none⟩ = some uo ∧ W'.cell? ⟨w.heap.size + 1, 2, none⟩ = some (.int .i64 y2) ∧ Below w.heap.size w W' ∧ w.heap.size + 2 ≤ W'.heap.size) (first | assumption | exact KR.out _ hS1 | exact KA.out _ _ (by assumption)) (first | ((with_reducible refine (HL0.out _).mono ?_); rintro e w2 ⟨rfl, rfl⟩) | ((with_reducible refine (HL2.out _).mono ?_); rintro e w2 ⟨rfl, rfl⟩) | ((with_reducible refine (HL1.out _ (by assumption)).mono ?_); rintro e w2 ⟨rfl, hb2⟩; have hS2 := KS.out _ _ (by assumption) hb2) | ((with_reducible refine (HO.out _).mono ?_); rintro e w2 ⟨rfl, rfl⟩))
 rename_i hSe
 go_wp2
 go_ret
 exact ⟨by rw [hR.out]; rfl, hSe.2.2.2.2.2.2.1⟩
end Go.Proofs.YtnpnfajgphpabaaGreat
namespace Go.Proofs.YtnpnfajgphpabaaGreat
set_option maxRecDepth 20000
set_option maxHeartbeats 2000000
set_option linter.unusedSectionVars false
open Go.RowKit Go.Shelf Go.Sort Go.Lib
open Stb (COrd Lx Rise)
def Fls' (W : World) (css : List (List Value)) (fs : List Fl) : Prop := css.length = fs.length ∧ ∀ i (h1 : i < css.length) (h2 : i < fs.length), FlAt W css[i] fs[i]
theorem Fls'.below {W W' : World} {css : List (List Value)} {fs : List Fl} (h : Fls' W css fs) (hb : Below W.heap.size W W') : Fls' W' css fs := ⟨h.1, fun i h1 h2 => (h.2 i h1 h2).below hb⟩
theorem FlAt.len {W : World} {cs : List Value} {f : Fl} (h : FlAt W cs f) : cs.length = 3 := by obtain ⟨vo, rfl, _⟩ := h; rfl
theorem FlAt.one {W : World} {cs : List Value} {f : Fl} (h : FlAt W cs f) : ∀ u ∈ cs, u.oneCell' = true := by
 obtain ⟨vo, rfl, h1⟩ := h
 intro u hu
 simp only [List.mem_cons, List.not_mem_nil, or_false] at hu
 rcases hu with rfl | rfl | rfl
 ·rfl
 ·exact (nmAt_sl.1 h1).one
 ·rfl
theorem qfU (W : World) : FlAt W [.int .i64 0, .slice none 0 0, .int .i64 0] ⟨0, [], 0⟩ := ⟨_, rfl, nm_nil W⟩
def FlT (w0 : World) : Type := { x : List Value × Fl × Nat // FlAt w0 x.1 x.2.1 ∧ NmOK x.2.1.owner }
instance (w0 : World) : Inhabited (FlT w0) := ⟨⟨(_, ⟨0, [], 0⟩, 0), qfU w0, ⟨Nat.zero_le _, by simp⟩⟩⟩
def FlT.cells {w0 : World} (x : FlT w0) : List Value := x.1.1
def FlT.fl {w0 : World} (x : FlT w0) : Fl := x.1.2.1
def FlT.tg {w0 : World} (x : FlT w0) : Nat := x.1.2.2
def cfF {α : Type} (fl : α → Fl) (x y : α) : Int := qaj (fl x) (fl y)
theorem qkz {α : Type} (fl : α → Fl) : COrd (cfF fl) := qaH cord_compareF fl
theorem qi2 {α : Type} [Inhabited α] (fl : α → Fl) (tg : α → Nat) {d d' : Array α} (hp : PermIn 0 d.size d d') (hr : Rise (cfF fl) tg 0 d.size d') : (d'.toList.map fl).Perm (d.toList.map fl) ∧ (d'.toList.map fl).Pairwise fun a b => qaj a b ≤ 0 := by
 obtain ⟨hs, _, h1⟩ := hp
 rw [qb0 d' d.size hs, qb0 d d.size rfl] at h1
 refine ⟨(List.Perm.map fl (by simpa using h1)), ?_⟩
 rw [List.pairwise_map]
 refine List.pairwise_iff_getElem.2 ?_
 intro i j hi hj hij
 have hi' : i < d'.size := by simpa using hi
 have hj' : j < d'.size := by simpa using hj
 have := hr i j (Nat.zero_le _) hij (by omega)
 rw [getElem!_pos _ i hi', getElem!_pos _ j hj'] at this
 simp only [Array.getElem_toList]
 unfold Lx cfF at this
 omega
theorem qlf : Fls.SFun Tryz.prog where
 fs := Tryz.func116
 fr := Tryz.func101
 fi := Tryz.func79
 fm := Tryz.func80
 ft := Tryz.func53
 es := enters_of Tryz.func116 (by kernel_rfl) rfl
 er := enters_of Tryz.func101 (by kernel_rfl) rfl
 ei := enters_of Tryz.func79 (by kernel_rfl) rfl
 em := enters_of Tryz.func80 (by kernel_rfl) rfl
theorem qfm (a : Option Addr) (c : Nat) (fv : Value) (w : World) : Calls Tryz.prog 79 #[.slice a 0 c, .int .i64 0, .int .i64 0, fv] w fun e w' => e = .returned (.tuple #[]) ∧ w = w' := by
 go_enter Tryz.func79, Tryz.ntmps79
 go_wp2
 refine wp_loop_rounds 1 ?_
 rw [rounds_succ]
 go_wp2
 go_end0
 exact ⟨rfl, rfl⟩
theorem qhe (a : Option Addr) (c : Nat) (fv : Value) (w : World) : Calls Tryz.prog 53 #[.slice a 0 c, .int .i64 0, fv] w fun e w' => e = .returned (.tuple #[]) ∧ w = w' := by
 go_enter Tryz.func53, Tryz.ntmps53
 go_wp2
 refine wp_loop_rounds 1 ?_
 rw [rounds_succ]
 go_wp2_with (go_at_call 79; refine (qfm _ _ _ _).mono ?_; rintro e w' ⟨rfl, rfl⟩)
 refine wp_loop_rounds 1 ?_
 rw [rounds_succ]
 go_wp2
 go_end0
 exact ⟨rfl, rfl⟩
end Go.Proofs.YtnpnfajgphpabaaGreat
namespace Go.Proofs.YtnpnfajgphpabaaGreat
set_option maxRecDepth 20000
set_option maxHeartbeats 4000000
open Go.RowKit Go.Shelf
def wordF (k : Int) : ByteArray :=
 if k = 1 then ⟨#[110, 111, 115, 111, 97]⟩ else
 if k = 2 then ⟨#[109, 97, 110, 121, 115, 111, 97]⟩ else
 if k = 3 then ⟨#[110, 111, 110, 115]⟩ else
 if k = 4 then ⟨#[115, 116, 114, 97, 110, 103, 101]⟩ else
 if k = 5 then ⟨#[109, 105, 120, 101, 100]⟩ else
 if k = 6 then ⟨#[109, 97, 110, 121, 110, 97, 109, 101]⟩ else
 if k = 7 then ⟨#[104, 105, 100, 100, 101, 110]⟩ else
 if k = 8 then ⟨#[99, 111, 118, 101, 114, 101, 100]⟩ else
 if k = 9 then ⟨#[119, 105, 108, 100, 110, 115]⟩ else ⟨#[]⟩
theorem qeU (k : Int) (w : World) : Calls Tryz.prog 13 #[.int .i64 k] w fun e w' => e = .returned (.string (wordF k)) ∧ w = w' := by
 by_cases h1 : k = 1
 ·subst h1
  go_enter Tryz.func13, Tryz.ntmps13
  go_wp2
  go_ret
  exact ⟨rfl, rfl⟩
 by_cases h2 : k = 2
 ·subst h2
  go_enter Tryz.func13, Tryz.ntmps13
  go_wp2
  go_ret
  exact ⟨rfl, rfl⟩
 by_cases h3 : k = 3
 ·subst h3
  go_enter Tryz.func13, Tryz.ntmps13
  go_wp2
  go_ret
  exact ⟨rfl, rfl⟩
 by_cases h4 : k = 4
 ·subst h4
  go_enter Tryz.func13, Tryz.ntmps13
  go_wp2
  go_ret
  exact ⟨rfl, rfl⟩
 by_cases h5 : k = 5
 ·subst h5
  go_enter Tryz.func13, Tryz.ntmps13
  go_wp2
  go_ret
  exact ⟨rfl, rfl⟩
 by_cases h6 : k = 6
 ·subst h6
  go_enter Tryz.func13, Tryz.ntmps13
  go_wp2
  go_ret
  exact ⟨rfl, rfl⟩
 by_cases h7 : k = 7
 ·subst h7
  go_enter Tryz.func13, Tryz.ntmps13
  go_wp2
  go_ret
  exact ⟨rfl, rfl⟩
 by_cases h8 : k = 8
 ·subst h8
  go_enter Tryz.func13, Tryz.ntmps13
  go_wp2
  go_ret
  exact ⟨rfl, rfl⟩
 by_cases h9 : k = 9
 ·subst h9
  go_enter Tryz.func13, Tryz.ntmps13
  go_wp2
  go_ret
  exact ⟨rfl, rfl⟩
 have HW : Hid (wordF k = ⟨#[]⟩) := qH0 (by unfold wordF; rw [if_neg h1, if_neg h2, if_neg h3, if_neg h4, if_neg h5, if_neg h6, if_neg h7, if_neg h8, if_neg h9])
 have e1 : (k == 1) = false := by simpa using h1
 have e2 : (k == 2) = false := by simpa using h2
 have e3 : (k == 3) = false := by simpa using h3
 have e4 : (k == 4) = false := by simpa using h4
 have e5 : (k == 5) = false := by simpa using h5
 have e6 : (k == 6) = false := by simpa using h6
 have e7 : (k == 7) = false := by simpa using h7
 have e8 : (k == 8) = false := by simpa using h8
 have e9 : (k == 9) = false := by simpa using h9
 go_enter Tryz.func13, Tryz.ntmps13
 go_wp2
 go_ret
 exact ⟨by rw [HW.out]; rfl, rfl⟩
end Go.Proofs.YtnpnfajgphpabaaGreat
