/-
  The library's sort in place at a struct: symMerge, up to its two halves.
-/
import Derived.Test.YtckammgnmgkieaaGreatMQ01
namespace Go.Proofs.YtckammgnmgkieaaGreat
set_option maxRecDepth 20000
open Go.RowKit Go.Shelf Go.Sort Go.Lib
set_option linter.unusedVariables false
set_option linter.unusedSimpArgs false
set_option linter.unusedSectionVars false
variable {P : Program} {α : Type} [Inhabited α]

set_option maxHeartbeats 16000000 in
set_option maxRecDepth 1000000 in
theorem sort_sym_gen {k : Nat} (L : SLay P k) (hF : P.funcs[209]? = some Tryz.f209) (hFr : P.funcs[216]? = some Tryz.f216) (hFs : P.funcs[217]? = some Tryz.f217)
    (es : ∀ args w, (callFunc 217 args).run P w = .ok (.enter 217 args) w) (er : ∀ args w, (callFunc 216 args).run P w = .ok (.enter 216 args) w) (em : ∀ args w, (callFunc 209 args).run P w = .ok (.enter 209 args) w)
    (enc : α → List Value) (hk : ∀ x, (enc x).length = k) (h1 : ∀ x, ∀ v ∈ enc x, v.oneCell' = true) (cf : α → α → Int) (tg : α → Nat) (hO : Stb.COrd cf) (g : Nat) (cb : Array Value)
    (blk off cap a m b : Nat) (hma : m ≠ a + 1) (hbm : b ≠ m + 1) (d : Array α) (w : World) (hcmp : CmpB P g cb enc cf w blk) (hH : HoldsK enc k w blk off d) (hblk : blk < w.heap.size) (hM : Stb.Mrg cf tg a m b d) (hsz : d.size < 4611686018427387904)
    (ih : ∀ (a' m' b' : Nat) (d' : Array α) (W : World), b' - a' < b - a → d'.size = d.size → SW enc k w blk off d' W → Stb.Mrg cf tg a' m' b' d' → Calls P 209 #[.slice (some ⟨blk, off, none⟩) d.size cap, .int .i64 a', .int .i64 m', .int .i64 b', .func (.func g) #[] cb] W (SymPost enc k cf tg W blk off d' a' b')) :
    Calls P 209 #[.slice (some ⟨blk, off, none⟩) d.size cap, .int .i64 a, .int .i64 m, .int .i64 b, .func (.func g) #[] cb] w (SymPost enc k cf tg w blk off d a b) := by
  have mixed := L.mixed; have t0 := L.t0; have a0 := L.a0; have z0 := L.z0; have v0 := L.v0; have t3 := L.t3; have a3 := L.a3; have z3 := L.z3; have v3 := L.v3; have t4 := L.t4; have a4 := L.a4; have z4 := L.z4; have v4 := L.v4; have t85 := L.t85; have a85 := L.a85; have z85 := L.z85; have v85 := L.v85; have t43 := L.t43; have a43 := L.a43; have z43 := L.z43; have v43 := L.v43; have t69 := L.t69; have a69 := L.a69; have z69 := L.z69; have v69 := L.v69; have aE := L.aE; have zE := L.zE
  have u43 := run_underlying L.t43
  have ham : a + 2 ≤ m := by have := hM.am; omega
  have hmb : m + 2 ≤ b := by have := hM.mb; omega
  have hb : b ≤ d.size := hM.bs
  have HM := Lib.hid hM
  have HC := Lib.hid hcmp
  have eg := hcmp.eg
  have HK := Lib.hid hk; have H1 := Lib.hid h1
  have HST : Hid (SW enc k w blk off d w) := Lib.hid (SW.refl hH hblk)
  have HR := Lib.hid (fun (s e : Nat) (W : World) (hW : SW enc k w blk off d W) (h1' : s < m) (h2 : m < e) (h3 : e ≤ d.size) => sort_rotate L hFr hFs es enc hk h1 blk off cap s m e d (.func (.func g) #[] cb) W hW.row hW.lt' h1' h2 h3 (by omega))
  have IH := Lib.hid ih
  have c1 : ((m : Int) - (a : Int) == 1) = false := by simp; omega
  have c2 : ((b : Int) - (m : Int) == 1) = false := by simp; omega
  obtain ⟨mid, hmid⟩ : ∃ h : Nat, (a + b) / 2 = h := ⟨_, rfl⟩
  have hmidz : ((a : Int) + (b : Int)) / 2 = (mid : Int) := by omega
  obtain ⟨n, hn⟩ : ∃ h : Nat, mid + m = h := ⟨_, rfl⟩
  have hnz : (mid : Int) + (m : Int) = (n : Int) := by omega
  obtain ⟨pn, hpn⟩ : ∃ h : Nat, n - 1 = h := ⟨_, rfl⟩
  have hpnz : (n : Int) - 1 = (pn : Int) := by omega
  have k9 : pn + 1 ≤ n := by omega
  have k10 : n ≤ pn + 1 := by omega
  have k1 : a < mid := by omega
  have k2 : mid < b := by omega
  have k4 : n ≤ mid + b := by omega
  have HMID := Lib.hid hmid; have HN := Lib.hid hn
  have k5 : a + b ≤ 2 * mid + 1 := by omega
  have k6 : 2 * mid ≤ a + b := by omega
  have k7 : n ≤ mid + m := by omega
  have k8 : mid + m ≤ n := by omega
  clear hcmp hH hk h1 hblk hM hma hbm ih hmid hn hpn
  go_enter hF, Tryz.ntmps209
  go_upto_if 140 with (fail)
  go_cut [20, 21] (fun vs vr wx => (∃ s0 r0 : Nat, vs = .int .i64 s0 ∧ vr = .int .i64 r0 ∧ Hid (MidsAt a m b mid s0 r0)) ∧ w = wx)
  case first =>
    by_cases hc : mid < m
    · have hcz : (mid : Int) < (m : Int) := by omega
      obtain ⟨s0, hs0⟩ : ∃ s0 : Nat, mid + m - b = s0 := ⟨_, rfl⟩
      have hs0z : (n : Int) - (b : Int) = (s0 : Int) := by omega
      have HX : Hid (MidsAt a m b mid s0 mid) := Lib.hid (Or.inl ⟨hc, hs0.symm, rfl⟩)
      clear hs0
      go_wp2_with fail
      go_meet
      exact ⟨⟨s0, mid, rfl, rfl, HX⟩, rfl⟩
    · have hcz : ¬ (mid : Int) < (m : Int) := by omega
      have HX : Hid (MidsAt a m b mid a m) := Lib.hid (Or.inr ⟨by omega, rfl, rfl⟩)
      go_wp2_with fail
      go_meet
      exact ⟨⟨a, m, rfl, rfl, HX⟩, rfl⟩
  case rest =>
  obtain ⟨⟨s0, r0, rfl, rfl, HX⟩, rfl⟩ := hcut
  have hx := HX.out
  have x1 : a ≤ s0 := by rcases hx with ⟨q1, q2, q3⟩ | ⟨q1, q2, q3⟩ <;> omega
  have x2 : s0 ≤ r0 := by rcases hx with ⟨q1, q2, q3⟩ | ⟨q1, q2, q3⟩ <;> omega
  have x3 : r0 ≤ mid := by rcases hx with ⟨q1, q2, q3⟩ | ⟨q1, q2, q3⟩ <;> omega
  have x4 : r0 ≤ m := by rcases hx with ⟨q1, q2, q3⟩ | ⟨q1, q2, q3⟩ <;> omega
  have x5 : n ≤ s0 + b := by rcases hx with ⟨q1, q2, q3⟩ | ⟨q1, q2, q3⟩ <;> omega
  clear hx
  go_wp2
  go_loopw [20, 21] (fun vs vr wr => ∃ (s r : Nat), vs = .int .i64 s ∧ vr = .int .i64 r ∧ s0 ≤ s ∧ s ≤ r ∧ r ≤ r0 ∧ Hid (Mids cf n s0 r0 s r d) ∧ Hid (SW enc k w blk off d wr)) (fun vs vr _ => (intOf vr).toNat - (intOf vs).toNat)
  case atStart => exact ⟨s0, r0, rfl, rfl, Nat.le_refl _, x2, Nat.le_refl _, Lib.hid ⟨Or.inl rfl, Or.inl rfl⟩, HST⟩
  case round =>
    obtain ⟨s, r, rfl, rfl, hs, hsr, hr, HP, HW⟩ := hrel
    by_cases hlt : s < r
    · have hltz : (s : Int) < (r : Int) := by omega
      obtain ⟨c, hc⟩ : ∃ h : Nat, (s + r) / 2 = h := ⟨_, rfl⟩
      have hcz : ((s : Int) + (r : Int)) / 2 = (c : Int) := by omega
      obtain ⟨y, hy⟩ : ∃ h : Nat, pn - c = h := ⟨_, rfl⟩
      have hyz : (pn : Int) - (c : Int) = (y : Int) := by omega
      have h1 : s ≤ c := by omega
      have h2 : c < r := by omega
      have h3 : (c : Int) < (d.size : Int) := by omega
      have h4 : (y : Int) < (d.size : Int) := by omega
      have hwy : IntKind.i64.wrap (y : Int) = (y : Int) := by rw [IntKind.wrap_i64]; omega
      have HY : Hid (n - (c + 1) = y ∧ n - c - 1 = y) := Lib.hid ⟨by omega, by omega⟩
      clear hc hy
      obtain ⟨xc, hxc⟩ : ∃ x, d[c]! = x := ⟨_, rfl⟩
      obtain ⟨xy, hxy⟩ : ∃ x, d[y]! = x := ⟨_, rfl⟩
      have lc : ∀ p : WIn (fun W => SW enc k w blk off d W), Sem.run P (loadCellsFrom ⟨blk, off + c * k, none⟩ 0 k #[]) p.w = .ok (enc xc).toArray p.w := fun p => by
        rw [← hxc]; exact p.ok.load P HK.out c (by omega)
      have ly : ∀ p : WIn (fun W => SW enc k w blk off d W), Sem.run P (loadCellsFrom ⟨blk, off + y * k, none⟩ 0 k #[]) p.w = .ok (enc xy).toArray p.w := fun p => by
        rw [← hxy]; exact p.ok.load P HK.out y (by omega)
      have hne : Nonempty (WIn (fun W => SW enc k w blk off d W)) := ⟨⟨_, HW.out.drew⟩⟩
      have hcg := fun p : WIn (fun W => SW enc k w blk off d W) => HC.out.cls d p xy xc
      have HXC := Lib.hid hxc; have HXY := Lib.hid hxy
      clear hxc hxy
      by_cases hlv : cf xy xc < 0
      · have HN' : Hid (Mids cf n s0 r0 s c d) := Lib.hid ⟨HP.out.lo, Or.inr (by rw [HY.out.2, HXC.out, HXY.out]; exact hlv)⟩
        go_wp2_with fail
        refine wp_region_cls (fun W => SW enc k w blk off d W) mixed (by kernel_rfl) HW.out.drew ?_
        repeat (go_big_quiet_step (first | (go_at_fn g; exact hcg _)))
        refine wpQuiet_nil ?_
        rintro _ ⟨p, rfl⟩
        go_wp2
        go_roundw
        case measure => simp [intOf]; omega
        case rel => exact ⟨s, c, rfl, rfl, by omega, by omega, by omega, HN', Lib.hid p.ok⟩
      · have hlb : (!decide (cf xy xc < 0)) = true := by simp; omega
        have HN' : Hid (Mids cf n s0 r0 (c + 1) r d) := Lib.hid ⟨Or.inr (by rw [Nat.add_sub_cancel, HY.out.1, HXC.out, HXY.out]; exact hlv), HP.out.hi⟩
        go_wp2_with fail
        refine wp_region_cls (fun W => SW enc k w blk off d W) mixed (by kernel_rfl) HW.out.drew ?_
        repeat (go_big_quiet_step (first | (go_at_fn g; exact hcg _)))
        refine wpQuiet_nil ?_
        rintro _ ⟨p, rfl⟩
        go_wp2
        go_roundw
        case measure => simp [intOf]; omega
        case rel => exact ⟨c + 1, r, by go_num, rfl, by omega, by omega, hr, HN', Lib.hid p.ok⟩
    · obtain rfl : s = r := by omega
      rename World => wo
      obtain ⟨e, he⟩ : ∃ h : Nat, n - s = h := ⟨_, rfl⟩
      have hez : (n : Int) - (s : Int) = (e : Int) := by omega
      have y1 : e + s ≤ n := by omega
      have y2 : n ≤ e + s := by omega
      have HCP : Hid (Stb.Cutp cf a m b mid s d) := by
        have hp := HP.out
        have hx := HX.out
        have e1 : mid + m - s = n - s := by omega
        refine Lib.hid ⟨by omega, by omega, by omega, by omega, ?_, ?_⟩
        · rcases hp.lo with q | q
          · rcases hx with ⟨q1, q2, q3⟩ | ⟨q1, q2, q3⟩
            · right; left; omega
            · left; omega
          · right; right; rw [e1]; exact q
        · rcases hp.hi with q | q
          · rcases hx with ⟨q1, q2, q3⟩ | ⟨q1, q2, q3⟩
            · right; left; omega
            · left; omega
          · right; right; rw [e1]; exact q
      clear he hlt
      go_upto_region 39 with (fail)
      go_cut [185] (fun vc wx => (∃ c : Bool, vc = .bool c ∧ Hid (c = decide (s < m ∧ m < e))) ∧ wo = wx)
      case first =>
        by_cases q1 : s < m
        · have q1z : (s : Int) < (m : Int) := by omega
          by_cases q2 : m < e
          · have q2z : (m : Int) < (e : Int) := by omega
            go_wp2_with fail
            go_meet
            exact ⟨⟨true, rfl, Lib.hid (decide_eq_true (show s < m ∧ m < e from ⟨q1, q2⟩)).symm⟩, rfl⟩
          · have q2z : ¬ (m : Int) < (e : Int) := by omega
            go_wp2_with fail
            go_meet
            exact ⟨⟨false, rfl, Lib.hid (decide_eq_false (show ¬ (s < m ∧ m < e) from fun h => q2 h.2)).symm⟩, rfl⟩
        · have q1z : ¬ (s : Int) < (m : Int) := by omega
          go_wp2_with fail
          go_meet
          exact ⟨⟨false, rfl, Lib.hid (decide_eq_false (show ¬ (s < m ∧ m < e) from fun h => q1 h.1)).symm⟩, rfl⟩
      case rest =>
      obtain ⟨⟨cc1, rfl, HCCcc1⟩, rfl⟩ := hcut
      go_upto_if 185 with (fail)
      have hms : s ≤ m := by omega
      have hme : m ≤ e := by omega
      have heb : e ≤ b := HCP.out.e |> fun h => by omega
      go_cut [] (fun wx => ∃ d1 : Array α, Hid (Trn enc k w blk off d a b m s e d1 wx))
      case first =>
        cases cc1
        · have q : ¬ (s < m ∧ m < e) := of_decide_eq_false HCCcc1.out.symm
          have HX' : Hid (Trn enc k w blk off d a b m s e d wo) := by
            refine Lib.hid ⟨rfl, fun x hx => ?_, permIn_refl d a b, HW.out⟩
            by_cases h : s = m
            · subst h; rw [Stb.rot_left]
            · have : e = m := by omega
              subst this; rw [Stb.rot_right]
          clear q
          go_wp2_with fail
          go_meet
          exact ⟨d, HX'⟩
        · have q : s < m ∧ m < e := of_decide_eq_true HCCcc1.out.symm
          have hr := HR.out s e _ HW.out q.1 q.2 (by omega)
          clear q
          go_wp2_with fail
          go_at_fn 216
          refine hr.mono ?_
          rintro e' w' ⟨rfl, d1, g1, g2, g3, g4⟩
          go_wp2_with fail
          go_meet
          exact ⟨d1, Lib.hid ⟨g1, g2, permIn_mono _ _ s e a b (by omega) heb hb g3, HW.out.trans g4⟩⟩
      case rest =>
      obtain ⟨d1, HT⟩ := hcut
      rename World => w1
      have HTD : Hid (Trd cf tg a s mid e b d1) := by
        have ht := HT.out
        have hE : mid + m - s = e := by omega
        have t := HM.out.turned hO HCP.out k1 k2 ht.size (by rw [hE]; exact ht.at_)
        rw [hE] at t
        exact Lib.hid ⟨t.1, t.2.1, t.2.2.1, t.2.2.2.1, t.2.2.2.2⟩
      rename Act → World → Prop => K0
      rename ∀ (a_1 : Act) (w_1 : World), _ → K0 a_1 w_1 => hK
      exact hK _ _ (sort_sym_tail L em enc cf tg g cb blk off cap a m b mid s e d d1 w w1 k1 k2 hb hsz (by omega) (by omega) HT HTD IH _ _ _ _ _ _ _ _ _ _ _ _ _ _ _ _ _ _ _ _ _ _ _ _ _ _ _ _ _ _ _ _ _ _ _ _ _ _ _ _ _ _ _ _ _ _ _ _ _ _ _ _ _ _ _ _ _ _ _ _ _ _ _ _ _ _ _ _ _ _ _ _ _ _ _ _ _ _ _ _ _ _ _ _ _ _ _ _ _ _ _ _ _ _ _ _ _ _ _ _ _ _ _ _ _ _ _ _ _ _ _ _ _ _ _ _ _ _ _ _ _ _ _ _ _ _ _ _ _ _ _ _ _ _ _ _ _ _ _ _ _ _ _ _ _ _ _ _ _ _ _ _ _ _ _ _ _ _ _ _ _ _ _ _ _ _ _ _ _ _ _ _ _ _ _ _ _ _ _ _ _ _ _ _ _ _ _ _ _ _ _ _ _ _ _ _ _ _ _ _ _ _ _ _ _ _ _ _ _ _ _ _ )
end Go.Proofs.YtckammgnmgkieaaGreat

