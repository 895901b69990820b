/-
  The library's sort in place at a struct: symMerge where the one side has one element.
-/
import Derived.Test.YtfcdajldpnomfaaMQ32
import Derived.Deep.CutBlock
import Derived.Deep.DeepCutAuto
import Derived.Test.YtfcdajldpnomfaaMQ16
import Derived.Test.YtfcdajldpnomfaaMQ14
import Derived.Sort.QuietTacIn
import Derived.Sort.BigQuietIn
namespace Go.Proofs.Ytfcdajldpnomfaa
set_option maxRecDepth 20000
open Go.RowKit Go.Shelf Go.Sort Go.Lib
set_option linter.unusedVariables false
set_option linter.unusedSimpArgs false
set_option linter.unusedSectionVars false
variable {P : Program} {α : Type} [Inhabited α]

def SymPost (enc : α → List Value) (k : Nat) (cf : α → α → Int) (tg : α → Nat) (w : World) (blk off : Nat) (d : Array α) (a b : Nat) (e : Ending) (w' : World) : Prop :=
  e = .returned (.tuple #[]) ∧ ∃ d' : Array α, PermIn a b d d' ∧ Stb.Rise cf tg a b d' ∧ SW enc k w blk off d' w'

/-- One ahead: the search so far. -/
structure One1 (cf : α → α → Int) (a b i j : Nat) (d : Array α) : Prop where
  lo : i = a + 1 ∨ cf d[i - 1]! d[a]! < 0
  hi : j = b ∨ ¬ cf d[j]! d[a]! < 0
structure Shu (enc : α → List Value) (k : Nat) (w : World) (blk off : Nat) (d : Array α) (a q m : Nat) (dk : Array α) (W : World) : Prop where
  size : dk.size = d.size
  at_ : ∀ x, x < d.size → dk[x]! = Stb.shu a q (fun i => d[i]!) x
  perm : PermIn a m d dk
  sw : SW enc k w blk off dk W

set_option maxHeartbeats 8000000 in
set_option maxRecDepth 1000000 in
theorem sort_sym_one {k : Nat} (L : SLay P k) (hF : P.funcs[91]? = some Try.f91) (enc : α → List Value) (hk : ∀ x, (enc x).length = k) (h1 : ∀ x, ∀ v ∈ enc x, v.oneCell' = true) (cf : α → α → Int) (tg : α → Nat) (hO : Stb.COrd cf) (g : Nat) (cb : Array Value)
    (blk off cap a m b : Nat) (hm : m = a + 1) (d : Array α) (w : World) (hcmp : CmpB P g cb enc cf w blk) (hH : HoldsK enc k w blk off d) (hblk : blk < w.heap.size) (hM : Stb.Mrg cf tg a m b d) (hsz : d.size < 4611686018427387904) :
    Calls P 91 #[.slice (some ⟨blk, off, none⟩) d.size cap, .int .i64 a, .int .i64 m, .int .i64 b, .func (.func g) #[] cb] w (SymPost enc k cf tg w blk off d a b) := by
  have mixed := L.mixed; have t0 := L.t0; have a0 := L.a0; have z0 := L.z0; have v0 := L.v0; have t3 := L.t3; have a3 := L.a3; have z3 := L.z3; have v3 := L.v3; have t4 := L.t4; have a4 := L.a4; have z4 := L.z4; have v4 := L.v4; have t85 := L.t85; have a85 := L.a85; have z85 := L.z85; have v85 := L.v85; have t43 := L.t43; have a43 := L.a43; have z43 := L.z43; have v43 := L.v43; have t69 := L.t69; have a69 := L.a69; have z69 := L.z69; have v69 := L.v69; have aE := L.aE; have zE := L.zE
  have u43 := run_underlying L.t43
  have hm1 : m ≤ a + 1 := by omega
  have hm2 : a + 1 ≤ m := by omega
  have HMM := Lib.hid hm
  have hmb : m < b := hM.mb
  have hb : b ≤ d.size := hM.bs
  have HM := Lib.hid hM
  have HC := Lib.hid hcmp
  have eg := hcmp.eg
  have HK := Lib.hid hk; have H1 := Lib.hid h1
  have HST : Hid (SW enc k w blk off d w) := Lib.hid (SW.refl hH hblk)
  have c1 : ((m : Int) - (a : Int)) = 1 := by omega
  clear hcmp hH hk h1 hblk hM hm
  obtain ⟨xa, hxa⟩ : ∃ x, d[a]! = x := ⟨_, rfl⟩
  have HXA := Lib.hid hxa
  clear hxa
  go_enter hF, Try.ntmps91
  go_wp2
  go_loopw [10, 11] (fun vi vj wr => ∃ (i j : Nat), vi = .int .i64 i ∧ vj = .int .i64 j ∧ a + 1 ≤ i ∧ i ≤ j ∧ j ≤ b ∧ Hid (One1 cf a b i j d) ∧ Hid (SW enc k w blk off d wr)) (fun vi vj _ => (intOf vj).toNat - (intOf vi).toNat)
  case atStart => exact ⟨m, b, rfl, rfl, by omega, by omega, Nat.le_refl _, Lib.hid ⟨Or.inl HMM.out, Or.inl rfl⟩, HST⟩
  case round =>
    obtain ⟨i, j, rfl, rfl, hi, hij, hjb, HP, HW⟩ := hrel
    by_cases hlt : i < j
    · have hltz : (i : Int) < (j : Int) := by omega
      obtain ⟨h, hh⟩ : ∃ h : Nat, (i + j) / 2 = h := ⟨_, rfl⟩
      have hhz : ((i : Int) + (j : Int)) / 2 = (h : Int) := by omega
      have h1 : i ≤ h := by omega
      have h2 : h < j := by omega
      have h3 : (h : Int) < (d.size : Int) := by omega
      have h4 : (a : Int) < (d.size : Int) := by omega
      clear hh
      obtain ⟨xh, hxh⟩ : ∃ x, d[h]! = x := ⟨_, rfl⟩
      have lh : ∀ p : WIn (fun W => SW enc k w blk off d W), Sem.run P (loadCellsFrom ⟨blk, off + h * k, none⟩ 0 k #[]) p.w = .ok (enc xh).toArray p.w := fun p => by
        rw [← hxh]; exact p.ok.load P HK.out h (by omega)
      have la : ∀ p : WIn (fun W => SW enc k w blk off d W), Sem.run P (loadCellsFrom ⟨blk, off + a * k, none⟩ 0 k #[]) p.w = .ok (enc xa).toArray p.w := fun p => by
        rw [← HXA.out]; exact p.ok.load P HK.out a (by omega)
      have hne : Nonempty (WIn (fun W => SW enc k w blk off d W)) := ⟨⟨_, HW.out.drew⟩⟩
      have hcg := fun p : WIn (fun W => SW enc k w blk off d W) => HC.out.cls d p xh xa
      have HXH := Lib.hid hxh
      clear hxh
      by_cases hlv : cf xh xa < 0
      · have HN : Hid (One1 cf a b (h + 1) j d) := Lib.hid ⟨Or.inr (by rw [Nat.add_sub_cancel, HXH.out, HXA.out]; exact hlv), HP.out.hi⟩
        go_wp2_with fail
        refine wp_region_cls (fun W => SW enc k w blk off d W) mixed (by kernel_rfl) HW.out.drew ?_
        repeat (quiet_step (first | (go_at_fn g; exact hcg _)))
        refine wpQuiet_nil ?_
        rintro _ ⟨p, rfl⟩
        go_wp2
        go_roundw
        case measure => simp [intOf]; omega
        case rel => exact ⟨h + 1, j, by go_num, rfl, by omega, by omega, hjb, HN, Lib.hid p.ok⟩
      · have HN : Hid (One1 cf a b i h d) := Lib.hid ⟨HP.out.lo, Or.inr (by rw [HXH.out, HXA.out]; exact hlv)⟩
        go_wp2_with fail
        refine wp_region_cls (fun W => SW enc k w blk off d W) mixed (by kernel_rfl) HW.out.drew ?_
        repeat (quiet_step (first | (go_at_fn g; exact hcg _)))
        refine wpQuiet_nil ?_
        rintro _ ⟨p, rfl⟩
        go_wp2
        go_roundw
        case measure => simp [intOf]; omega
        case rel => exact ⟨i, h, rfl, rfl, by omega, by omega, by omega, HN, Lib.hid p.ok⟩
    · obtain rfl : i = j := by omega
      have HS0 : Hid (Shu enc k w blk off d a a b d wr) := Lib.hid ⟨rfl, fun x _ => (Stb.shu_zero a _ x).symm, permIn_refl d a _, HW.out⟩
      clear HW hlt hij
      rename World => wo
      go_wp2
      go_loopw [13] (fun vq wr => ∃ (q : Nat) (dk : Array α), vq = .int .i64 q ∧ a ≤ q ∧ q ≤ i - 1 ∧ Hid (Shu enc k w blk off d a q b dk wr)) (fun vq _ => i - 1 - (intOf vq).toNat)
      case atStart => exact ⟨a, d, rfl, Nat.le_refl _, by omega, HS0⟩
      case round =>
        obtain ⟨q, dk, rfl, hq, hqi, HS⟩ := hrel
        by_cases hlt : q < i - 1
        · have hltz : (q : Int) < (i : Int) - 1 := by omega
          obtain ⟨x0, hx0⟩ : ∃ x, dk[q]! = x := ⟨_, rfl⟩
          obtain ⟨x1, hx1⟩ : ∃ x, dk[q + 1]! = x := ⟨_, rfl⟩
          have hsk := HS.out.size
          have hD := HS.out.sw.drew
          have l0 := hD.load P HK.out q (by omega)
          have l1 := hD.load P HK.out (q + 1) (by omega)
          have s1 := hD.store1 P HK.out H1.out q (by omega) x1
          have s2 := hD.store2 P HK.out H1.out q (q + 1) (by omega) (by omega) x1 x0
          rw [hx0] at l0
          rw [hx1] at l1
          have hs0 : (enc x0).length = k := HK.out _
          have hs1 : (enc x1).length = k := HK.out _
          have HN : Hid (Shu enc k w blk off d a (q + 1) b (swp dk q (q + 1)) ((wr.drew.setCells blk (off + q * k) (enc x1)).setCells blk (off + (q + 1) * k) (enc x0))) := by
            have h := HS.out
            refine Lib.hid ⟨by rw [size_swp]; exact hsk, Stb.shu_step hq (by omega) hsk h.at_, permIn_trans _ _ _ a b h.perm (swp_permIn dk a b q (q + 1) hq (by omega) (by omega) (by omega) (by omega)), ?_⟩
            have := hD.swap HK.out q (q + 1) (by omega) (by omega)
            rwa [hx0, hx1] at this
          obtain ⟨ca, hca⟩ : ∃ c, c = enc x0 := ⟨_, rfl⟩
          obtain ⟨cb, hcb⟩ : ∃ c, c = enc x1 := ⟨_, rfl⟩
          rw [← hca] at l0 hs0
          rw [← hcb] at l1 hs1 s1
          rw [← hca, ← hcb] at s2 HN
          have ja : (q : Int) < (d.size : Int) := by omega
          have jb : (q : Int) + 1 < (d.size : Int) := by omega
          have pb : (0 : Int) ≤ (q : Int) + 1 := by omega
          have eb : ((q : Int) + 1).toNat = q + 1 := by omega
          clear hca hcb hD hsk hx0 hx1
          go_wp2_with fail
          go_big_region_o
          all_goals go_wp2
          go_roundw
          case measure => simp [intOf]; omega
          case rel => exact ⟨q + 1, _, by go_num, by omega, by omega, HN⟩
        · obtain rfl : q = i - 1 := by omega
          have hltz : ¬ ((i - 1 : Nat) : Int) < (i : Int) - 1 := by omega
          go_wp2
          go_end0
          have h := HS.out
          have hM := HM.out
          have hm := HMM.out
          subst hm
          exact ⟨rfl, dk, h.perm, hM.one hO hi hjb HP.out.lo HP.out.hi h.at_, h.sw⟩
end Go.Proofs.Ytfcdajldpnomfaa

/-
  The library's sort in place at a struct: symMerge where the other side has one element.
-/
namespace Go.Proofs.Ytfcdajldpnomfaa
set_option maxRecDepth 20000
open Go.RowKit Go.Shelf Go.Sort Go.Lib
set_option linter.unusedVariables false
set_option linter.unusedSimpArgs false
set_option linter.unusedSectionVars false
variable {P : Program} {α : Type} [Inhabited α]

/-- One behind: the search so far. -/
structure One2 (cf : α → α → Int) (a m i j : Nat) (d : Array α) : Prop where
  lo : i = a ∨ ¬ cf d[m]! d[i - 1]! < 0
  hi : j = m ∨ cf d[m]! d[j]! < 0
structure Shd (enc : α → List Value) (k : Nat) (w : World) (blk off : Nat) (d : Array α) (a b m q : Nat) (dk : Array α) (W : World) : Prop where
  size : dk.size = d.size
  at_ : ∀ x, x < d.size → dk[x]! = Stb.shd q m (fun i => d[i]!) x
  perm : PermIn a b d dk
  sw : SW enc k w blk off dk W

set_option maxHeartbeats 8000000 in
set_option maxRecDepth 1000000 in
theorem sort_sym_last {k : Nat} (L : SLay P k) (hF : P.funcs[91]? = some Try.f91) (enc : α → List Value) (hk : ∀ x, (enc x).length = k) (h1 : ∀ x, ∀ v ∈ enc x, v.oneCell' = true) (cf : α → α → Int) (tg : α → Nat) (hO : Stb.COrd cf) (g : Nat) (cb : Array Value)
    (blk off cap a m b : Nat) (hma : m ≠ a + 1) (hbm : b = m + 1) (d : Array α) (w : World) (hcmp : CmpB P g cb enc cf w blk) (hH : HoldsK enc k w blk off d) (hblk : blk < w.heap.size) (hM : Stb.Mrg cf tg a m b d) (hsz : d.size < 4611686018427387904) :
    Calls P 91 #[.slice (some ⟨blk, off, none⟩) d.size cap, .int .i64 a, .int .i64 m, .int .i64 b, .func (.func g) #[] cb] w (SymPost enc k cf tg w blk off d a b) := by
  have mixed := L.mixed; have t0 := L.t0; have a0 := L.a0; have z0 := L.z0; have v0 := L.v0; have t3 := L.t3; have a3 := L.a3; have z3 := L.z3; have v3 := L.v3; have t4 := L.t4; have a4 := L.a4; have z4 := L.z4; have v4 := L.v4; have t85 := L.t85; have a85 := L.a85; have z85 := L.z85; have v85 := L.v85; have t43 := L.t43; have a43 := L.a43; have z43 := L.z43; have v43 := L.v43; have t69 := L.t69; have a69 := L.a69; have z69 := L.z69; have v69 := L.v69; have aE := L.aE; have zE := L.zE
  have u43 := run_underlying L.t43
  have ham : a < m := hM.am
  have hb : b ≤ d.size := hM.bs
  have hm1 : b ≤ m + 1 := by omega
  have hm2 : m + 1 ≤ b := by omega
  have HMM := Lib.hid hbm
  have HM := Lib.hid hM
  have HC := Lib.hid hcmp
  have eg := hcmp.eg
  have HK := Lib.hid hk; have H1 := Lib.hid h1
  have HST : Hid (SW enc k w blk off d w) := Lib.hid (SW.refl hH hblk)
  have c1 : ((m : Int) - (a : Int) == 1) = false := by simp; omega
  have c2 : ((b : Int) - (m : Int)) = 1 := by omega
  have ham2 : a + 2 ≤ m := by omega
  clear hcmp hH hk h1 hblk hM hma hbm
  obtain ⟨xm, hxm⟩ : ∃ x, d[m]! = x := ⟨_, rfl⟩
  have HXM := Lib.hid hxm
  clear hxm
  go_enter hF, Try.ntmps91
  go_wp2
  go_loopw [14, 15] (fun vi vj wr => ∃ (i j : Nat), vi = .int .i64 i ∧ vj = .int .i64 j ∧ a ≤ i ∧ i ≤ j ∧ j ≤ m ∧ Hid (One2 cf a m i j d) ∧ Hid (SW enc k w blk off d wr)) (fun vi vj _ => (intOf vj).toNat - (intOf vi).toNat)
  case atStart => exact ⟨a, m, rfl, rfl, Nat.le_refl _, by omega, Nat.le_refl _, Lib.hid ⟨Or.inl rfl, Or.inl rfl⟩, HST⟩
  case round =>
    obtain ⟨i, j, rfl, rfl, hi, hij, hjb, HP, HW⟩ := hrel
    by_cases hlt : i < j
    · have hltz : (i : Int) < (j : Int) := by omega
      obtain ⟨h, hh⟩ : ∃ h : Nat, (i + j) / 2 = h := ⟨_, rfl⟩
      have hhz : ((i : Int) + (j : Int)) / 2 = (h : Int) := by omega
      have h1 : i ≤ h := by omega
      have h2 : h < j := by omega
      have h3 : (h : Int) < (d.size : Int) := by omega
      have h4 : (m : Int) < (d.size : Int) := by omega
      clear hh
      obtain ⟨xh, hxh⟩ : ∃ x, d[h]! = x := ⟨_, rfl⟩
      have lh : ∀ p : WIn (fun W => SW enc k w blk off d W), Sem.run P (loadCellsFrom ⟨blk, off + h * k, none⟩ 0 k #[]) p.w = .ok (enc xh).toArray p.w := fun p => by
        rw [← hxh]; exact p.ok.load P HK.out h (by omega)
      have la : ∀ p : WIn (fun W => SW enc k w blk off d W), Sem.run P (loadCellsFrom ⟨blk, off + m * k, none⟩ 0 k #[]) p.w = .ok (enc xm).toArray p.w := fun p => by
        rw [← HXM.out]; exact p.ok.load P HK.out m (by omega)
      have hne : Nonempty (WIn (fun W => SW enc k w blk off d W)) := ⟨⟨_, HW.out.drew⟩⟩
      have hcg := fun p : WIn (fun W => SW enc k w blk off d W) => HC.out.cls d p xm xh
      have HXH := Lib.hid hxh
      clear hxh
      by_cases hlv : cf xm xh < 0
      · have HN : Hid (One2 cf a m i h d) := Lib.hid ⟨HP.out.lo, Or.inr (by rw [HXH.out, HXM.out]; exact hlv)⟩
        go_wp2_with fail
        refine wp_region_cls (fun W => SW enc k w blk off d W) mixed (by kernel_rfl) HW.out.drew ?_
        repeat (quiet_step (first | (go_at_fn g; exact hcg _)))
        refine wpQuiet_nil ?_
        rintro _ ⟨p, rfl⟩
        go_wp2
        go_roundw
        case measure => simp [intOf]; omega
        case rel => exact ⟨i, h, rfl, rfl, by omega, by omega, by omega, HN, Lib.hid p.ok⟩
      · have hlb : (!decide (cf xm xh < 0)) = true := by simp; omega
        have HN : Hid (One2 cf a m (h + 1) j d) := Lib.hid ⟨Or.inr (by rw [Nat.add_sub_cancel, HXH.out, HXM.out]; exact hlv), HP.out.hi⟩
        go_wp2_with fail
        refine wp_region_cls (fun W => SW enc k w blk off d W) mixed (by kernel_rfl) HW.out.drew ?_
        repeat (quiet_step (first | (go_at_fn g; exact hcg _)))
        refine wpQuiet_nil ?_
        rintro _ ⟨p, rfl⟩
        go_wp2
        go_roundw
        case measure => simp [intOf]; omega
        case rel => exact ⟨h + 1, j, by go_num, rfl, by omega, by omega, hjb, HN, Lib.hid p.ok⟩
    · obtain rfl : i = j := by omega
      have HS0 : Hid (Shd enc k w blk off d a b m m d wr) := Lib.hid ⟨rfl, fun x _ => (Stb.shd_zero m _ x).symm, permIn_refl d a _, HW.out⟩
      clear HW hlt hij
      rename World => wo
      go_wp2
      go_loopw [17] (fun vq wr => ∃ (q : Nat) (dk : Array α), vq = .int .i64 q ∧ i ≤ q ∧ q ≤ m ∧ Hid (Shd enc k w blk off d a b m q dk wr)) (fun vq _ => (intOf vq).toNat - i)
      case atStart => exact ⟨m, d, rfl, by omega, Nat.le_refl _, HS0⟩
      case round =>
        obtain ⟨q, dk, rfl, hq, hqi, HS⟩ := hrel
        by_cases hlt : i < q
        · obtain ⟨p, rfl⟩ : ∃ p, q = p + 1 := ⟨q - 1, by omega⟩
          have hltz : (i : Int) < (p : Int) + 1 := by omega
          obtain ⟨x0, hx0⟩ : ∃ x, dk[p]! = x := ⟨_, rfl⟩
          obtain ⟨x1, hx1⟩ : ∃ x, dk[p + 1]! = x := ⟨_, rfl⟩
          have hsk := HS.out.size
          have hD := HS.out.sw.drew
          have l0 := hD.load P HK.out p (by omega)
          have l1 := hD.load P HK.out (p + 1) (by omega)
          have s1 := hD.store1 P HK.out H1.out (p + 1) (by omega) x0
          have s2 := hD.store2 P HK.out H1.out (p + 1) p (by omega) (by omega) x0 x1
          rw [hx0] at l0
          rw [hx1] at l1
          have hs0 : (enc x0).length = k := HK.out _
          have hs1 : (enc x1).length = k := HK.out _
          have HN : Hid (Shd enc k w blk off d a b m p (swp dk (p + 1) p) ((wr.drew.setCells blk (off + (p + 1) * k) (enc x0)).setCells blk (off + p * k) (enc x1))) := by
            have h := HS.out
            refine Lib.hid ⟨by rw [size_swp]; exact hsk, Stb.shd_step hqi (by omega) hsk h.at_, permIn_trans _ _ _ a b h.perm (swp_permIn dk a b (p + 1) p (by omega) (by omega) (by omega) (by omega) (by omega)), ?_⟩
            have := hD.swap HK.out (p + 1) p (by omega) (by omega)
            rwa [hx0, hx1] at this
          obtain ⟨ca, hca⟩ : ∃ c, c = enc x0 := ⟨_, rfl⟩
          obtain ⟨cb, hcb⟩ : ∃ c, c = enc x1 := ⟨_, rfl⟩
          rw [← hca] at l0 hs0 s1
          rw [← hcb] at l1 hs1
          rw [← hca, ← hcb] at s2 HN
          have hwp : IntKind.i64.wrap (p : Int) = (p : Int) := by rw [IntKind.wrap_i64]; omega
          have ja : (p : Int) < (d.size : Int) := by omega
          have jb : (p : Int) + 1 < (d.size : Int) := by omega
          have pb : (0 : Int) ≤ (p : Int) + 1 := by omega
          have eb : ((p : Int) + 1).toNat = p + 1 := by omega
          clear hca hcb hD hsk hx0 hx1
          go_wp2_with fail
          go_big_region_o
          all_goals go_wp2
          go_roundw
          case measure => simp [intOf]; omega
          case rel => exact ⟨p, _, by first | rfl | go_num | (congr 1; omega), by omega, by omega, HN⟩
        · obtain rfl : q = i := by omega
          have hltz : ¬ (q : Int) < (q : Int) := by omega
          go_wp2
          go_end0
          have h := HS.out
          have hM := HM.out
          have hm := HMM.out
          subst hm
          exact ⟨rfl, dk, h.perm, hM.last hO hi hjb HP.out.lo HP.out.hi h.at_, h.sw⟩
end Go.Proofs.Ytfcdajldpnomfaa

/-
  The library's sort in place at a struct: symMerge.
-/
namespace Go.Proofs.Ytfcdajldpnomfaa
set_option maxRecDepth 20000
open Go.RowKit Go.Shelf Go.Sort Go.Lib
set_option linter.unusedVariables false
set_option linter.unusedSimpArgs false
set_option linter.unusedSectionVars false
variable {P : Program} {α : Type} [Inhabited α]

/-- The search for the middle so far. -/
structure Mids (cf : α → α → Int) (n s0 r0 s r : Nat) (d : Array α) : Prop where
  lo : s = s0 ∨ ¬ cf d[n - s]! d[s - 1]! < 0
  hi : r = r0 ∨ cf d[n - r - 1]! d[r]! < 0
def MidsAt (a m b mid s0 r0 : Nat) : Prop := (mid < m ∧ s0 = mid + m - b ∧ r0 = mid) ∨ (m ≤ mid ∧ s0 = a ∧ r0 = m)
/-- What the turn leaves. -/
structure Trn (enc : α → List Value) (k : Nat) (w : World) (blk off : Nat) (d : Array α) (a b m s e : Nat) (d' : Array α) (W : World) : Prop where
  size : d'.size = d.size
  at_ : ∀ x, x < d.size → d'[x]! = Stb.rot s m e (fun i => d[i]!) x
  perm : PermIn a b d d'
  sw : SW enc k w blk off d' W

theorem mrg_congr {cf : α → α → Int} {tg : α → Nat} {a m b : Nat} {d d' : Array α} (h : Stb.Mrg cf tg a m b d) (hs : d'.size = d.size) (he : ∀ x, a ≤ x → x < b → d'[x]! = d[x]!) : Stb.Mrg cf tg a m b d' := by
  have am := h.am; have mb := h.mb; have bs := h.bs
  refine ⟨am, mb, by omega, h.l.congr fun x h1 h2 => he x h1 (by omega), h.r.congr fun x h1 h2 => he x (by omega) h2, fun i j h1 h2 h3 h4 => ?_⟩
  rw [he i h1 (by omega), he j (by omega) h4]
  exact h.x i j h1 h2 h3 h4
structure Hlf (enc : α → List Value) (k : Nat) (cf : α → α → Int) (tg : α → Nat) (w : World) (blk off : Nat) (a mid : Nat) (d d' : Array α) (W : World) : Prop where
  perm : PermIn a mid d d'
  rise : Stb.Rise cf tg a mid d'
  sw : SW enc k w blk off d' W
structure Trd (cf : α → α → Int) (tg : α → Nat) (a s mid e b : Nat) (d : Array α) : Prop where
  h1 : a < s → s < mid → Stb.Mrg cf tg a s mid d
  h2 : ¬ (a < s ∧ s < mid) → Stb.Rise cf tg a mid d
  h3 : mid < e → e < b → Stb.Mrg cf tg mid e b d
  h4 : ¬ (mid < e ∧ e < b) → Stb.Rise cf tg mid b d
  h5 : ∀ i j, a ≤ i → i < mid → mid ≤ j → j < b → Stb.Lx cf tg d[i]! d[j]!

/-- Where the region n stands first. -/
def leftAt : Code → Option Nat
  | .region id _ _ => some id
  | .seq a _ => leftAt a
  | _ => none
def tailAt (n : Nat) : Code → Option Code
  | .seq a b => if leftAt a = some n then some (.seq a b) else (tailAt n a).or (tailAt n b)
  | .scope c => tailAt n c
  | .block _ c => tailAt n c
  | _ => none
noncomputable def symTail : Code := (Try.f91.body.bind (tailAt 41)).getD .skip

set_option maxHeartbeats 16000000 in
set_option maxRecDepth 1000000 in
theorem sort_sym_tail {k : Nat} (L : SLay P k)
    (em : ∀ args w, (callFunc 91 args).run P w = .ok (.enter 91 args) w)
    (enc : α → List Value) (cf : α → α → Int) (tg : α → Nat) (g : Nat) (cb : Array Value)
    (blk off cap a m b mid s e : Nat) (d d1 : Array α) (w w1 : World) (k1 : a < mid) (k2 : mid < b) (hb : b ≤ d.size) (hsz : d.size < 4611686018427387904) (hem : e < 4611686018427387904) (hsm : s < 4611686018427387904)
    (HT : Hid (Trn enc k w blk off d a b m s e d1 w1)) (HTD : Hid (Trd cf tg a s mid e b d1))
    (IH : Hid (∀ (a' m' b' : Nat) (d' : Array α) (W : World), b' - a' < b - a → d'.size = d.size → SW enc k w blk off d' W → Stb.Mrg cf tg a' m' b' d' → Calls P 91 #[.slice (some ⟨blk, off, none⟩) d.size cap, .int .i64 a', .int .i64 m', .int .i64 b', .func (.func g) #[] cb] W (SymPost enc k cf tg W blk off d' a' b')))
    (u5 u6 u7 u8 u9 u10 u11 u12 u13 u14 u15 u16 u17 u19 u21 u22 u23 u25 u26 u27 u28 u29 u30 u31 u32 u33 u34 u35 u36 u37 u38 u39 u40 u41 u42 u43 u44 u45 u46 u47 u48 u49 u50 u51 u52 u53 u54 u55 u56 u57 u58 u59 u60 u61 u62 u63 u64 u65 u66 u67 u68 u69 u70 u71 u72 u73 u74 u75 u76 u77 u78 u79 u80 u81 u82 u83 u84 u85 u86 u87 u88 u89 u90 u91 u92 u93 u94 u95 u96 u97 u98 u99 u100 u101 u102 u103 u104 u105 u106 u107 u108 u109 u110 u111 u112 u113 u114 u115 u116 u117 u118 u119 u120 u121 u122 u123 u124 u125 u126 u127 u128 u129 u130 u131 u132 u133 u134 u135 u136 u137 u138 u139 u140 u141 u142 u143 u144 u145 u146 u147 u148 u149 u150 u151 u152 u153 u154 u155 u156 u157 u158 u159 u160 u161 u162 u163 u164 u165 u166 u167 u168 u169 u170 u171 u172 u173 u174 u175 u176 u177 u178 u179 u180 u181 u182 u183 u184 u185 u186 u187 u188 u189 u190 u191 u192 u193 u194 u195 u196 u197 u198 u199 u200 u201 u202 u203 u204 u205 u206 u207 u208 u209 u210 u211 u212 u213 u214 u215 u216 u217 u218 u219 : Value) :
    Code.wp P symTail (bodyPost P Try.f91 (SymPost enc k cf tg w blk off d a b)) ⟨#[.slice (some ⟨blk, off, none⟩) d.size cap, .int .i64 a, .int .i64 m, .int .i64 b, .func (.func g) #[] cb, u5, u6, u7, u8, u9, u10, u11, u12, u13, u14, u15, u16, u17, .int .i64 mid, u19, .int .i64 s, u21, u22, u23, .int .i64 e, u25, u26, u27, u28, u29, u30, u31, u32, u33, u34, u35, u36, u37, u38, u39, u40, u41, u42, u43, u44, u45, u46, u47, u48, u49, u50, u51, u52, u53, u54, u55, u56, u57, u58, u59, u60, u61, u62, u63, u64, u65, u66, u67, u68, u69, u70, u71, u72, u73, u74, u75, u76, u77, u78, u79, u80, u81, u82, u83, u84, u85, u86, u87, u88, u89, u90, u91, u92, u93, u94, u95, u96, u97, u98, u99, u100, u101, u102, u103, u104, u105, u106, u107, u108, u109, u110, u111, u112, u113, u114, u115, u116, u117, u118, u119, u120, u121, u122, u123, u124, u125, u126, u127, u128, u129, u130, u131, u132, u133, u134, u135, u136, u137, u138, u139, u140, u141, u142, u143, u144, u145, u146, u147, u148, u149, u150, u151, u152, u153, u154, u155, u156, u157, u158, u159, u160, u161, u162, u163, u164, u165, u166, u167, u168, u169, u170, u171, u172, u173, u174, u175, u176, u177, u178, u179, u180, u181, u182, u183, u184, u185, u186, u187, u188, u189, u190, u191, u192, u193, u194, u195, u196, u197, u198, u199, u200, u201, u202, u203, u204, u205, u206, u207, u208, u209, u210, u211, u212, u213, u214, u215, u216, u217, u218, u219], []⟩ w1 := by
  have mixed := L.mixed; have t0 := L.t0; have a0 := L.a0; have z0 := L.z0; have v0 := L.v0; have t3 := L.t3; have a3 := L.a3; have z3 := L.z3; have v3 := L.v3; have t4 := L.t4; have a4 := L.a4; have z4 := L.z4; have v4 := L.v4; have t85 := L.t85; have a85 := L.a85; have z85 := L.z85; have v85 := L.v85; have t43 := L.t43; have a43 := L.a43; have z43 := L.z43; have v43 := L.v43; have t69 := L.t69; have a69 := L.a69; have z69 := L.z69; have v69 := L.v69; have aE := L.aE; have zE := L.zE
  have u43 := run_underlying L.t43
  conv => arg 2; whnf
  conv => arg 4; zeta
  go_upto_region 41 with (fail)
  go_cut [199] (fun vc wx => (∃ c : Bool, vc = .bool c ∧ Hid (c = decide (a < s ∧ s < mid))) ∧ w1 = wx)
  case first =>
    by_cases q1 : a < s
    · have q1z : (a : Int) < (s : Int) := by omega
      by_cases q2 : s < mid
      · have q2z : (s : Int) < (mid : Int) := by omega
        go_wp2_with fail
        go_meet
        exact ⟨⟨true, rfl, Lib.hid (decide_eq_true (show a < s ∧ s < mid from ⟨q1, q2⟩)).symm⟩, rfl⟩
      · have q2z : ¬ (s : Int) < (mid : Int) := by omega
        go_wp2_with fail
        go_meet
        exact ⟨⟨false, rfl, Lib.hid (decide_eq_false (show ¬ (a < s ∧ s < mid) from fun h => q2 h.2)).symm⟩, rfl⟩
    · have q1z : ¬ (a : Int) < (s : Int) := by omega
      go_wp2_with fail
      go_meet
      exact ⟨⟨false, rfl, Lib.hid (decide_eq_false (show ¬ (a < s ∧ s < mid) from fun h => q1 h.1)).symm⟩, rfl⟩
  case rest =>
  obtain ⟨⟨cc2, rfl, HCCcc2⟩, rfl⟩ := hcut
  go_upto_if 199 with (fail)
  go_cut [] (fun wx => ∃ d2 : Array α, Hid (Hlf enc k cf tg w blk off a mid d1 d2 wx))
  case first =>
    cases cc2
    · have q : ¬ (a < s ∧ s < mid) := of_decide_eq_false HCCcc2.out.symm
      have HX' : Hid (Hlf enc k cf tg w blk off a mid d1 d1 w1) := Lib.hid ⟨permIn_refl d1 a mid, HTD.out.h2 q, HT.out.sw⟩
      clear q
      go_wp2_with fail
      go_meet
      exact ⟨d1, HX'⟩
    · have q : a < s ∧ s < mid := of_decide_eq_true HCCcc2.out.symm
      have hr := IH.out a s mid d1 _ (by omega) HT.out.size HT.out.sw (HTD.out.h1 q.1 q.2)
      clear q
      go_wp2_with fail
      go_at_fn 91
      refine hr.mono ?_
      rintro e' w' ⟨rfl, d2, g1, g2, g3⟩
      go_wp2_with fail
      go_meet
      exact ⟨d2, Lib.hid ⟨g1, g2, HT.out.sw.trans g3⟩⟩
  case rest =>
  obtain ⟨d2, HD2⟩ := hcut
  rename World => w2
  go_upto_region 43 with (fail)
  go_cut [213] (fun vc wx => (∃ c : Bool, vc = .bool c ∧ Hid (c = decide (mid < e ∧ e < b))) ∧ w2 = wx)
  case first =>
    by_cases q1 : mid < e
    · have q1z : (mid : Int) < (e : Int) := by omega
      by_cases q2 : e < b
      · have q2z : (e : Int) < (b : Int) := by omega
        go_wp2_with fail
        go_meet
        exact ⟨⟨true, rfl, Lib.hid (decide_eq_true (show mid < e ∧ e < b from ⟨q1, q2⟩)).symm⟩, rfl⟩
      · have q2z : ¬ (e : Int) < (b : Int) := by omega
        go_wp2_with fail
        go_meet
        exact ⟨⟨false, rfl, Lib.hid (decide_eq_false (show ¬ (mid < e ∧ e < b) from fun h => q2 h.2)).symm⟩, rfl⟩
    · have q1z : ¬ (mid : Int) < (e : Int) := by omega
      go_wp2_with fail
      go_meet
      exact ⟨⟨false, rfl, Lib.hid (decide_eq_false (show ¬ (mid < e ∧ e < b) from fun h => q1 h.1)).symm⟩, rfl⟩
  case rest =>
  obtain ⟨⟨cc3, rfl, HCCcc3⟩, rfl⟩ := hcut
  have hsz2 : d2.size = d.size := HD2.out.perm.1.trans HT.out.size
  have HSZ2 := Lib.hid hsz2
  clear hsz2
  cases cc3
  · have q : ¬ (mid < e ∧ e < b) := of_decide_eq_false HCCcc3.out.symm
    have hr2 : Stb.Rise cf tg mid b d2 := (HTD.out.h4 q).congr fun x g1 _ => HD2.out.perm.2.1 x (Or.inr g1)
    have HR2 := Lib.hid hr2
    clear q hr2
    go_wp2_with fail
    go_end0
    have ht := HT.out
    have hd := HD2.out
    have hts := ht.size
    refine ⟨rfl, d2, permIn_trans _ _ _ a b ht.perm (permIn_mono _ _ a mid a b (Nat.le_refl _) (by omega) (by omega) hd.perm), ?_, hd.sw⟩
    exact Stb.rise_both a mid b (by omega) (by omega) HTD.out.h5 hd.perm hd.rise (permIn_refl d2 mid b) HR2.out
  · have q : mid < e ∧ e < b := of_decide_eq_true HCCcc3.out.symm
    have hr := IH.out mid e b d2 _ (by omega) HSZ2.out HD2.out.sw (mrg_congr (HTD.out.h3 q.1 q.2) HD2.out.perm.1 (fun x g1 _ => HD2.out.perm.2.1 x (Or.inr g1)))
    clear q
    go_wp2_with fail
    go_at_fn 91
    refine hr.mono ?_
    rintro e' w' ⟨rfl, d3, g1, g2, g3⟩
    go_wp2_with fail
    go_end0
    have ht := HT.out
    have hd := HD2.out
    have hts := ht.size
    refine ⟨rfl, d3, permIn_trans _ _ _ a b ht.perm (permIn_trans _ _ _ a b (permIn_mono _ _ a mid a b (Nat.le_refl _) (by omega) (by omega) hd.perm) (permIn_mono _ _ mid b a b (by omega) (Nat.le_refl _) (by have := HSZ2.out; omega) g1)), ?_, hd.sw.trans g3⟩
    exact Stb.rise_both a mid b (by omega) (by omega) HTD.out.h5 hd.perm hd.rise g1 g2
end Go.Proofs.Ytfcdajldpnomfaa

/-
  The library's sort in place at a struct: symMerge, up to its two halves.
-/
namespace Go.Proofs.Ytfcdajldpnomfaa
set_option maxRecDepth 20000
open Go.RowKit Go.Shelf Go.Sort Go.Lib
set_option linter.unusedVariables false
set_option linter.unusedSimpArgs false
set_option linter.unusedSectionVars false
variable {P : Program} {α : Type} [Inhabited α]

set_option maxHeartbeats 16000000 in
set_option maxRecDepth 1000000 in
theorem sort_sym_gen {k : Nat} (L : SLay P k) (hF : P.funcs[91]? = some Try.f91) (hFr : P.funcs[99]? = some Try.f99) (hFs : P.funcs[100]? = some Try.f100)
    (es : ∀ args w, (callFunc 100 args).run P w = .ok (.enter 100 args) w) (er : ∀ args w, (callFunc 99 args).run P w = .ok (.enter 99 args) w) (em : ∀ args w, (callFunc 91 args).run P w = .ok (.enter 91 args) w)
    (enc : α → List Value) (hk : ∀ x, (enc x).length = k) (h1 : ∀ x, ∀ v ∈ enc x, v.oneCell' = true) (cf : α → α → Int) (tg : α → Nat) (hO : Stb.COrd cf) (g : Nat) (cb : Array Value)
    (blk off cap a m b : Nat) (hma : m ≠ a + 1) (hbm : b ≠ m + 1) (d : Array α) (w : World) (hcmp : CmpB P g cb enc cf w blk) (hH : HoldsK enc k w blk off d) (hblk : blk < w.heap.size) (hM : Stb.Mrg cf tg a m b d) (hsz : d.size < 4611686018427387904)
    (ih : ∀ (a' m' b' : Nat) (d' : Array α) (W : World), b' - a' < b - a → d'.size = d.size → SW enc k w blk off d' W → Stb.Mrg cf tg a' m' b' d' → Calls P 91 #[.slice (some ⟨blk, off, none⟩) d.size cap, .int .i64 a', .int .i64 m', .int .i64 b', .func (.func g) #[] cb] W (SymPost enc k cf tg W blk off d' a' b')) :
    Calls P 91 #[.slice (some ⟨blk, off, none⟩) d.size cap, .int .i64 a, .int .i64 m, .int .i64 b, .func (.func g) #[] cb] w (SymPost enc k cf tg w blk off d a b) := by
  have mixed := L.mixed; have t0 := L.t0; have a0 := L.a0; have z0 := L.z0; have v0 := L.v0; have t3 := L.t3; have a3 := L.a3; have z3 := L.z3; have v3 := L.v3; have t4 := L.t4; have a4 := L.a4; have z4 := L.z4; have v4 := L.v4; have t85 := L.t85; have a85 := L.a85; have z85 := L.z85; have v85 := L.v85; have t43 := L.t43; have a43 := L.a43; have z43 := L.z43; have v43 := L.v43; have t69 := L.t69; have a69 := L.a69; have z69 := L.z69; have v69 := L.v69; have aE := L.aE; have zE := L.zE
  have u43 := run_underlying L.t43
  have ham : a + 2 ≤ m := by have := hM.am; omega
  have hmb : m + 2 ≤ b := by have := hM.mb; omega
  have hb : b ≤ d.size := hM.bs
  have HM := Lib.hid hM
  have HC := Lib.hid hcmp
  have eg := hcmp.eg
  have HK := Lib.hid hk; have H1 := Lib.hid h1
  have HST : Hid (SW enc k w blk off d w) := Lib.hid (SW.refl hH hblk)
  have HR := Lib.hid (fun (s e : Nat) (W : World) (hW : SW enc k w blk off d W) (h1' : s < m) (h2 : m < e) (h3 : e ≤ d.size) => sort_rotate L hFr hFs es enc hk h1 blk off cap s m e d (.func (.func g) #[] cb) W hW.row hW.lt' h1' h2 h3 (by omega))
  have IH := Lib.hid ih
  have c1 : ((m : Int) - (a : Int) == 1) = false := by simp; omega
  have c2 : ((b : Int) - (m : Int) == 1) = false := by simp; omega
  obtain ⟨mid, hmid⟩ : ∃ h : Nat, (a + b) / 2 = h := ⟨_, rfl⟩
  have hmidz : ((a : Int) + (b : Int)) / 2 = (mid : Int) := by omega
  obtain ⟨n, hn⟩ : ∃ h : Nat, mid + m = h := ⟨_, rfl⟩
  have hnz : (mid : Int) + (m : Int) = (n : Int) := by omega
  obtain ⟨pn, hpn⟩ : ∃ h : Nat, n - 1 = h := ⟨_, rfl⟩
  have hpnz : (n : Int) - 1 = (pn : Int) := by omega
  have k9 : pn + 1 ≤ n := by omega
  have k10 : n ≤ pn + 1 := by omega
  have k1 : a < mid := by omega
  have k2 : mid < b := by omega
  have k4 : n ≤ mid + b := by omega
  have HMID := Lib.hid hmid; have HN := Lib.hid hn
  have k5 : a + b ≤ 2 * mid + 1 := by omega
  have k6 : 2 * mid ≤ a + b := by omega
  have k7 : n ≤ mid + m := by omega
  have k8 : mid + m ≤ n := by omega
  clear hcmp hH hk h1 hblk hM hma hbm ih hmid hn hpn
  go_enter hF, Try.ntmps91
  go_upto_if 140 with (fail)
  go_cut [20, 21] (fun vs vr wx => (∃ s0 r0 : Nat, vs = .int .i64 s0 ∧ vr = .int .i64 r0 ∧ Hid (MidsAt a m b mid s0 r0)) ∧ w = wx)
  case first =>
    by_cases hc : mid < m
    · have hcz : (mid : Int) < (m : Int) := by omega
      obtain ⟨s0, hs0⟩ : ∃ s0 : Nat, mid + m - b = s0 := ⟨_, rfl⟩
      have hs0z : (n : Int) - (b : Int) = (s0 : Int) := by omega
      have HX : Hid (MidsAt a m b mid s0 mid) := Lib.hid (Or.inl ⟨hc, hs0.symm, rfl⟩)
      clear hs0
      go_wp2_with fail
      go_meet
      exact ⟨⟨s0, mid, rfl, rfl, HX⟩, rfl⟩
    · have hcz : ¬ (mid : Int) < (m : Int) := by omega
      have HX : Hid (MidsAt a m b mid a m) := Lib.hid (Or.inr ⟨by omega, rfl, rfl⟩)
      go_wp2_with fail
      go_meet
      exact ⟨⟨a, m, rfl, rfl, HX⟩, rfl⟩
  case rest =>
  obtain ⟨⟨s0, r0, rfl, rfl, HX⟩, rfl⟩ := hcut
  have hx := HX.out
  have x1 : a ≤ s0 := by rcases hx with ⟨q1, q2, q3⟩ | ⟨q1, q2, q3⟩ <;> omega
  have x2 : s0 ≤ r0 := by rcases hx with ⟨q1, q2, q3⟩ | ⟨q1, q2, q3⟩ <;> omega
  have x3 : r0 ≤ mid := by rcases hx with ⟨q1, q2, q3⟩ | ⟨q1, q2, q3⟩ <;> omega
  have x4 : r0 ≤ m := by rcases hx with ⟨q1, q2, q3⟩ | ⟨q1, q2, q3⟩ <;> omega
  have x5 : n ≤ s0 + b := by rcases hx with ⟨q1, q2, q3⟩ | ⟨q1, q2, q3⟩ <;> omega
  clear hx
  go_wp2
  go_loopw [20, 21] (fun vs vr wr => ∃ (s r : Nat), vs = .int .i64 s ∧ vr = .int .i64 r ∧ s0 ≤ s ∧ s ≤ r ∧ r ≤ r0 ∧ Hid (Mids cf n s0 r0 s r d) ∧ Hid (SW enc k w blk off d wr)) (fun vs vr _ => (intOf vr).toNat - (intOf vs).toNat)
  case atStart => exact ⟨s0, r0, rfl, rfl, Nat.le_refl _, x2, Nat.le_refl _, Lib.hid ⟨Or.inl rfl, Or.inl rfl⟩, HST⟩
  case round =>
    obtain ⟨s, r, rfl, rfl, hs, hsr, hr, HP, HW⟩ := hrel
    by_cases hlt : s < r
    · have hltz : (s : Int) < (r : Int) := by omega
      obtain ⟨c, hc⟩ : ∃ h : Nat, (s + r) / 2 = h := ⟨_, rfl⟩
      have hcz : ((s : Int) + (r : Int)) / 2 = (c : Int) := by omega
      obtain ⟨y, hy⟩ : ∃ h : Nat, pn - c = h := ⟨_, rfl⟩
      have hyz : (pn : Int) - (c : Int) = (y : Int) := by omega
      have h1 : s ≤ c := by omega
      have h2 : c < r := by omega
      have h3 : (c : Int) < (d.size : Int) := by omega
      have h4 : (y : Int) < (d.size : Int) := by omega
      have hwy : IntKind.i64.wrap (y : Int) = (y : Int) := by rw [IntKind.wrap_i64]; omega
      have HY : Hid (n - (c + 1) = y ∧ n - c - 1 = y) := Lib.hid ⟨by omega, by omega⟩
      clear hc hy
      obtain ⟨xc, hxc⟩ : ∃ x, d[c]! = x := ⟨_, rfl⟩
      obtain ⟨xy, hxy⟩ : ∃ x, d[y]! = x := ⟨_, rfl⟩
      have lc : ∀ p : WIn (fun W => SW enc k w blk off d W), Sem.run P (loadCellsFrom ⟨blk, off + c * k, none⟩ 0 k #[]) p.w = .ok (enc xc).toArray p.w := fun p => by
        rw [← hxc]; exact p.ok.load P HK.out c (by omega)
      have ly : ∀ p : WIn (fun W => SW enc k w blk off d W), Sem.run P (loadCellsFrom ⟨blk, off + y * k, none⟩ 0 k #[]) p.w = .ok (enc xy).toArray p.w := fun p => by
        rw [← hxy]; exact p.ok.load P HK.out y (by omega)
      have hne : Nonempty (WIn (fun W => SW enc k w blk off d W)) := ⟨⟨_, HW.out.drew⟩⟩
      have hcg := fun p : WIn (fun W => SW enc k w blk off d W) => HC.out.cls d p xy xc
      have HXC := Lib.hid hxc; have HXY := Lib.hid hxy
      clear hxc hxy
      by_cases hlv : cf xy xc < 0
      · have HN' : Hid (Mids cf n s0 r0 s c d) := Lib.hid ⟨HP.out.lo, Or.inr (by rw [HY.out.2, HXC.out, HXY.out]; exact hlv)⟩
        go_wp2_with fail
        refine wp_region_cls (fun W => SW enc k w blk off d W) mixed (by kernel_rfl) HW.out.drew ?_
        repeat (go_big_quiet_step (first | (go_at_fn g; exact hcg _)))
        refine wpQuiet_nil ?_
        rintro _ ⟨p, rfl⟩
        go_wp2
        go_roundw
        case measure => simp [intOf]; omega
        case rel => exact ⟨s, c, rfl, rfl, by omega, by omega, by omega, HN', Lib.hid p.ok⟩
      · have hlb : (!decide (cf xy xc < 0)) = true := by simp; omega
        have HN' : Hid (Mids cf n s0 r0 (c + 1) r d) := Lib.hid ⟨Or.inr (by rw [Nat.add_sub_cancel, HY.out.1, HXC.out, HXY.out]; exact hlv), HP.out.hi⟩
        go_wp2_with fail
        refine wp_region_cls (fun W => SW enc k w blk off d W) mixed (by kernel_rfl) HW.out.drew ?_
        repeat (go_big_quiet_step (first | (go_at_fn g; exact hcg _)))
        refine wpQuiet_nil ?_
        rintro _ ⟨p, rfl⟩
        go_wp2
        go_roundw
        case measure => simp [intOf]; omega
        case rel => exact ⟨c + 1, r, by go_num, rfl, by omega, by omega, hr, HN', Lib.hid p.ok⟩
    · obtain rfl : s = r := by omega
      rename World => wo
      obtain ⟨e, he⟩ : ∃ h : Nat, n - s = h := ⟨_, rfl⟩
      have hez : (n : Int) - (s : Int) = (e : Int) := by omega
      have y1 : e + s ≤ n := by omega
      have y2 : n ≤ e + s := by omega
      have HCP : Hid (Stb.Cutp cf a m b mid s d) := by
        have hp := HP.out
        have hx := HX.out
        have e1 : mid + m - s = n - s := by omega
        refine Lib.hid ⟨by omega, by omega, by omega, by omega, ?_, ?_⟩
        · rcases hp.lo with q | q
          · rcases hx with ⟨q1, q2, q3⟩ | ⟨q1, q2, q3⟩
            · right; left; omega
            · left; omega
          · right; right; rw [e1]; exact q
        · rcases hp.hi with q | q
          · rcases hx with ⟨q1, q2, q3⟩ | ⟨q1, q2, q3⟩
            · right; left; omega
            · left; omega
          · right; right; rw [e1]; exact q
      clear he hlt
      go_upto_region 39 with (fail)
      go_cut [185] (fun vc wx => (∃ c : Bool, vc = .bool c ∧ Hid (c = decide (s < m ∧ m < e))) ∧ wo = wx)
      case first =>
        by_cases q1 : s < m
        · have q1z : (s : Int) < (m : Int) := by omega
          by_cases q2 : m < e
          · have q2z : (m : Int) < (e : Int) := by omega
            go_wp2_with fail
            go_meet
            exact ⟨⟨true, rfl, Lib.hid (decide_eq_true (show s < m ∧ m < e from ⟨q1, q2⟩)).symm⟩, rfl⟩
          · have q2z : ¬ (m : Int) < (e : Int) := by omega
            go_wp2_with fail
            go_meet
            exact ⟨⟨false, rfl, Lib.hid (decide_eq_false (show ¬ (s < m ∧ m < e) from fun h => q2 h.2)).symm⟩, rfl⟩
        · have q1z : ¬ (s : Int) < (m : Int) := by omega
          go_wp2_with fail
          go_meet
          exact ⟨⟨false, rfl, Lib.hid (decide_eq_false (show ¬ (s < m ∧ m < e) from fun h => q1 h.1)).symm⟩, rfl⟩
      case rest =>
      obtain ⟨⟨cc1, rfl, HCCcc1⟩, rfl⟩ := hcut
      go_upto_if 185 with (fail)
      have hms : s ≤ m := by omega
      have hme : m ≤ e := by omega
      have heb : e ≤ b := HCP.out.e |> fun h => by omega
      go_cut [] (fun wx => ∃ d1 : Array α, Hid (Trn enc k w blk off d a b m s e d1 wx))
      case first =>
        cases cc1
        · have q : ¬ (s < m ∧ m < e) := of_decide_eq_false HCCcc1.out.symm
          have HX' : Hid (Trn enc k w blk off d a b m s e d wo) := by
            refine Lib.hid ⟨rfl, fun x hx => ?_, permIn_refl d a b, HW.out⟩
            by_cases h : s = m
            · subst h; rw [Stb.rot_left]
            · have : e = m := by omega
              subst this; rw [Stb.rot_right]
          clear q
          go_wp2_with fail
          go_meet
          exact ⟨d, HX'⟩
        · have q : s < m ∧ m < e := of_decide_eq_true HCCcc1.out.symm
          have hr := HR.out s e _ HW.out q.1 q.2 (by omega)
          clear q
          go_wp2_with fail
          go_at_fn 99
          refine hr.mono ?_
          rintro e' w' ⟨rfl, d1, g1, g2, g3, g4⟩
          go_wp2_with fail
          go_meet
          exact ⟨d1, Lib.hid ⟨g1, g2, permIn_mono _ _ s e a b (by omega) heb hb g3, HW.out.trans g4⟩⟩
      case rest =>
      obtain ⟨d1, HT⟩ := hcut
      rename World => w1
      have HTD : Hid (Trd cf tg a s mid e b d1) := by
        have ht := HT.out
        have hE : mid + m - s = e := by omega
        have t := HM.out.turned hO HCP.out k1 k2 ht.size (by rw [hE]; exact ht.at_)
        rw [hE] at t
        exact Lib.hid ⟨t.1, t.2.1, t.2.2.1, t.2.2.2.1, t.2.2.2.2⟩
      rename Act → World → Prop => K0
      rename ∀ (a_1 : Act) (w_1 : World), _ → K0 a_1 w_1 => hK
      exact hK _ _ (sort_sym_tail L em enc cf tg g cb blk off cap a m b mid s e d d1 w w1 k1 k2 hb hsz (by omega) (by omega) HT HTD IH _ _ _ _ _ _ _ _ _ _ _ _ _ _ _ _ _ _ _ _ _ _ _ _ _ _ _ _ _ _ _ _ _ _ _ _ _ _ _ _ _ _ _ _ _ _ _ _ _ _ _ _ _ _ _ _ _ _ _ _ _ _ _ _ _ _ _ _ _ _ _ _ _ _ _ _ _ _ _ _ _ _ _ _ _ _ _ _ _ _ _ _ _ _ _ _ _ _ _ _ _ _ _ _ _ _ _ _ _ _ _ _ _ _ _ _ _ _ _ _ _ _ _ _ _ _ _ _ _ _ _ _ _ _ _ _ _ _ _ _ _ _ _ _ _ _ _ _ _ _ _ _ _ _ _ _ _ _ _ _ _ _ _ _ _ _ _ _ _ _ _ _ _ _ _ _ _ _ _ _ _ _ _ _ _ _ _ _ _ _ _ _ _ _ _ _ _ _ _ _ _ _ _ _ _ _ _ _ _ _ _ _ )
end Go.Proofs.Ytfcdajldpnomfaa

/-
  Rows in their own order: what they are, and that there is but one.
-/
namespace Go.Proofs.Ytfcdajldpnomfaa
set_option maxRecDepth 20000
open Go.RowKit Go.Shelf
open Stb (COrd)

def StrictR (l : List Rc) : Prop := l.Pairwise fun a b => compareR a b < 0
structure CanOf (l c : List Rc) : Prop where
  up : StrictR c
  has : ∀ x ∈ l, ∃ y ∈ c, compareR y x = 0 ∧ y.ttl ≤ x.ttl
  of : ∀ y ∈ c, ∃ x ∈ l, compareR x y = 0 ∧ x.ttl = y.ttl

theorem cR_anti (x y : Rc) : compareR y x = - compareR x y := cord_compareR.anti x y
theorem cR_trans {x y z : Rc} (h1 : compareR x y ≤ 0) (h2 : compareR y z ≤ 0) : compareR x z ≤ 0 := cord_compareR.trans x y z h1 h2
theorem cR_lt_le {x y z : Rc} (h1 : compareR x y < 0) (h2 : compareR y z ≤ 0) : compareR x z < 0 := by
  have a := cR_anti x z; have b := cR_anti x y
  have t := cord_compareR.trans y z x h2
  have := cord_compareR.trans x y z (by omega) h2
  by_cases c : compareR x z < 0
  · exact c
  · have := t (by omega); omega
theorem cR_le_lt {x y z : Rc} (h1 : compareR x y ≤ 0) (h2 : compareR y z < 0) : compareR x z < 0 := by
  have a := cR_anti x z; have b := cR_anti y z
  have t := cord_compareR.trans z x y
  have := cord_compareR.trans x y z h1 (by omega)
  by_cases c : compareR x z < 0
  · exact c
  · have := t (by omega) h1; omega
theorem cR_eq {x y z : Rc} (h1 : compareR x y = 0) (h2 : compareR y z = 0) : compareR x z = 0 := by
  have a := cR_anti x z; have b := cR_anti y z; have c := cR_anti x y
  have t1 := cord_compareR.trans x y z (by omega) (by omega)
  have t2 := cord_compareR.trans z y x (by omega) (by omega)
  omega
theorem cR_sym {x y : Rc} (h : compareR x y = 0) : compareR y x = 0 := by have := cR_anti x y; omega
theorem minT_le (a b : Nat) : minT a b ≤ a ∧ minT a b ≤ b ∧ (minT a b = a ∨ minT a b = b) := by
  unfold minT; split <;> omega

theorem insR_lt {x : Rc} : ∀ (l : List Rc), StrictR l → ∀ z, compareR z x < 0 → (∀ y ∈ l, compareR z y < 0) → ∀ y ∈ insR l x, compareR z y < 0
  | [], _, z, h, _, y, hy => by simp [insR] at hy; subst hy; exact h
  | a :: r, hs, z, h, h2, y, hy => by
    have p := List.pairwise_cons.1 hs
    simp only [insR] at hy
    split at hy
    · rcases List.mem_cons.1 hy with rfl | hy
      · exact h2 y (by simp)
      · exact insR_lt r p.2 z h (fun y hy => h2 y (by simp [hy])) y hy
    · split at hy
      · rcases List.mem_cons.1 hy with rfl | hy
        · exact h2 a (by simp)
        · exact h2 y (by simp [hy])
      · rcases List.mem_cons.1 hy with rfl | hy
        · exact h
        · exact h2 y hy
theorem insR_strict (x : Rc) : ∀ (l : List Rc), StrictR l → StrictR (insR l x)
  | [], _ => by simp [insR, StrictR]
  | a :: r, hs => by
    have p := List.pairwise_cons.1 hs
    simp only [insR]
    split
    · rename_i c
      exact List.pairwise_cons.2 ⟨insR_lt r p.2 a c p.1, insR_strict x r p.2⟩
    · rename_i c
      split
      · exact List.pairwise_cons.2 ⟨fun y hy => p.1 y hy, p.2⟩
      · rename_i c2
        have hx : compareR x a < 0 := by have := cR_anti x a; omega
        refine List.pairwise_cons.2 ⟨fun y hy => ?_, hs⟩
        rcases List.mem_cons.1 hy with rfl | hy
        · exact hx
        · exact cR_lt_le hx (by have := p.1 y hy; omega)
/-- x itself is in it; what was in it is. -/
theorem insR_has (x : Rc) : ∀ (l : List Rc), (∃ y ∈ insR l x, compareR y x = 0 ∧ y.ttl ≤ x.ttl) ∧ ∀ a ∈ l, ∃ y ∈ insR l x, compareR y a = 0 ∧ y.ttl ≤ a.ttl
  | [] => ⟨⟨x, by simp [insR], compareR_self x, Nat.le_refl _⟩, by simp⟩
  | a :: r => by
    obtain ⟨⟨y, hy, h1⟩, h2⟩ := insR_has x r
    simp only [insR]
    split
    · refine ⟨⟨y, by simp [hy], h1⟩, fun b hb => ?_⟩
      rcases List.mem_cons.1 hb with rfl | hb
      · exact ⟨b, by simp, compareR_self b, Nat.le_refl _⟩
      · obtain ⟨z, hz, h⟩ := h2 b hb
        exact ⟨z, by simp [hz], h⟩
    · have m := minT_le a.ttl x.ttl
      split
      · rename_i c
        refine ⟨⟨_, List.mem_cons_self .., c, m.2.1⟩, fun b hb => ?_⟩
        rcases List.mem_cons.1 hb with rfl | hb
        · exact ⟨_, List.mem_cons_self .., compareR_self b, m.1⟩
        · exact ⟨b, by simp [hb], compareR_self b, Nat.le_refl _⟩
      · exact ⟨⟨x, by simp, compareR_self x, Nat.le_refl _⟩, fun b hb => ⟨b, by simp only [List.mem_cons] at hb ⊢; exact Or.inr hb, compareR_self b, Nat.le_refl _⟩⟩
theorem insR_of (x : Rc) : ∀ (l : List Rc), ∀ y ∈ insR l x, ∃ a, (a = x ∨ a ∈ l) ∧ compareR a y = 0 ∧ a.ttl = y.ttl
  | [], y, hy => by simp [insR] at hy; subst hy; exact ⟨y, .inl rfl, compareR_self y, rfl⟩
  | a :: r, y, hy => by
    simp only [insR] at hy
    split at hy
    · rcases List.mem_cons.1 hy with rfl | hy
      · exact ⟨y, .inr (by simp), compareR_self y, rfl⟩
      · obtain ⟨b, hb, h⟩ := insR_of x r y hy
        exact ⟨b, hb.imp id (fun h => by simp [h]), h⟩
    · split at hy
      · rename_i c
        rcases List.mem_cons.1 hy with rfl | hy
        · rcases (minT_le a.ttl x.ttl).2.2 with e | e
          · exact ⟨a, .inr (by simp), compareR_self a, e.symm⟩
          · exact ⟨x, .inl rfl, cR_sym c, e.symm⟩
        · exact ⟨y, .inr (by simp [hy]), compareR_self y, rfl⟩
      · simp only [List.mem_cons] at hy
        exact ⟨y, hy.imp id (fun h => by simpa using h), compareR_self y, rfl⟩
theorem insR_length (x : Rc) : ∀ (l : List Rc), (insR l x).length ≤ l.length + 1 ∧ l.length ≤ (insR l x).length
  | [] => by simp [insR]
  | a :: r => by
    have := insR_length x r
    simp only [insR]
    repeat' split
    all_goals simp only [List.length_cons]; omega
theorem CanOf.step {l c : List Rc} (h : CanOf l c) (x : Rc) : CanOf (l ++ [x]) (insR c x) := by
  refine ⟨insR_strict x c h.up, fun a ha => ?_, fun y hy => ?_⟩
  · rcases List.mem_append.1 ha with ha | ha
    · obtain ⟨y, hy, h1, h2⟩ := h.has a ha
      obtain ⟨z, hz, g1, g2⟩ := (insR_has x c).2 y hy
      exact ⟨z, hz, cR_eq g1 h1, Nat.le_trans g2 h2⟩
    · simp at ha; subst ha
      exact (insR_has a c).1
  · obtain ⟨a, ha, h1, h2⟩ := insR_of x c y hy
    rcases ha with rfl | ha
    · exact ⟨a, by simp, h1, h2⟩
    · obtain ⟨b, hb, g1, g2⟩ := h.of a ha
      exact ⟨b, by simp [hb], cR_eq g1 h1, by omega⟩
theorem canonM_snoc (l : List Rc) (x : Rc) : canonM (l ++ [x]) = insR (canonM l) x := by simp [canonM, List.foldl_append]
theorem list_snoc_ind {α : Type} {P : List α → Prop} (h0 : P []) (hs : ∀ l x, P l → P (l ++ [x])) (l : List α) : P l := by
  have : ∀ l : List α, P l.reverse := by
    intro l
    induction l with
    | nil => exact h0
    | cons x l ih => rw [List.reverse_cons]; exact hs _ _ ih
  have := this l.reverse
  rwa [List.reverse_reverse] at this
theorem canonM_can (l : List Rc) : CanOf l (canonM l) :=
  list_snoc_ind (P := fun l => CanOf l (canonM l)) ⟨List.Pairwise.nil, by simp, by simp [canonM]⟩ (fun l x h => by rw [canonM_snoc]; exact h.step x) l
theorem canonM_length (l : List Rc) : (canonM l).length ≤ l.length :=
  list_snoc_ind (P := fun l => (canonM l).length ≤ l.length) (by simp [canonM]) (fun l x h => by rw [canonM_snoc]; have := insR_length x (canonM l); simp; omega) l

/-- Whoever stands last is put last. -/
theorem insR_last (x : Rc) : ∀ (l : List Rc), (∀ y ∈ l, compareR y x < 0) → insR l x = l ++ [x]
  | [], _ => rfl
  | a :: r, h => by
    simp only [insR, if_pos (h a (by simp))]
    rw [insR_last x r (fun y hy => h y (by simp [hy]))]
    rfl
theorem canonM_strict (l : List Rc) : StrictR l → canonM l = l :=
  list_snoc_ind (P := fun l => StrictR l → canonM l = l) (fun _ => rfl) (fun l x ih h => by
    have h' := List.pairwise_append.1 h
    rw [canonM_snoc, ih h'.1, insR_last x l (fun y hy => h'.2.2 y hy x (by simp))]) l
theorem canonM_again (l : List Rc) : canonM (canonM l) = canonM l := canonM_strict _ (canonM_can l).up

/-! Rows that are alike. -/
def sameRowM : List Rc → List Rc → Bool
  | [], [] => true
  | a :: l, b :: m => (decide (a.ttl = b.ttl) && sameR a b) && sameRowM l m
  | _, _ => false
theorem sameRowM_refl : ∀ l, sameRowM l l = true
  | [] => rfl
  | a :: l => by simp [sameRowM, sameR, compareR_self, sameRowM_refl l]
def Pair1 (c d : List Rc) : Prop := ∀ y ∈ c, ∃ z ∈ d, compareR z y = 0 ∧ z.ttl = y.ttl
theorem sameRowM_of : ∀ (c d : List Rc), StrictR c → StrictR d → Pair1 c d → Pair1 d c → sameRowM c d = true
  | [], [], _, _, _, _ => rfl
  | [], b :: d, _, _, _, h => by obtain ⟨z, hz, _⟩ := h b (by simp); cases hz
  | a :: c, [], _, _, h, _ => by obtain ⟨z, hz, _⟩ := h a (by simp); cases hz
  | a :: c, b :: d, h1, h2, p1, p2 => by
    have q1 := List.pairwise_cons.1 h1
    have q2 := List.pairwise_cons.1 h2
    have hab : compareR b a = 0 ∧ b.ttl = a.ttl := by
      obtain ⟨z, hz, g1, g2⟩ := p1 a (by simp)
      rcases List.mem_cons.1 hz with rfl | hz
      · exact ⟨g1, g2⟩
      · exfalso
        obtain ⟨w, hw, k1, k2⟩ := p2 b (by simp)
        have hbz := q2.1 z hz
        have hba : compareR b a < 0 := cR_lt_le hbz (by omega)
        rcases List.mem_cons.1 hw with rfl | hw
        · have := cR_anti b w; omega
        · have haw := q1.1 w hw
          have : compareR a b < 0 := cR_lt_le haw (by omega)
          have := cR_anti a b; omega
    have t1 : Pair1 c d := fun y hy => by
      obtain ⟨z, hz, g1, g2⟩ := p1 y (by simp [hy])
      rcases List.mem_cons.1 hz with rfl | hz
      · exfalso
        have := q1.1 y hy
        have h3 : compareR z y < 0 := cR_le_lt (by omega) this
        omega
      · exact ⟨z, hz, g1, g2⟩
    have t2 : Pair1 d c := fun y hy => by
      obtain ⟨z, hz, g1, g2⟩ := p2 y (by simp [hy])
      rcases List.mem_cons.1 hz with rfl | hz
      · exfalso
        have := q2.1 y hy
        have h3 : compareR z y < 0 := cR_le_lt (by have := cR_sym hab.1; omega) this
        omega
      · exact ⟨z, hz, g1, g2⟩
    simp only [sameRowM, Bool.and_eq_true, decide_eq_true_eq]
    exact ⟨⟨hab.2.symm, by simp [sameR, cR_sym hab.1]⟩, sameRowM_of c d q1.2 q2.2 t1 t2⟩
/-- Of each that the one has the other has one that is alike, whose TTL is no more. -/
def Covers (l m : List Rc) : Prop := ∀ x ∈ m, ∃ y ∈ l, compareR y x = 0 ∧ y.ttl ≤ x.ttl
theorem StrictR.one {c : List Rc} : StrictR c → ∀ {y z : Rc}, y ∈ c → z ∈ c → compareR y z = 0 → y = z := by
  intro h
  induction c with
  | nil => intro y z hy; cases hy
  | cons a c ih =>
    intro y z hy hz hc
    have p := List.pairwise_cons.1 h
    rcases List.mem_cons.1 hy with ey | hy'
    · rcases List.mem_cons.1 hz with ez | hz'
      · rw [ey, ez]
      · have := p.1 z hz'; rw [ey] at hc; omega
    · rcases List.mem_cons.1 hz with ez | hz'
      · have := p.1 y hy'; have := cR_anti y z; rw [ez] at hc this; omega
      · exact ih p.2 hy' hz' hc
theorem CanOf.alike {l m c d : List Rc} (h : CanOf l c) (g : CanOf m d) (h1 : Covers l m) (h2 : Covers m l) : sameRowM c d = true := by
  have key : ∀ {l m c d : List Rc}, CanOf l c → CanOf m d → Covers l m → Covers m l → Pair1 c d := by
    intro l m c d h g h1 h2 y hy
    obtain ⟨x, hx, e1, e2⟩ := h.of y hy
    obtain ⟨x', hx', e3, e4⟩ := h2 x hx
    obtain ⟨z, hz, e5, e6⟩ := g.has x' hx'
    have hzy : compareR z y = 0 := cR_eq e5 (cR_eq e3 e1)
    refine ⟨z, hz, hzy, ?_⟩
    obtain ⟨w, hw, f1, f2⟩ := g.of z hz
    obtain ⟨w', hw', f3, f4⟩ := h1 w hw
    obtain ⟨y', hy', f5, f6⟩ := h.has w' hw'
    have : y' = y := h.up.one hy' hy (cR_eq f5 (cR_eq f3 (cR_eq f1 hzy)))
    subst this
    omega
  exact sameRowM_of c d h.up g.up (key h g h1 h2) (key g h h2 h1)
theorem Covers.of_sub {l m : List Rc} (h : ∀ x ∈ m, x ∈ l) : Covers l m := fun x hx => ⟨x, h x hx, compareR_self x, Nat.le_refl _⟩
theorem Covers.app {l l' m m' : List Rc} (h : Covers l m) (g : Covers l' m') : Covers (l ++ l') (m ++ m') := fun x hx => by
  rcases List.mem_append.1 hx with hx | hx
  · obtain ⟨y, hy, h⟩ := h x hx; exact ⟨y, by simp [hy], h⟩
  · obtain ⟨y, hy, h⟩ := g x hx; exact ⟨y, by simp [hy], h⟩
theorem covers_canon (l : List Rc) : Covers (canonM l) l := (canonM_can l).has
theorem canon_covers (l : List Rc) : Covers l (canonM l) := fun y hy => by
  obtain ⟨x, hx, e1, e2⟩ := (canonM_can l).of y hy
  exact ⟨x, hx, e1, by omega⟩
theorem canon_turned (l m : List Rc) (h : ∀ x, x ∈ l ↔ x ∈ m) : sameRowM (canonM l) (canonM m) = true :=
  (canonM_can l).alike (canonM_can m) (.of_sub fun x hx => (h x).2 hx) (.of_sub fun x hx => (h x).1 hx)
theorem canon_merge (a b : List Rc) : sameRowM (canonM (a ++ b)) (canonM (canonM a ++ canonM b)) = true :=
  (canonM_can _).alike (canonM_can _) ((canon_covers a).app (canon_covers b)) ((covers_canon a).app (covers_canon b))
end Go.Proofs.Ytfcdajldpnomfaa

/-
  A drawn region of reads and calls, over any class of worlds, inside a fence.
-/
namespace Go.Proofs.Ytfcdajldpnomfaa
set_option maxRecDepth 20000
open Go.RowKit Go.Shelf

theorem wpIn_region_cls {F : Fence} {n : Nat} {P : Program} {id : Nat} {Q : Exit → Act → World → Prop} {a : Act} {w : World} {l : List Oper} (C : World → Prop) (hro : F.round = none) (hm : P.follows .mixedOrders = true) (hB : Region.lexB .any l.toArray = true) (hC : C w.drew)
    (h : wpQuietIn F n P l.toArray (fun w' => ∃ p : WIn C, w' = p.w) (fun a' => ∀ w', (∃ p : WIn C, w' = p.w) → Q .normal a' w') l a) : (Code.region id l.toArray true).wpIn F n P Q a w :=
  wpIn_region_quiet (C := fun w' => ∃ p : WIn C, w' = p.w) hro hm hB ⟨⟨w.drew, hC⟩, rfl⟩ (by simpa using h)
theorem CallsIn.cls {F : Fence} {r : Nat} {C : World → Prop} {P : Program} {f : FuncId} {args : Array Value} {w : World} {v : Value}
    (h : CallsIn F r P f args w fun e w' => e = .returned v ∧ C w') : CallsIn F r P f args w fun e w'' => e = .returned v ∧ ∃ q : WIn C, w'' = q.w :=
  h.mono fun _ w' ⟨he, hc⟩ => ⟨he, ⟨w', hc⟩, rfl⟩
end Go.Proofs.Ytfcdajldpnomfaa

