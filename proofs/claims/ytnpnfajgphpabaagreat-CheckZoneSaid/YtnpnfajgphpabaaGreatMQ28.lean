import Derived.Deep.CutBlock
import Derived.Deep.DeepCutAuto
import Derived.Test.YtnpnfajgphpabaaGreatMQ41
import Derived.Test.YtnpnfajgphpabaaGreatMQ03
namespace Go.Proofs.YtnpnfajgphpabaaGreat.Fls
set_option linter.unusedVariables false
set_option linter.unusedSimpArgs false
set_option maxRecDepth 1000000
set_option maxHeartbeats 8000000
open Go.RowKit Go.Shelf Go.Sort Go.Lib
set_option linter.unusedSectionVars false
variable {P : Program} {α : Type} [Inhabited α]
def qaQ (enc : α → List Value) (k : Nat) (cf : α → α → Int) (tg : α → Nat) (w : World) (blk off : Nat) (d : Array α) (a b : Nat) (e : Ending) (w' : World) : Prop :=
 e = .returned (.tuple #[]) ∧ ∃ d' : Array α, PermIn a b d d' ∧ Stb.Rise cf tg a b d' ∧ SW enc k w blk off d' w'
structure One1 (cf : α → α → Int) (a b i j : Nat) (d : Array α) : Prop where
 lo : i = a + 1 ∨ cf d[i - 1]! d[a]! < 0
 hi : j = b ∨ ¬ cf d[j]! d[a]! < 0
structure Shu (enc : α → List Value) (k : Nat) (w : World) (blk off : Nat) (d : Array α) (a q m : Nat) (dk : Array α) (W : World) : Prop where
 size : dk.size = d.size
 at_ : ∀ x, x < d.size → dk[x]! = Stb.shu a q (fun i => d[i]!) x
 perm : PermIn a m d dk
 sw : SW enc k w blk off dk W
theorem qcp {k : Nat} (L : SLay P k) (hF : P.funcs[80]? = some Tryz.f80) (enc : α → List Value) (hk : ∀ x, (enc x).length = k) (h1 : ∀ x, ∀ v ∈ enc x, v.oneCell' = true) (cf : α → α → Int) (tg : α → Nat) (hO : Stb.COrd cf) (g : Nat) (cb : Array Value)
 (blk off cap a m b : Nat) (hm : m = a + 1) (d : Array α) (w : World) (hcmp : CmpB P g cb enc cf w blk) (hH : HoldsK enc k w blk off d) (hblk : blk < w.heap.size) (hM : Stb.Mrg cf tg a m b d) (hsz : d.size < 4611686018427387904) :
 Calls P 80 #[.slice (some ⟨blk, off, none⟩) d.size cap, .int .i64 a, .int .i64 m, .int .i64 b, .func (.func g) #[] cb] w (qaQ enc k cf tg w blk off d a b) := by
 have mixed := L.mixed; have t0 := L.t0; have a0 := L.a0; have z0 := L.z0; have v0 := L.v0; have t3 := L.t3; have a3 := L.a3; have z3 := L.z3; have v3 := L.v3; have t4 := L.t4; have a4 := L.a4; have z4 := L.z4; have v4 := L.v4; have t85 := L.t85; have a85 := L.a85; have z85 := L.z85; have v85 := L.v85; have t43 := L.t43; have a43 := L.a43; have z43 := L.z43; have v43 := L.v43; have t69 := L.t69; have a69 := L.a69; have z69 := L.z69; have v69 := L.v69; have aE := L.aE; have zE := L.zE
 have u43 := run_underlying L.t43
 have hm1 : m ≤ a + 1 := by omega
 have hm2 : a + 1 ≤ m := by omega
 have HMM := qH0 hm
 have hmb : m < b := hM.mb
 have hb : b ≤ d.size := hM.bs
 have HM := qH0 hM
 have HC := qH0 hcmp
 have eg := hcmp.eg
 have HK := qH0 hk; have H1 := qH0 h1
 have HST : Hid (SW enc k w blk off d w) := qH0 (SW.refl hH hblk)
 have c1 : ((m : Int) - (a : Int)) = 1 := by omega
 clear hcmp hH hk h1 hblk hM hm
 obtain ⟨xa, hxa⟩ : ∃ x, d[a]! = x := ⟨_, rfl⟩
 have HXA := qH0 hxa
 clear hxa
 go_enter hF, Tryz.ntmps80
 go_wp2
 go_loopw [10, 11] (fun vi vj wr => ∃ (i j : Nat), vi = .int .i64 i ∧ vj = .int .i64 j ∧ a + 1 ≤ i ∧ i ≤ j ∧ j ≤ b ∧ Hid (One1 cf a b i j d) ∧ Hid (SW enc k w blk off d wr)) (fun vi vj _ => (intOf vj).toNat - (intOf vi).toNat)
 case atStart => exact ⟨m, b, rfl, rfl, by omega, by omega, qN0, qH0 ⟨Or.inl HMM.out, Or.inl rfl⟩, HST⟩
 case round =>
  obtain ⟨i, j, rfl, rfl, hi, hij, hjb, HP, HW⟩ := hrel
  by_cases hlt : i < j
  ·have hltz : (i : Int) < (j : Int) := by omega
   obtain ⟨h, hh⟩ : ∃ h : Nat, (i + j) / 2 = h := ⟨_, rfl⟩
   have hhz : ((i : Int) + (j : Int)) / 2 = (h : Int) := by omega
   have h1 : i ≤ h := by omega
   have h2 : h < j := by omega
   have h3 : (h : Int) < (d.size : Int) := by omega
   have h4 : (a : Int) < (d.size : Int) := by omega
   clear hh
   obtain ⟨xh, hxh⟩ : ∃ x, d[h]! = x := ⟨_, rfl⟩
   have lh : ∀ p : WIn (fun W => SW enc k w blk off d W), Sem.run P (loadCellsFrom ⟨blk, off + h * k, none⟩ 0 k #[]) p.w = .ok (enc xh).toArray p.w := fun p => by
    rw [← hxh]; exact p.ok.load P HK.out h (by omega)
   have la : ∀ p : WIn (fun W => SW enc k w blk off d W), Sem.run P (loadCellsFrom ⟨blk, off + a * k, none⟩ 0 k #[]) p.w = .ok (enc xa).toArray p.w := fun p => by
    rw [← HXA.out]; exact p.ok.load P HK.out a (by omega)
   have hne : Nonempty (WIn (fun W => SW enc k w blk off d W)) := ⟨⟨_, HW.out.drew⟩⟩
   have hcg := fun p : WIn (fun W => SW enc k w blk off d W) => HC.out.cls d p xh xa
   have HXH := qH0 hxh
   clear hxh
   by_cases hlv : cf xh xa < 0
   ·have HN : Hid (One1 cf a b (h + 1) j d) := qH0 ⟨Or.inr (by rw [Nat.add_sub_cancel, HXH.out, HXA.out]; exact hlv), HP.out.hi⟩
    go_wp2_with fail
    refine qad (fun W => SW enc k w blk off d W) mixed (by kernel_rfl) HW.out.drew ?_
    repeat (quiet_step (first | (go_at_fn g; exact hcg _)))
    refine wpQuiet_nil ?_
    rintro _ ⟨p, rfl⟩
    go_wp2
    go_roundw
    case measure => simp [intOf]; omega
    case rel => exact ⟨h + 1, j, by go_num, rfl, by omega, by omega, hjb, HN, qH0 p.ok⟩
   ·have HN : Hid (One1 cf a b i h d) := qH0 ⟨HP.out.lo, Or.inr (by rw [HXH.out, HXA.out]; exact hlv)⟩
    go_wp2_with fail
    refine qad (fun W => SW enc k w blk off d W) mixed (by kernel_rfl) HW.out.drew ?_
    repeat (quiet_step (first | (go_at_fn g; exact hcg _)))
    refine wpQuiet_nil ?_
    rintro _ ⟨p, rfl⟩
    go_wp2
    go_roundw
    case measure => simp [intOf]; omega
    case rel => exact ⟨i, h, rfl, rfl, by omega, by omega, by omega, HN, qH0 p.ok⟩
  ·obtain rfl : i = j := by omega
   have HS0 : Hid (Shu enc k w blk off d a a b d wr) := qH0 ⟨rfl, fun x _ => (Stb.shu_zero a _ x).symm, permIn_refl d a _, HW.out⟩
   clear HW hlt hij
   rename World => wo
   go_wp2
   go_loopw [13] (fun vq wr => ∃ (q : Nat) (dk : Array α), vq = .int .i64 q ∧ a ≤ q ∧ q ≤ i - 1 ∧ Hid (Shu enc k w blk off d a q b dk wr)) (fun vq _ => i - 1 - (intOf vq).toNat)
   case atStart => exact ⟨a, d, rfl, qN0, by omega, HS0⟩
   case round =>
    obtain ⟨q, dk, rfl, hq, hqi, HS⟩ := hrel
    by_cases hlt : q < i - 1
    ·have hltz : (q : Int) < (i : Int) - 1 := by omega
     obtain ⟨x0, hx0⟩ : ∃ x, dk[q]! = x := ⟨_, rfl⟩
     obtain ⟨x1, hx1⟩ : ∃ x, dk[q + 1]! = x := ⟨_, rfl⟩
     have hsk := HS.out.size
     have hD := HS.out.sw.drew
     have l0 := hD.load P HK.out q (by omega)
     have l1 := hD.load P HK.out (q + 1) (by omega)
     have s1 := hD.store1 P HK.out H1.out q (by omega) x1
     have s2 := hD.store2 P HK.out H1.out q (q + 1) (by omega) (by omega) x1 x0
     rw [hx0] at l0
     rw [hx1] at l1
     have hs0 : (enc x0).length = k := HK.out _
     have hs1 : (enc x1).length = k := HK.out _
     have HN : Hid (Shu enc k w blk off d a (q + 1) b (swp dk q (q + 1)) ((wr.drew.setCells blk (off + q * k) (enc x1)).setCells blk (off + (q + 1) * k) (enc x0))) := by
      have h := HS.out
      refine qH0 ⟨by rw [size_swp]; exact hsk, Stb.shu_step hq (by omega) hsk h.at_, permIn_trans _ _ _ a b h.perm (swp_permIn dk a b q (q + 1) hq (by omega) (by omega) (by omega) (by omega)), ?_⟩
      have := hD.swap HK.out q (q + 1) (by omega) (by omega)
      rwa [hx0, hx1] at this
     obtain ⟨ca, hca⟩ : ∃ c, c = enc x0 := ⟨_, rfl⟩
     obtain ⟨cb, hcb⟩ : ∃ c, c = enc x1 := ⟨_, rfl⟩
     rw [← hca] at l0 hs0
     rw [← hcb] at l1 hs1 s1
     rw [← hca, ← hcb] at s2 HN
     have ja : (q : Int) < (d.size : Int) := by omega
     have jb : (q : Int) + 1 < (d.size : Int) := by omega
     have pb : (0 : Int) ≤ (q : Int) + 1 := by omega
     have eb : ((q : Int) + 1).toNat = q + 1 := by omega
     clear hca hcb hD hsk hx0 hx1
     go_wp2_with fail
     go_big_region_o
     all_goals go_wp2
     go_roundw
     case measure => simp [intOf]; omega
     case rel => exact ⟨q + 1, _, by go_num, by omega, by omega, HN⟩
    ·obtain rfl : q = i - 1 := by omega
     have hltz : ¬ ((i - 1 : Nat) : Int) < (i : Int) - 1 := by omega
     go_wp2
     go_end0
     have h := HS.out
     have hM := HM.out
     have hm := HMM.out
     subst hm
     exact ⟨rfl, dk, h.perm, hM.one hO hi hjb HP.out.lo HP.out.hi h.at_, h.sw⟩
end Go.Proofs.YtnpnfajgphpabaaGreat.Fls

namespace Go.Proofs.YtnpnfajgphpabaaGreat.Fls
set_option linter.unusedVariables false
set_option linter.unusedSimpArgs false
set_option maxRecDepth 1000000
set_option maxHeartbeats 8000000
open Go.RowKit Go.Shelf Go.Sort Go.Lib
set_option linter.unusedSectionVars false
variable {P : Program} {α : Type} [Inhabited α]
structure One2 (cf : α → α → Int) (a m i j : Nat) (d : Array α) : Prop where
 lo : i = a ∨ ¬ cf d[m]! d[i - 1]! < 0
 hi : j = m ∨ cf d[m]! d[j]! < 0
structure Shd (enc : α → List Value) (k : Nat) (w : World) (blk off : Nat) (d : Array α) (a b m q : Nat) (dk : Array α) (W : World) : Prop where
 size : dk.size = d.size
 at_ : ∀ x, x < d.size → dk[x]! = Stb.shd q m (fun i => d[i]!) x
 perm : PermIn a b d dk
 sw : SW enc k w blk off dk W
theorem qca {k : Nat} (L : SLay P k) (hF : P.funcs[80]? = some Tryz.f80) (enc : α → List Value) (hk : ∀ x, (enc x).length = k) (h1 : ∀ x, ∀ v ∈ enc x, v.oneCell' = true) (cf : α → α → Int) (tg : α → Nat) (hO : Stb.COrd cf) (g : Nat) (cb : Array Value)
 (blk off cap a m b : Nat) (hma : m ≠ a + 1) (hbm : b = m + 1) (d : Array α) (w : World) (hcmp : CmpB P g cb enc cf w blk) (hH : HoldsK enc k w blk off d) (hblk : blk < w.heap.size) (hM : Stb.Mrg cf tg a m b d) (hsz : d.size < 4611686018427387904) :
 Calls P 80 #[.slice (some ⟨blk, off, none⟩) d.size cap, .int .i64 a, .int .i64 m, .int .i64 b, .func (.func g) #[] cb] w (qaQ enc k cf tg w blk off d a b) := by
 have mixed := L.mixed; have t0 := L.t0; have a0 := L.a0; have z0 := L.z0; have v0 := L.v0; have t3 := L.t3; have a3 := L.a3; have z3 := L.z3; have v3 := L.v3; have t4 := L.t4; have a4 := L.a4; have z4 := L.z4; have v4 := L.v4; have t85 := L.t85; have a85 := L.a85; have z85 := L.z85; have v85 := L.v85; have t43 := L.t43; have a43 := L.a43; have z43 := L.z43; have v43 := L.v43; have t69 := L.t69; have a69 := L.a69; have z69 := L.z69; have v69 := L.v69; have aE := L.aE; have zE := L.zE
 have u43 := run_underlying L.t43
 have ham : a < m := hM.am
 have hb : b ≤ d.size := hM.bs
 have hm1 : b ≤ m + 1 := by omega
 have hm2 : m + 1 ≤ b := by omega
 have HMM := qH0 hbm
 have HM := qH0 hM
 have HC := qH0 hcmp
 have eg := hcmp.eg
 have HK := qH0 hk; have H1 := qH0 h1
 have HST : Hid (SW enc k w blk off d w) := qH0 (SW.refl hH hblk)
 have c1 : ((m : Int) - (a : Int) == 1) = false := by simp; omega
 have c2 : ((b : Int) - (m : Int)) = 1 := by omega
 have ham2 : a + 2 ≤ m := by omega
 clear hcmp hH hk h1 hblk hM hma hbm
 obtain ⟨xm, hxm⟩ : ∃ x, d[m]! = x := ⟨_, rfl⟩
 have HXM := qH0 hxm
 clear hxm
 go_enter hF, Tryz.ntmps80
 go_wp2
 go_loopw [14, 15] (fun vi vj wr => ∃ (i j : Nat), vi = .int .i64 i ∧ vj = .int .i64 j ∧ a ≤ i ∧ i ≤ j ∧ j ≤ m ∧ Hid (One2 cf a m i j d) ∧ Hid (SW enc k w blk off d wr)) (fun vi vj _ => (intOf vj).toNat - (intOf vi).toNat)
 case atStart => exact ⟨a, m, rfl, rfl, qN0, by omega, qN0, qH0 ⟨Or.inl rfl, Or.inl rfl⟩, HST⟩
 case round =>
  obtain ⟨i, j, rfl, rfl, hi, hij, hjb, HP, HW⟩ := hrel
  by_cases hlt : i < j
  ·have hltz : (i : Int) < (j : Int) := by omega
   obtain ⟨h, hh⟩ : ∃ h : Nat, (i + j) / 2 = h := ⟨_, rfl⟩
   have hhz : ((i : Int) + (j : Int)) / 2 = (h : Int) := by omega
   have h1 : i ≤ h := by omega
   have h2 : h < j := by omega
   have h3 : (h : Int) < (d.size : Int) := by omega
   have h4 : (m : Int) < (d.size : Int) := by omega
   clear hh
   obtain ⟨xh, hxh⟩ : ∃ x, d[h]! = x := ⟨_, rfl⟩
   have lh : ∀ p : WIn (fun W => SW enc k w blk off d W), Sem.run P (loadCellsFrom ⟨blk, off + h * k, none⟩ 0 k #[]) p.w = .ok (enc xh).toArray p.w := fun p => by
    rw [← hxh]; exact p.ok.load P HK.out h (by omega)
   have la : ∀ p : WIn (fun W => SW enc k w blk off d W), Sem.run P (loadCellsFrom ⟨blk, off + m * k, none⟩ 0 k #[]) p.w = .ok (enc xm).toArray p.w := fun p => by
    rw [← HXM.out]; exact p.ok.load P HK.out m (by omega)
   have hne : Nonempty (WIn (fun W => SW enc k w blk off d W)) := ⟨⟨_, HW.out.drew⟩⟩
   have hcg := fun p : WIn (fun W => SW enc k w blk off d W) => HC.out.cls d p xm xh
   have HXH := qH0 hxh
   clear hxh
   by_cases hlv : cf xm xh < 0
   ·have HN : Hid (One2 cf a m i h d) := qH0 ⟨HP.out.lo, Or.inr (by rw [HXH.out, HXM.out]; exact hlv)⟩
    go_wp2_with fail
    refine qad (fun W => SW enc k w blk off d W) mixed (by kernel_rfl) HW.out.drew ?_
    repeat (quiet_step (first | (go_at_fn g; exact hcg _)))
    refine wpQuiet_nil ?_
    rintro _ ⟨p, rfl⟩
    go_wp2
    go_roundw
    case measure => simp [intOf]; omega
    case rel => exact ⟨i, h, rfl, rfl, by omega, by omega, by omega, HN, qH0 p.ok⟩
   ·have hlb : (!decide (cf xm xh < 0)) = true := by simp; omega
    have HN : Hid (One2 cf a m (h + 1) j d) := qH0 ⟨Or.inr (by rw [Nat.add_sub_cancel, HXH.out, HXM.out]; exact hlv), HP.out.hi⟩
    go_wp2_with fail
    refine qad (fun W => SW enc k w blk off d W) mixed (by kernel_rfl) HW.out.drew ?_
    repeat (quiet_step (first | (go_at_fn g; exact hcg _)))
    refine wpQuiet_nil ?_
    rintro _ ⟨p, rfl⟩
    go_wp2
    go_roundw
    case measure => simp [intOf]; omega
    case rel => exact ⟨h + 1, j, by go_num, rfl, by omega, by omega, hjb, HN, qH0 p.ok⟩
  ·obtain rfl : i = j := by omega
   have HS0 : Hid (Shd enc k w blk off d a b m m d wr) := qH0 ⟨rfl, fun x _ => (Stb.shd_zero m _ x).symm, permIn_refl d a _, HW.out⟩
   clear HW hlt hij
   rename World => wo
   go_wp2
   go_loopw [17] (fun vq wr => ∃ (q : Nat) (dk : Array α), vq = .int .i64 q ∧ i ≤ q ∧ q ≤ m ∧ Hid (Shd enc k w blk off d a b m q dk wr)) (fun vq _ => (intOf vq).toNat - i)
   case atStart => exact ⟨m, d, rfl, by omega, qN0, HS0⟩
   case round =>
    obtain ⟨q, dk, rfl, hq, hqi, HS⟩ := hrel
    by_cases hlt : i < q
    ·obtain ⟨p, rfl⟩ : ∃ p, q = p + 1 := ⟨q - 1, by omega⟩
     have hltz : (i : Int) < (p : Int) + 1 := by omega
     obtain ⟨x0, hx0⟩ : ∃ x, dk[p]! = x := ⟨_, rfl⟩
     obtain ⟨x1, hx1⟩ : ∃ x, dk[p + 1]! = x := ⟨_, rfl⟩
     have hsk := HS.out.size
     have hD := HS.out.sw.drew
     have l0 := hD.load P HK.out p (by omega)
     have l1 := hD.load P HK.out (p + 1) (by omega)
     have s1 := hD.store1 P HK.out H1.out (p + 1) (by omega) x0
     have s2 := hD.store2 P HK.out H1.out (p + 1) p (by omega) (by omega) x0 x1
     rw [hx0] at l0
     rw [hx1] at l1
     have hs0 : (enc x0).length = k := HK.out _
     have hs1 : (enc x1).length = k := HK.out _
     have HN : Hid (Shd enc k w blk off d a b m p (swp dk (p + 1) p) ((wr.drew.setCells blk (off + (p + 1) * k) (enc x0)).setCells blk (off + p * k) (enc x1))) := by
      have h := HS.out
      refine qH0 ⟨by rw [size_swp]; exact hsk, Stb.shd_step hqi (by omega) hsk h.at_, permIn_trans _ _ _ a b h.perm (swp_permIn dk a b (p + 1) p (by omega) (by omega) (by omega) (by omega) (by omega)), ?_⟩
      have := hD.swap HK.out (p + 1) p (by omega) (by omega)
      rwa [hx0, hx1] at this
     obtain ⟨ca, hca⟩ : ∃ c, c = enc x0 := ⟨_, rfl⟩
     obtain ⟨cb, hcb⟩ : ∃ c, c = enc x1 := ⟨_, rfl⟩
     rw [← hca] at l0 hs0 s1
     rw [← hcb] at l1 hs1
     rw [← hca, ← hcb] at s2 HN
     have hwp : IntKind.i64.wrap (p : Int) = (p : Int) := by rw [IntKind.wrap_i64]; omega
     have ja : (p : Int) < (d.size : Int) := by omega
     have jb : (p : Int) + 1 < (d.size : Int) := by omega
     have pb : (0 : Int) ≤ (p : Int) + 1 := by omega
     have eb : ((p : Int) + 1).toNat = p + 1 := by omega
     clear hca hcb hD hsk hx0 hx1
     go_wp2_with fail
     go_big_region_o
     all_goals go_wp2
     go_roundw
     case measure => simp [intOf]; omega
     case rel => exact ⟨p, _, by first | rfl | go_num | (congr 1; omega), by omega, by omega, HN⟩
    ·obtain rfl : q = i := by omega
     have hltz : ¬ (q : Int) < (q : Int) := by omega
     go_wp2
     go_end0
     have h := HS.out
     have hM := HM.out
     have hm := HMM.out
     subst hm
     exact ⟨rfl, dk, h.perm, hM.last hO hi hjb HP.out.lo HP.out.hi h.at_, h.sw⟩
end Go.Proofs.YtnpnfajgphpabaaGreat.Fls

namespace Go.Proofs.YtnpnfajgphpabaaGreat.Fls
set_option linter.unusedVariables false
set_option linter.unusedSimpArgs false
set_option maxRecDepth 1000000
set_option maxHeartbeats 16000000
open Go.RowKit Go.Shelf Go.Sort Go.Lib
set_option linter.unusedSectionVars false
variable {P : Program} {α : Type} [Inhabited α]
structure Mids (cf : α → α → Int) (n s0 r0 s r : Nat) (d : Array α) : Prop where
 lo : s = s0 ∨ ¬ cf d[n - s]! d[s - 1]! < 0
 hi : r = r0 ∨ cf d[n - r - 1]! d[r]! < 0
def MidsAt (a m b mid s0 r0 : Nat) : Prop := (mid < m ∧ s0 = mid + m - b ∧ r0 = mid) ∨ (m ≤ mid ∧ s0 = a ∧ r0 = m)
structure Trn (enc : α → List Value) (k : Nat) (w : World) (blk off : Nat) (d : Array α) (a b m s e : Nat) (d' : Array α) (W : World) : Prop where
 size : d'.size = d.size
 at_ : ∀ x, x < d.size → d'[x]! = Stb.rot s m e (fun i => d[i]!) x
 perm : PermIn a b d d'
 sw : SW enc k w blk off d' W
theorem qdv {cf : α → α → Int} {tg : α → Nat} {a m b : Nat} {d d' : Array α} (h : Stb.Mrg cf tg a m b d) (hs : d'.size = d.size) (he : ∀ x, a ≤ x → x < b → d'[x]! = d[x]!) : Stb.Mrg cf tg a m b d' := by
 have am := h.am; have mb := h.mb; have bs := h.bs
 refine ⟨am, mb, by omega, h.l.congr fun x h1 h2 => he x h1 (by omega), h.r.congr fun x h1 h2 => he x (by omega) h2, fun i j h1 h2 h3 h4 => ?_⟩
 rw [he i h1 (by omega), he j (by omega) h4]
 exact h.x i j h1 h2 h3 h4
structure Hlf (enc : α → List Value) (k : Nat) (cf : α → α → Int) (tg : α → Nat) (w : World) (blk off : Nat) (a mid : Nat) (d d' : Array α) (W : World) : Prop where
 perm : PermIn a mid d d'
 rise : Stb.Rise cf tg a mid d'
 sw : SW enc k w blk off d' W
structure Trd (cf : α → α → Int) (tg : α → Nat) (a s mid e b : Nat) (d : Array α) : Prop where
 h1 : a < s → s < mid → Stb.Mrg cf tg a s mid d
 h2 : ¬ (a < s ∧ s < mid) → Stb.Rise cf tg a mid d
 h3 : mid < e → e < b → Stb.Mrg cf tg mid e b d
 h4 : ¬ (mid < e ∧ e < b) → Stb.Rise cf tg mid b d
 h5 : ∀ i j, a ≤ i → i < mid → mid ≤ j → j < b → Stb.Lx cf tg d[i]! d[j]!
def leftAt : Code → Option Nat
 | .region id _ _ => some id
 | .seq a _ => leftAt a
 | _ => none
def tailAt (n : Nat) : Code → Option Code
 | .seq a b => if leftAt a = some n then some (.seq a b) else (tailAt n a).or (tailAt n b)
 | .scope c => tailAt n c
 | .block _ c => tailAt n c
 | _ => none
noncomputable def qfd : Code := (Tryz.f80.body.bind (tailAt 41)).getD .skip
theorem qb9 {k : Nat} (L : SLay P k)
 (em : ∀ args w, (callFunc 80 args).run P w = .ok (.enter 80 args) w)
 (enc : α → List Value) (cf : α → α → Int) (tg : α → Nat) (g : Nat) (cb : Array Value)
 (blk off cap a m b mid s e : Nat) (d d1 : Array α) (w w1 : World) (k1 : a < mid) (k2 : mid < b) (hb : b ≤ d.size) (hsz : d.size < 4611686018427387904) (hem : e < 4611686018427387904) (hsm : s < 4611686018427387904)
 (HT : Hid (Trn enc k w blk off d a b m s e d1 w1)) (HTD : Hid (Trd cf tg a s mid e b d1))
 (IH : Hid (∀ (a' m' b' : Nat) (d' : Array α) (W : World), b' - a' < b - a → d'.size = d.size → SW enc k w blk off d' W → Stb.Mrg cf tg a' m' b' d' → Calls P 80 #[.slice (some ⟨blk, off, none⟩) d.size cap, .int .i64 a', .int .i64 m', .int .i64 b', .func (.func g) #[] cb] W (qaQ enc k cf tg W blk off d' a' b')))
 (u5 u6 u7 u8 u9 u10 u11 u12 u13 u14 u15 u16 u17 u19 u21 u22 u23 u25 u26 u27 u28 u29 u30 u31 u32 u33 u34 u35 u36 u37 u38 u39 u40 u41 u42 u43 u44 u45 u46 u47 u48 u49 u50 u51 u52 u53 u54 u55 u56 u57 u58 u59 u60 u61 u62 u63 u64 u65 u66 u67 u68 u69 u70 u71 u72 u73 u74 u75 u76 u77 u78 u79 u80 u81 u82 u83 u84 u85 u86 u87 u88 u89 u90 u91 u92 u93 u94 u95 u96 u97 u98 u99 u100 u101 u102 u103 u104 u105 u106 u107 u108 u109 u110 u111 u112 u113 u114 u115 u116 u117 u118 u119 u120 u121 u122 u123 u124 u125 u126 u127 u128 u129 u130 u131 u132 u133 u134 u135 u136 u137 u138 u139 u140 u141 u142 u143 u144 u145 u146 u147 u148 u149 u150 u151 u152 u153 u154 u155 u156 u157 u158 u159 u160 u161 u162 u163 u164 u165 u166 u167 u168 u169 u170 u171 u172 u173 u174 u175 u176 u177 u178 u179 u180 u181 u182 u183 u184 u185 u186 u187 u188 u189 u190 u191 u192 u193 u194 u195 u196 u197 u198 u199 u200 u201 u202 u203 u204 u205 u206 u207 u208 u209 u210 u211 u212 u213 u214 u215 u216 u217 u218 u219 : Value) :
 Code.wp P qfd (bodyPost P Tryz.f80 (qaQ enc k cf tg w blk off d a b)) ⟨#[.slice (some ⟨blk, off, none⟩) d.size cap, .int .i64 a, .int .i64 m, .int .i64 b, .func (.func g) #[] cb, u5, u6, u7, u8, u9, u10, u11, u12, u13, u14, u15, u16, u17, .int .i64 mid, u19, .int .i64 s, u21, u22, u23, .int .i64 e, u25, u26, u27, u28, u29, u30, u31, u32, u33, u34, u35, u36, u37, u38, u39, u40, u41, u42, u43, u44, u45, u46, u47, u48, u49, u50, u51, u52, u53, u54, u55, u56, u57, u58, u59, u60, u61, u62, u63, u64, u65, u66, u67, u68, u69, u70, u71, u72, u73, u74, u75, u76, u77, u78, u79, u80, u81, u82, u83, u84, u85, u86, u87, u88, u89, u90, u91, u92, u93, u94, u95, u96, u97, u98, u99, u100, u101, u102, u103, u104, u105, u106, u107, u108, u109, u110, u111, u112, u113, u114, u115, u116, u117, u118, u119, u120, u121, u122, u123, u124, u125, u126, u127, u128, u129, u130, u131, u132, u133, u134, u135, u136, u137, u138, u139, u140, u141, u142, u143, u144, u145, u146, u147, u148, u149, u150, u151, u152, u153, u154, u155, u156, u157, u158, u159, u160, u161, u162, u163, u164, u165, u166, u167, u168, u169, u170, u171, u172, u173, u174, u175, u176, u177, u178, u179, u180, u181, u182, u183, u184, u185, u186, u187, u188, u189, u190, u191, u192, u193, u194, u195, u196, u197, u198, u199, u200, u201, u202, u203, u204, u205, u206, u207, u208, u209, u210, u211, u212, u213, u214, u215, u216, u217, u218, u219], []⟩ w1 := by
 have mixed := L.mixed; have t0 := L.t0; have a0 := L.a0; have z0 := L.z0; have v0 := L.v0; have t3 := L.t3; have a3 := L.a3; have z3 := L.z3; have v3 := L.v3; have t4 := L.t4; have a4 := L.a4; have z4 := L.z4; have v4 := L.v4; have t85 := L.t85; have a85 := L.a85; have z85 := L.z85; have v85 := L.v85; have t43 := L.t43; have a43 := L.a43; have z43 := L.z43; have v43 := L.v43; have t69 := L.t69; have a69 := L.a69; have z69 := L.z69; have v69 := L.v69; have aE := L.aE; have zE := L.zE
 have u43 := run_underlying L.t43
 conv => arg 2; whnf
 conv => arg 4; zeta
 go_upto_region 41 with (fail)
 go_cut [199] (fun vc wx => (∃ c : Bool, vc = .bool c ∧ Hid (c = decide (a < s ∧ s < mid))) ∧ w1 = wx)
 case first =>
  by_cases q1 : a < s
  ·have q1z : (a : Int) < (s : Int) := by omega
   by_cases q2 : s < mid
   ·have q2z : (s : Int) < (mid : Int) := by omega
    go_wp2_with fail
    go_meet
    exact ⟨⟨true, rfl, qH0 (decide_eq_true (show a < s ∧ s < mid from ⟨q1, q2⟩)).symm⟩, rfl⟩
   ·have q2z : ¬ (s : Int) < (mid : Int) := by omega
    go_wp2_with fail
    go_meet
    exact ⟨⟨false, rfl, qH0 (decide_eq_false (show ¬ (a < s ∧ s < mid) from fun h => q2 h.2)).symm⟩, rfl⟩
  ·have q1z : ¬ (a : Int) < (s : Int) := by omega
   go_wp2_with fail
   go_meet
   exact ⟨⟨false, rfl, qH0 (decide_eq_false (show ¬ (a < s ∧ s < mid) from fun h => q1 h.1)).symm⟩, rfl⟩
 case rest =>
 obtain ⟨⟨cc2, rfl, HCCcc2⟩, rfl⟩ := hcut
 go_upto_if 199 with (fail)
 go_cut [] (fun wx => ∃ d2 : Array α, Hid (Hlf enc k cf tg w blk off a mid d1 d2 wx))
 case first =>
  cases cc2
  ·have q : ¬ (a < s ∧ s < mid) := of_decide_eq_false HCCcc2.out.symm
   have HX' : Hid (Hlf enc k cf tg w blk off a mid d1 d1 w1) := qH0 ⟨permIn_refl d1 a mid, HTD.out.h2 q, HT.out.sw⟩
   clear q
   go_wp2_with fail
   go_meet
   exact ⟨d1, HX'⟩
  ·have q : a < s ∧ s < mid := of_decide_eq_true HCCcc2.out.symm
   have hr := IH.out a s mid d1 _ (by omega) HT.out.size HT.out.sw (HTD.out.h1 q.1 q.2)
   clear q
   go_wp2_with fail
   go_at_fn 80
   refine hr.mono ?_
   rintro e' w' ⟨rfl, d2, g1, g2, g3⟩
   go_wp2_with fail
   go_meet
   exact ⟨d2, qH0 ⟨g1, g2, HT.out.sw.trans g3⟩⟩
 case rest =>
 obtain ⟨d2, HD2⟩ := hcut
 rename World => w2
 go_upto_region 43 with (fail)
 go_cut [213] (fun vc wx => (∃ c : Bool, vc = .bool c ∧ Hid (c = decide (mid < e ∧ e < b))) ∧ w2 = wx)
 case first =>
  by_cases q1 : mid < e
  ·have q1z : (mid : Int) < (e : Int) := by omega
   by_cases q2 : e < b
   ·have q2z : (e : Int) < (b : Int) := by omega
    go_wp2_with fail
    go_meet
    exact ⟨⟨true, rfl, qH0 (decide_eq_true (show mid < e ∧ e < b from ⟨q1, q2⟩)).symm⟩, rfl⟩
   ·have q2z : ¬ (e : Int) < (b : Int) := by omega
    go_wp2_with fail
    go_meet
    exact ⟨⟨false, rfl, qH0 (decide_eq_false (show ¬ (mid < e ∧ e < b) from fun h => q2 h.2)).symm⟩, rfl⟩
  ·have q1z : ¬ (mid : Int) < (e : Int) := by omega
   go_wp2_with fail
   go_meet
   exact ⟨⟨false, rfl, qH0 (decide_eq_false (show ¬ (mid < e ∧ e < b) from fun h => q1 h.1)).symm⟩, rfl⟩
 case rest =>
 obtain ⟨⟨cc3, rfl, HCCcc3⟩, rfl⟩ := hcut
 have hsz2 : d2.size = d.size := HD2.out.perm.1.trans HT.out.size
 have HSZ2 := qH0 hsz2
 clear hsz2
 cases cc3
 ·have q : ¬ (mid < e ∧ e < b) := of_decide_eq_false HCCcc3.out.symm
  have hr2 : Stb.Rise cf tg mid b d2 := (HTD.out.h4 q).congr fun x g1 _ => HD2.out.perm.2.1 x (Or.inr g1)
  have HR2 := qH0 hr2
  clear q hr2
  go_wp2_with fail
  go_end0
  have ht := HT.out
  have hd := HD2.out
  have hts := ht.size
  refine ⟨rfl, d2, permIn_trans _ _ _ a b ht.perm (permIn_mono _ _ a mid a b (qN0) (by omega) (by omega) hd.perm), ?_, hd.sw⟩
  exact Stb.rise_both a mid b (by omega) (by omega) HTD.out.h5 hd.perm hd.rise (permIn_refl d2 mid b) HR2.out
 ·have q : mid < e ∧ e < b := of_decide_eq_true HCCcc3.out.symm
  have hr := IH.out mid e b d2 _ (by omega) HSZ2.out HD2.out.sw (qdv (HTD.out.h3 q.1 q.2) HD2.out.perm.1 (fun x g1 _ => HD2.out.perm.2.1 x (Or.inr g1)))
  clear q
  go_wp2_with fail
  go_at_fn 80
  refine hr.mono ?_
  rintro e' w' ⟨rfl, d3, g1, g2, g3⟩
  go_wp2_with fail
  go_end0
  have ht := HT.out
  have hd := HD2.out
  have hts := ht.size
  refine ⟨rfl, d3, permIn_trans _ _ _ a b ht.perm (permIn_trans _ _ _ a b (permIn_mono _ _ a mid a b (qN0) (by omega) (by omega) hd.perm) (permIn_mono _ _ mid b a b (by omega) (qN0) (by have := HSZ2.out; omega) g1)), ?_, hd.sw.trans g3⟩
  exact Stb.rise_both a mid b (by omega) (by omega) HTD.out.h5 hd.perm hd.rise g1 g2
end Go.Proofs.YtnpnfajgphpabaaGreat.Fls

namespace Go.Proofs.YtnpnfajgphpabaaGreat
set_option linter.unusedVariables false
set_option linter.unusedSimpArgs false
set_option maxRecDepth 100000
set_option maxHeartbeats 4000000
open Go.RowKit Go.Shelf
theorem qg1 (cs : List Value) (r : Rc) (w : World) (hA : RcAt w cs r) (hk : RcOK r) :
 Calls Tryz.prog 43 #[.agg cs.toArray] w fun e w' => e = .returned (.int .i64 (checkR r)) ∧ Below w.heap.size w w' := by
 obtain ⟨vo, vn, vu, vt, vr, rfl, a1, a2⟩ := hA
 have HN := qH0 (fun W (hb : Below w.heap.size w W) => qiL vo r.owner _ rfl W (a1.below hb) hk.1)
 have HD := qH0 (fun W (hb : Below w.heap.size w W) => qge _ r.data W (a2.below hb) hk.2.2)
 unfold qdK at HD
 have hR := qH0 (show checkR r = if checkN r.owner ≠ 0 then checkN r.owner else if 2147483647 < r.ttl then 7 else checkD r.data from rfl)
 generalize checkR r = res at *
 generalize checkN r.owner = q at *
 generalize checkD r.data = q2 at *
 generalize r.data.ty = x at *
 obtain ⟨t, ht⟩ : ∃ t, r.ttl = t := ⟨_, rfl⟩
 rw [ht] at hR ⊢
 have hb0 : Below w.heap.size w (w.alloc (.cells #[vo, .int .u32 (t : Int), .int .i64 x, vn, vu, vt, vr] 89)) := (Below.refl w.heap.size w).alloc (qN0) _
 have K1 := qH0 (knew w (.cells #[vo, .int .u32 (t : Int), .int .i64 x, vn, vu, vt, vr] 89))
 have HBB := qH0 hb0
 have hn := HN.out _ hb0
 clear a1 a2 hb0 hk ht HN
 by_cases hq : q = 0
 ·subst hq
  by_cases hov : 2147483647 < t
  ·have HR : Hid (res = 7) := qH0 (by rw [hR.out, if_neg (by simp), if_pos hov])
   have hovz : (2147483647 : Int) < (t : Int) := by omega
   clear hR
   go_enter Tryz.func43, Tryz.ntmps43
   go_wp2_with fail
   refine hn.mono ?_
   rintro e w1 ⟨rfl, hb1⟩
   have c1 := (hb1.block _ (qaa K1.out)).trans K1.out
   have p1 := kcell c1 1 (.int .u32 (t : Int)) rfl
   have HB1 := qH0 (qB0 HBB.out hb1)
   clear hn hb1 c1
   go_wp2
   go_ret
   exact ⟨by rw [HR.out]; rfl, HB1.out⟩
  ·have HR : Hid (res = q2) := qH0 (by rw [hR.out, if_neg (by simp), if_neg hov])
   have hovz : ¬ (2147483647 : Int) < (t : Int) := by omega
   clear hR
   go_enter Tryz.func43, Tryz.ntmps43
   go_wp2_with fail
   refine hn.mono ?_
   rintro e w1 ⟨rfl, hb1⟩
   have c1 := (hb1.block _ (qaa K1.out)).trans K1.out
   have p1 := kcell c1 1 (.int .u32 (t : Int)) rfl; have p2 := kcell c1 2 _ rfl; have p3 := kcell c1 3 _ rfl; have p4 := kcell c1 4 _ rfl; have p5 := kcell c1 5 _ rfl; have p6 := kcell c1 6 _ rfl
   have HB1 := qH0 (qB0 HBB.out hb1)
   have hd := HD.out w1 HB1.out
   clear hn hb1 c1
   go_wp2_with fail
   refine hd.mono ?_
   rintro e w2 ⟨rfl, hb2⟩
   go_wp2
   go_ret
   exact ⟨by rw [HR.out]; rfl, qB0 HB1.out hb2⟩
 ·have HR : Hid (res = q) := qH0 (by rw [hR.out, if_pos hq])
  have hqz : (q == 0) = false := by simpa using hq
  have hqn : (q != 0) = true := by simpa using hq
  clear hR
  go_enter Tryz.func43, Tryz.ntmps43
  go_wp2_with fail
  refine hn.mono ?_
  rintro e w1 ⟨rfl, hb1⟩
  have HB1 := qH0 (qB0 HBB.out hb1)
  clear hn hb1
  go_wp2
  go_ret
  exact ⟨by rw [HR.out]; rfl, HB1.out⟩
theorem qcR (cs cs' : List Value) (a b : Rc) (w : World) (hA : RcAt w cs a) (hU : RcAt w cs' b) (hk : RcOK a) (hk2 : RcOK b) :
 Calls Tryz.prog 65 #[.agg cs.toArray, .agg cs'.toArray] w fun e w' => e = .returned (.int .i64 (qab a b)) ∧ Below w.heap.size w w' := by
 obtain ⟨vo, vn, vu, vt, vr, rfl, a1, a2⟩ := hA
 obtain ⟨uo, un, uu, ut, ur, rfl, b1, b2⟩ := hU
 have hb0 := fun o o' => ((Below.refl w.heap.size w).alloc (qN0) o).alloc (o := o') (by simp)
 have HN := qH0 (fun W (hb : Below w.heap.size w W) => qd2 vo uo a.owner b.owner _ rfl W (a1.below hb) (b1.below hb) hk.1 hk2.1)
 have HD := qH0 (fun W (hb : Below w.heap.size w W) => qeM _ _ a.data b.data W (a2.below hb) (b2.below hb) hk.2.2 hk2.2.2)
 have hR := qH0 (show qab a b = orI (qai a.owner b.owner) (qas a.data b.data) from rfl)
 generalize qab a b = r at *
 generalize qai a.owner b.owner = q at *
 generalize qas a.data b.data = q2 at *
 generalize a.data.ty = x at *
 generalize b.data.ty = y at *
 generalize (a.ttl : Int) = ta at *
 generalize (b.ttl : Int) = tb at *
 obtain ⟨O1, hO1⟩ : ∃ O, O = Obj.cells #[vo, .int .u32 ta, .int .i64 x, vn, vu, vt, vr] 89 := ⟨_, rfl⟩
 obtain ⟨O2, hO2⟩ : ∃ O, O = Obj.cells #[uo, .int .u32 tb, .int .i64 y, un, uu, ut, ur] 89 := ⟨_, rfl⟩
 have hbb := hb0 O1 O2
 have HBB := qH0 hbb
 have hn := HN.out _ hbb
 have k1 : ((w.alloc O1).alloc O2).heap[w.heap.size]? = some O1 := (Below.heap_alloc (w.alloc O1) O2 w.heap.size (by simp)).trans (knew w O1)
 have k2 : ((w.alloc O1).alloc O2).heap[w.heap.size + 1]? = some O2 := by have := knew (w.alloc O1) O2; simpa using this
 rw [hO1] at k1 k2 hn HBB
 rw [hO2] at k1 k2 hn HBB
 have K1 := qH0 k1; have K2 := qH0 k2
 clear k1 k2 hbb hb0 a1 a2 b1 b2 hk hk2 hO1 hO2
 by_cases hq : q = 0
 ·subst hq
  have HR : Hid (r = q2) := qH0 (by rw [hR.out]; rfl)
  clear hR
  go_enter Tryz.func65, Tryz.ntmps65
  go_wp2_with fail
  refine hn.mono ?_
  rintro e w1 ⟨rfl, hb1⟩
  have HB1 := qH0 (qB0 HBB.out hb1)
  have c1 := (hb1.block _ (qaa K1.out)).trans K1.out
  have c2 := (hb1.block _ (qaa K2.out)).trans K2.out
  have p2 := kcell c1 2 _ rfl; have p3 := kcell c1 3 _ rfl; have p4 := kcell c1 4 _ rfl; have p5 := kcell c1 5 _ rfl; have p6 := kcell c1 6 _ rfl
  have r2 := kcell c2 2 _ rfl; have r3 := kcell c2 3 _ rfl; have r4 := kcell c2 4 _ rfl; have r5 := kcell c2 5 _ rfl; have r6 := kcell c2 6 _ rfl
  clear hb1 c1 c2 hn
  have hd := HD.out w1 HB1.out
  go_wp2_with fail
  refine hd.mono ?_
  rintro e w2 ⟨rfl, hb2⟩
  go_wp2
  go_ret
  exact ⟨by rw [HR.out]; rfl, qB0 HB1.out hb2⟩
 ·have HR : Hid (r = q) := qH0 (by rw [hR.out]; unfold orI; rw [if_neg hq])
  have hqz : (q == 0) = false := by simpa using hq
  have hqn : (q != 0) = true := by simpa using hq
  clear hR
  go_enter Tryz.func65, Tryz.ntmps65
  go_wp2_with fail
  refine hn.mono ?_
  rintro e w1 ⟨rfl, hb1⟩
  have HB1 := qH0 (qB0 HBB.out hb1)
  clear hb1 hn
  go_wp2
  go_ret
  exact ⟨by rw [HR.out]; rfl, HB1.out⟩
theorem qhA (cs cs' : List Value) (a b : Rc) (w : World) (hA : RcAt w cs a) (hU : RcAt w cs' b) (hk : RcOK a) (hk2 : RcOK b) :
 Calls Tryz.prog 66 #[.agg cs.toArray, .agg cs'.toArray] w fun e w' => e = .returned (.bool (sameR a b)) ∧ Below w.heap.size w w' := by
 have HS := qH0 (fun W (hb : Below w.heap.size w W) => qcR cs cs' a b W (hA.below hb) (hU.below hb) hk hk2)
 obtain ⟨vo, vn, vu, vt, vr, rfl, -⟩ := hA
 obtain ⟨uo, un, uu, ut, ur, rfl, -⟩ := hU
 have hR := qH0 (show sameR a b = (qab a b == 0) from rfl)
 generalize sameR a b = res at *
 generalize qab a b = q at *
 generalize a.data.ty = x at *
 generalize b.data.ty = y at *
 generalize (a.ttl : Int) = ta at *
 generalize (b.ttl : Int) = tb at *
 obtain ⟨O1, hO1⟩ : ∃ O, O = Obj.cells #[vo, .int .u32 ta, .int .i64 x, vn, vu, vt, vr] 89 := ⟨_, rfl⟩
 obtain ⟨O2, hO2⟩ : ∃ O, O = Obj.cells #[uo, .int .u32 tb, .int .i64 y, un, uu, ut, ur] 89 := ⟨_, rfl⟩
 have hbb := ((Below.refl w.heap.size w).alloc (qN0) O1).alloc (o := O2) (by simp)
 have HBB := qH0 hbb
 have hn := HS.out _ hbb
 rw [hO1, hO2] at hn HBB
 clear hbb hk hk2 hO1 hO2 HS
 go_enter Tryz.func66, Tryz.ntmps66
 go_wp2_with fail
 refine hn.mono ?_
 rintro e w1 ⟨rfl, hb1⟩
 have HB1 := qH0 (qB0 HBB.out hb1)
 clear hb1 hn
 go_wp2
 go_ret
 exact ⟨by rw [hR.out]; rfl, HB1.out⟩
end Go.Proofs.YtnpnfajgphpabaaGreat
