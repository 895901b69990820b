/-
  The library's sort in place at a struct: symMerge where the one side has one element.
-/
import Derived.Test.YtckammgnmgkieaaGreatMQ43
namespace Go.Proofs.YtckammgnmgkieaaGreat
set_option maxRecDepth 20000
open Go.RowKit Go.Shelf Go.Sort Go.Lib
set_option linter.unusedVariables false
set_option linter.unusedSimpArgs false
set_option linter.unusedSectionVars false
variable {P : Program} {α : Type} [Inhabited α]

def SymPost (enc : α → List Value) (k : Nat) (cf : α → α → Int) (tg : α → Nat) (w : World) (blk off : Nat) (d : Array α) (a b : Nat) (e : Ending) (w' : World) : Prop :=
  e = .returned (.tuple #[]) ∧ ∃ d' : Array α, PermIn a b d d' ∧ Stb.Rise cf tg a b d' ∧ SW enc k w blk off d' w'

structure One1 (cf : α → α → Int) (a b i j : Nat) (d : Array α) : Prop where
  lo : i = a + 1 ∨ cf d[i - 1]! d[a]! < 0
  hi : j = b ∨ ¬ cf d[j]! d[a]! < 0
structure Shu (enc : α → List Value) (k : Nat) (w : World) (blk off : Nat) (d : Array α) (a q m : Nat) (dk : Array α) (W : World) : Prop where
  size : dk.size = d.size
  at_ : ∀ x, x < d.size → dk[x]! = Stb.shu a q (fun i => d[i]!) x
  perm : PermIn a m d dk
  sw : SW enc k w blk off dk W

set_option maxHeartbeats 8000000 in
set_option maxRecDepth 1000000 in
theorem sort_sym_one {k : Nat} (L : SLay P k) (hF : P.funcs[209]? = some Tryz.f209) (enc : α → List Value) (hk : ∀ x, (enc x).length = k) (h1 : ∀ x, ∀ v ∈ enc x, v.oneCell' = true) (cf : α → α → Int) (tg : α → Nat) (hO : Stb.COrd cf) (g : Nat) (cb : Array Value)
    (blk off cap a m b : Nat) (hm : m = a + 1) (d : Array α) (w : World) (hcmp : CmpB P g cb enc cf w blk) (hH : HoldsK enc k w blk off d) (hblk : blk < w.heap.size) (hM : Stb.Mrg cf tg a m b d) (hsz : d.size < 4611686018427387904) :
    Calls P 209 #[.slice (some ⟨blk, off, none⟩) d.size cap, .int .i64 a, .int .i64 m, .int .i64 b, .func (.func g) #[] cb] w (SymPost enc k cf tg w blk off d a b) := by
  have mixed := L.mixed; have t0 := L.t0; have a0 := L.a0; have z0 := L.z0; have v0 := L.v0; have t3 := L.t3; have a3 := L.a3; have z3 := L.z3; have v3 := L.v3; have t4 := L.t4; have a4 := L.a4; have z4 := L.z4; have v4 := L.v4; have t85 := L.t85; have a85 := L.a85; have z85 := L.z85; have v85 := L.v85; have t43 := L.t43; have a43 := L.a43; have z43 := L.z43; have v43 := L.v43; have t69 := L.t69; have a69 := L.a69; have z69 := L.z69; have v69 := L.v69; have aE := L.aE; have zE := L.zE
  have u43 := run_underlying L.t43
  have hm1 : m ≤ a + 1 := by omega
  have hm2 : a + 1 ≤ m := by omega
  have HMM := Lib.hid hm
  have hmb : m < b := hM.mb
  have hb : b ≤ d.size := hM.bs
  have HM := Lib.hid hM
  have HC := Lib.hid hcmp
  have eg := hcmp.eg
  have HK := Lib.hid hk; have H1 := Lib.hid h1
  have HST : Hid (SW enc k w blk off d w) := Lib.hid (SW.refl hH hblk)
  have c1 : ((m : Int) - (a : Int)) = 1 := by omega
  clear hcmp hH hk h1 hblk hM hm
  obtain ⟨xa, hxa⟩ : ∃ x, d[a]! = x := ⟨_, rfl⟩
  have HXA := Lib.hid hxa
  clear hxa
  go_enter hF, Tryz.ntmps209
  go_wp2
  go_loopw [10, 11] (fun vi vj wr => ∃ (i j : Nat), vi = .int .i64 i ∧ vj = .int .i64 j ∧ a + 1 ≤ i ∧ i ≤ j ∧ j ≤ b ∧ Hid (One1 cf a b i j d) ∧ Hid (SW enc k w blk off d wr)) (fun vi vj _ => (intOf vj).toNat - (intOf vi).toNat)
  case atStart => exact ⟨m, b, rfl, rfl, by omega, by omega, Nat.le_refl _, Lib.hid ⟨Or.inl HMM.out, Or.inl rfl⟩, HST⟩
  case round =>
    obtain ⟨i, j, rfl, rfl, hi, hij, hjb, HP, HW⟩ := hrel
    by_cases hlt : i < j
    · have hltz : (i : Int) < (j : Int) := by omega
      obtain ⟨h, hh⟩ : ∃ h : Nat, (i + j) / 2 = h := ⟨_, rfl⟩
      have hhz : ((i : Int) + (j : Int)) / 2 = (h : Int) := by omega
      have h1 : i ≤ h := by omega
      have h2 : h < j := by omega
      have h3 : (h : Int) < (d.size : Int) := by omega
      have h4 : (a : Int) < (d.size : Int) := by omega
      clear hh
      obtain ⟨xh, hxh⟩ : ∃ x, d[h]! = x := ⟨_, rfl⟩
      have lh : ∀ p : WIn (fun W => SW enc k w blk off d W), Sem.run P (loadCellsFrom ⟨blk, off + h * k, none⟩ 0 k #[]) p.w = .ok (enc xh).toArray p.w := fun p => by
        rw [← hxh]; exact p.ok.load P HK.out h (by omega)
      have la : ∀ p : WIn (fun W => SW enc k w blk off d W), Sem.run P (loadCellsFrom ⟨blk, off + a * k, none⟩ 0 k #[]) p.w = .ok (enc xa).toArray p.w := fun p => by
        rw [← HXA.out]; exact p.ok.load P HK.out a (by omega)
      have hne : Nonempty (WIn (fun W => SW enc k w blk off d W)) := ⟨⟨_, HW.out.drew⟩⟩
      have hcg := fun p : WIn (fun W => SW enc k w blk off d W) => HC.out.cls d p xh xa
      have HXH := Lib.hid hxh
      clear hxh
      by_cases hlv : cf xh xa < 0
      · have HN : Hid (One1 cf a b (h + 1) j d) := Lib.hid ⟨Or.inr (by rw [Nat.add_sub_cancel, HXH.out, HXA.out]; exact hlv), HP.out.hi⟩
        go_wp2_with fail
        refine wp_region_cls (fun W => SW enc k w blk off d W) mixed (by kernel_rfl) HW.out.drew ?_
        repeat (quiet_step (first | (go_at_fn g; exact hcg _)))
        refine wpQuiet_nil ?_
        rintro _ ⟨p, rfl⟩
        go_wp2
        go_roundw
        case measure => simp [intOf]; omega
        case rel => exact ⟨h + 1, j, by go_num, rfl, by omega, by omega, hjb, HN, Lib.hid p.ok⟩
      · have HN : Hid (One1 cf a b i h d) := Lib.hid ⟨HP.out.lo, Or.inr (by rw [HXH.out, HXA.out]; exact hlv)⟩
        go_wp2_with fail
        refine wp_region_cls (fun W => SW enc k w blk off d W) mixed (by kernel_rfl) HW.out.drew ?_
        repeat (quiet_step (first | (go_at_fn g; exact hcg _)))
        refine wpQuiet_nil ?_
        rintro _ ⟨p, rfl⟩
        go_wp2
        go_roundw
        case measure => simp [intOf]; omega
        case rel => exact ⟨i, h, rfl, rfl, by omega, by omega, by omega, HN, Lib.hid p.ok⟩
    · obtain rfl : i = j := by omega
      have HS0 : Hid (Shu enc k w blk off d a a b d wr) := Lib.hid ⟨rfl, fun x _ => (Stb.shu_zero a _ x).symm, permIn_refl d a _, HW.out⟩
      clear HW hlt hij
      rename World => wo
      go_wp2
      go_loopw [13] (fun vq wr => ∃ (q : Nat) (dk : Array α), vq = .int .i64 q ∧ a ≤ q ∧ q ≤ i - 1 ∧ Hid (Shu enc k w blk off d a q b dk wr)) (fun vq _ => i - 1 - (intOf vq).toNat)
      case atStart => exact ⟨a, d, rfl, Nat.le_refl _, by omega, HS0⟩
      case round =>
        obtain ⟨q, dk, rfl, hq, hqi, HS⟩ := hrel
        by_cases hlt : q < i - 1
        · have hltz : (q : Int) < (i : Int) - 1 := by omega
          obtain ⟨x0, hx0⟩ : ∃ x, dk[q]! = x := ⟨_, rfl⟩
          obtain ⟨x1, hx1⟩ : ∃ x, dk[q + 1]! = x := ⟨_, rfl⟩
          have hsk := HS.out.size
          have hD := HS.out.sw.drew
          have l0 := hD.load P HK.out q (by omega)
          have l1 := hD.load P HK.out (q + 1) (by omega)
          have s1 := hD.store1 P HK.out H1.out q (by omega) x1
          have s2 := hD.store2 P HK.out H1.out q (q + 1) (by omega) (by omega) x1 x0
          rw [hx0] at l0
          rw [hx1] at l1
          have hs0 : (enc x0).length = k := HK.out _
          have hs1 : (enc x1).length = k := HK.out _
          have HN : Hid (Shu enc k w blk off d a (q + 1) b (swp dk q (q + 1)) ((wr.drew.setCells blk (off + q * k) (enc x1)).setCells blk (off + (q + 1) * k) (enc x0))) := by
            have h := HS.out
            refine Lib.hid ⟨by rw [size_swp]; exact hsk, Stb.shu_step hq (by omega) hsk h.at_, permIn_trans _ _ _ a b h.perm (swp_permIn dk a b q (q + 1) hq (by omega) (by omega) (by omega) (by omega)), ?_⟩
            have := hD.swap HK.out q (q + 1) (by omega) (by omega)
            rwa [hx0, hx1] at this
          obtain ⟨ca, hca⟩ : ∃ c, c = enc x0 := ⟨_, rfl⟩
          obtain ⟨cb, hcb⟩ : ∃ c, c = enc x1 := ⟨_, rfl⟩
          rw [← hca] at l0 hs0
          rw [← hcb] at l1 hs1 s1
          rw [← hca, ← hcb] at s2 HN
          have ja : (q : Int) < (d.size : Int) := by omega
          have jb : (q : Int) + 1 < (d.size : Int) := by omega
          have pb : (0 : Int) ≤ (q : Int) + 1 := by omega
          have eb : ((q : Int) + 1).toNat = q + 1 := by omega
          clear hca hcb hD hsk hx0 hx1
          go_wp2_with fail
          go_big_region_o
          all_goals go_wp2
          go_roundw
          case measure => simp [intOf]; omega
          case rel => exact ⟨q + 1, _, by go_num, by omega, by omega, HN⟩
        · obtain rfl : q = i - 1 := by omega
          have hltz : ¬ ((i - 1 : Nat) : Int) < (i : Int) - 1 := by omega
          go_wp2
          go_end0
          have h := HS.out
          have hM := HM.out
          have hm := HMM.out
          subst hm
          exact ⟨rfl, dk, h.perm, hM.one hO hi hjb HP.out.lo HP.out.hi h.at_, h.sw⟩
end Go.Proofs.YtckammgnmgkieaaGreat

/-
  The library's sort in place at a struct: symMerge where the other side has one element.
-/
namespace Go.Proofs.YtckammgnmgkieaaGreat
set_option maxRecDepth 20000
open Go.RowKit Go.Shelf Go.Sort Go.Lib
set_option linter.unusedVariables false
set_option linter.unusedSimpArgs false
set_option linter.unusedSectionVars false
variable {P : Program} {α : Type} [Inhabited α]

structure One2 (cf : α → α → Int) (a m i j : Nat) (d : Array α) : Prop where
  lo : i = a ∨ ¬ cf d[m]! d[i - 1]! < 0
  hi : j = m ∨ cf d[m]! d[j]! < 0
structure Shd (enc : α → List Value) (k : Nat) (w : World) (blk off : Nat) (d : Array α) (a b m q : Nat) (dk : Array α) (W : World) : Prop where
  size : dk.size = d.size
  at_ : ∀ x, x < d.size → dk[x]! = Stb.shd q m (fun i => d[i]!) x
  perm : PermIn a b d dk
  sw : SW enc k w blk off dk W

set_option maxHeartbeats 8000000 in
set_option maxRecDepth 1000000 in
theorem sort_sym_last {k : Nat} (L : SLay P k) (hF : P.funcs[209]? = some Tryz.f209) (enc : α → List Value) (hk : ∀ x, (enc x).length = k) (h1 : ∀ x, ∀ v ∈ enc x, v.oneCell' = true) (cf : α → α → Int) (tg : α → Nat) (hO : Stb.COrd cf) (g : Nat) (cb : Array Value)
    (blk off cap a m b : Nat) (hma : m ≠ a + 1) (hbm : b = m + 1) (d : Array α) (w : World) (hcmp : CmpB P g cb enc cf w blk) (hH : HoldsK enc k w blk off d) (hblk : blk < w.heap.size) (hM : Stb.Mrg cf tg a m b d) (hsz : d.size < 4611686018427387904) :
    Calls P 209 #[.slice (some ⟨blk, off, none⟩) d.size cap, .int .i64 a, .int .i64 m, .int .i64 b, .func (.func g) #[] cb] w (SymPost enc k cf tg w blk off d a b) := by
  have mixed := L.mixed; have t0 := L.t0; have a0 := L.a0; have z0 := L.z0; have v0 := L.v0; have t3 := L.t3; have a3 := L.a3; have z3 := L.z3; have v3 := L.v3; have t4 := L.t4; have a4 := L.a4; have z4 := L.z4; have v4 := L.v4; have t85 := L.t85; have a85 := L.a85; have z85 := L.z85; have v85 := L.v85; have t43 := L.t43; have a43 := L.a43; have z43 := L.z43; have v43 := L.v43; have t69 := L.t69; have a69 := L.a69; have z69 := L.z69; have v69 := L.v69; have aE := L.aE; have zE := L.zE
  have u43 := run_underlying L.t43
  have ham : a < m := hM.am
  have hb : b ≤ d.size := hM.bs
  have hm1 : b ≤ m + 1 := by omega
  have hm2 : m + 1 ≤ b := by omega
  have HMM := Lib.hid hbm
  have HM := Lib.hid hM
  have HC := Lib.hid hcmp
  have eg := hcmp.eg
  have HK := Lib.hid hk; have H1 := Lib.hid h1
  have HST : Hid (SW enc k w blk off d w) := Lib.hid (SW.refl hH hblk)
  have c1 : ((m : Int) - (a : Int) == 1) = false := by simp; omega
  have c2 : ((b : Int) - (m : Int)) = 1 := by omega
  have ham2 : a + 2 ≤ m := by omega
  clear hcmp hH hk h1 hblk hM hma hbm
  obtain ⟨xm, hxm⟩ : ∃ x, d[m]! = x := ⟨_, rfl⟩
  have HXM := Lib.hid hxm
  clear hxm
  go_enter hF, Tryz.ntmps209
  go_wp2
  go_loopw [14, 15] (fun vi vj wr => ∃ (i j : Nat), vi = .int .i64 i ∧ vj = .int .i64 j ∧ a ≤ i ∧ i ≤ j ∧ j ≤ m ∧ Hid (One2 cf a m i j d) ∧ Hid (SW enc k w blk off d wr)) (fun vi vj _ => (intOf vj).toNat - (intOf vi).toNat)
  case atStart => exact ⟨a, m, rfl, rfl, Nat.le_refl _, by omega, Nat.le_refl _, Lib.hid ⟨Or.inl rfl, Or.inl rfl⟩, HST⟩
  case round =>
    obtain ⟨i, j, rfl, rfl, hi, hij, hjb, HP, HW⟩ := hrel
    by_cases hlt : i < j
    · have hltz : (i : Int) < (j : Int) := by omega
      obtain ⟨h, hh⟩ : ∃ h : Nat, (i + j) / 2 = h := ⟨_, rfl⟩
      have hhz : ((i : Int) + (j : Int)) / 2 = (h : Int) := by omega
      have h1 : i ≤ h := by omega
      have h2 : h < j := by omega
      have h3 : (h : Int) < (d.size : Int) := by omega
      have h4 : (m : Int) < (d.size : Int) := by omega
      clear hh
      obtain ⟨xh, hxh⟩ : ∃ x, d[h]! = x := ⟨_, rfl⟩
      have lh : ∀ p : WIn (fun W => SW enc k w blk off d W), Sem.run P (loadCellsFrom ⟨blk, off + h * k, none⟩ 0 k #[]) p.w = .ok (enc xh).toArray p.w := fun p => by
        rw [← hxh]; exact p.ok.load P HK.out h (by omega)
      have la : ∀ p : WIn (fun W => SW enc k w blk off d W), Sem.run P (loadCellsFrom ⟨blk, off + m * k, none⟩ 0 k #[]) p.w = .ok (enc xm).toArray p.w := fun p => by
        rw [← HXM.out]; exact p.ok.load P HK.out m (by omega)
      have hne : Nonempty (WIn (fun W => SW enc k w blk off d W)) := ⟨⟨_, HW.out.drew⟩⟩
      have hcg := fun p : WIn (fun W => SW enc k w blk off d W) => HC.out.cls d p xm xh
      have HXH := Lib.hid hxh
      clear hxh
      by_cases hlv : cf xm xh < 0
      · have HN : Hid (One2 cf a m i h d) := Lib.hid ⟨HP.out.lo, Or.inr (by rw [HXH.out, HXM.out]; exact hlv)⟩
        go_wp2_with fail
        refine wp_region_cls (fun W => SW enc k w blk off d W) mixed (by kernel_rfl) HW.out.drew ?_
        repeat (quiet_step (first | (go_at_fn g; exact hcg _)))
        refine wpQuiet_nil ?_
        rintro _ ⟨p, rfl⟩
        go_wp2
        go_roundw
        case measure => simp [intOf]; omega
        case rel => exact ⟨i, h, rfl, rfl, by omega, by omega, by omega, HN, Lib.hid p.ok⟩
      · have hlb : (!decide (cf xm xh < 0)) = true := by simp; omega
        have HN : Hid (One2 cf a m (h + 1) j d) := Lib.hid ⟨Or.inr (by rw [Nat.add_sub_cancel, HXH.out, HXM.out]; exact hlv), HP.out.hi⟩
        go_wp2_with fail
        refine wp_region_cls (fun W => SW enc k w blk off d W) mixed (by kernel_rfl) HW.out.drew ?_
        repeat (quiet_step (first | (go_at_fn g; exact hcg _)))
        refine wpQuiet_nil ?_
        rintro _ ⟨p, rfl⟩
        go_wp2
        go_roundw
        case measure => simp [intOf]; omega
        case rel => exact ⟨h + 1, j, by go_num, rfl, by omega, by omega, hjb, HN, Lib.hid p.ok⟩
    · obtain rfl : i = j := by omega
      have HS0 : Hid (Shd enc k w blk off d a b m m d wr) := Lib.hid ⟨rfl, fun x _ => (Stb.shd_zero m _ x).symm, permIn_refl d a _, HW.out⟩
      clear HW hlt hij
      rename World => wo
      go_wp2
      go_loopw [17] (fun vq wr => ∃ (q : Nat) (dk : Array α), vq = .int .i64 q ∧ i ≤ q ∧ q ≤ m ∧ Hid (Shd enc k w blk off d a b m q dk wr)) (fun vq _ => (intOf vq).toNat - i)
      case atStart => exact ⟨m, d, rfl, by omega, Nat.le_refl _, HS0⟩
      case round =>
        obtain ⟨q, dk, rfl, hq, hqi, HS⟩ := hrel
        by_cases hlt : i < q
        · obtain ⟨p, rfl⟩ : ∃ p, q = p + 1 := ⟨q - 1, by omega⟩
          have hltz : (i : Int) < (p : Int) + 1 := by omega
          obtain ⟨x0, hx0⟩ : ∃ x, dk[p]! = x := ⟨_, rfl⟩
          obtain ⟨x1, hx1⟩ : ∃ x, dk[p + 1]! = x := ⟨_, rfl⟩
          have hsk := HS.out.size
          have hD := HS.out.sw.drew
          have l0 := hD.load P HK.out p (by omega)
          have l1 := hD.load P HK.out (p + 1) (by omega)
          have s1 := hD.store1 P HK.out H1.out (p + 1) (by omega) x0
          have s2 := hD.store2 P HK.out H1.out (p + 1) p (by omega) (by omega) x0 x1
          rw [hx0] at l0
          rw [hx1] at l1
          have hs0 : (enc x0).length = k := HK.out _
          have hs1 : (enc x1).length = k := HK.out _
          have HN : Hid (Shd enc k w blk off d a b m p (swp dk (p + 1) p) ((wr.drew.setCells blk (off + (p + 1) * k) (enc x0)).setCells blk (off + p * k) (enc x1))) := by
            have h := HS.out
            refine Lib.hid ⟨by rw [size_swp]; exact hsk, Stb.shd_step hqi (by omega) hsk h.at_, permIn_trans _ _ _ a b h.perm (swp_permIn dk a b (p + 1) p (by omega) (by omega) (by omega) (by omega) (by omega)), ?_⟩
            have := hD.swap HK.out (p + 1) p (by omega) (by omega)
            rwa [hx0, hx1] at this
          obtain ⟨ca, hca⟩ : ∃ c, c = enc x0 := ⟨_, rfl⟩
          obtain ⟨cb, hcb⟩ : ∃ c, c = enc x1 := ⟨_, rfl⟩
          rw [← hca] at l0 hs0 s1
          rw [← hcb] at l1 hs1
          rw [← hca, ← hcb] at s2 HN
          have hwp : IntKind.i64.wrap (p : Int) = (p : Int) := by rw [IntKind.wrap_i64]; omega
          have ja : (p : Int) < (d.size : Int) := by omega
          have jb : (p : Int) + 1 < (d.size : Int) := by omega
          have pb : (0 : Int) ≤ (p : Int) + 1 := by omega
          have eb : ((p : Int) + 1).toNat = p + 1 := by omega
          clear hca hcb hD hsk hx0 hx1
          go_wp2_with fail
          go_big_region_o
          all_goals go_wp2
          go_roundw
          case measure => simp [intOf]; omega
          case rel => exact ⟨p, _, by first | rfl | go_num | (congr 1; omega), by omega, by omega, HN⟩
        · obtain rfl : q = i := by omega
          have hltz : ¬ (q : Int) < (q : Int) := by omega
          go_wp2
          go_end0
          have h := HS.out
          have hM := HM.out
          have hm := HMM.out
          subst hm
          exact ⟨rfl, dk, h.perm, hM.last hO hi hjb HP.out.lo HP.out.hi h.at_, h.sw⟩
end Go.Proofs.YtckammgnmgkieaaGreat

