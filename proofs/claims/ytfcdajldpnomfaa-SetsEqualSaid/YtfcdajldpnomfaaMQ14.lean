/-
  The library's sort in place at a struct: symMerge where the other side has one element.
-/
import Derived.Test.YtfcdajldpnomfaaMQ26
import Derived.Deep.CutBlock
import Derived.Deep.DeepCutAuto
import Derived.Test.YtfcdajldpnomfaaMQ09
import Derived.Test.YtfcdajldpnomfaaMQ29
import Derived.Test.YtfcdajldpnomfaaMQ35
namespace Go.Proofs.Ytfcdajldpnomfaa
set_option maxRecDepth 20000
open Go.RowKit Go.Shelf Go.Sort Go.Lib
set_option linter.unusedVariables false
set_option linter.unusedSimpArgs false
set_option linter.unusedSectionVars false
variable {P : Program} {α : Type} [Inhabited α]

/-- One behind: the search so far. -/
structure One2 (cf : α → α → Int) (a m i j : Nat) (d : Array α) : Prop where
  lo : i = a ∨ ¬ cf d[m]! d[i - 1]! < 0
  hi : j = m ∨ cf d[m]! d[j]! < 0
structure Shd (enc : α → List Value) (k : Nat) (w : World) (blk off : Nat) (d : Array α) (a b m q : Nat) (dk : Array α) (W : World) : Prop where
  size : dk.size = d.size
  at_ : ∀ x, x < d.size → dk[x]! = Stb.shd q m (fun i => d[i]!) x
  perm : PermIn a b d dk
  sw : SW enc k w blk off dk W

set_option maxHeartbeats 8000000 in
set_option maxRecDepth 1000000 in
theorem sort_sym_last {k : Nat} (L : SLay P k) (hF : P.funcs[91]? = some Try.f91) (enc : α → List Value) (hk : ∀ x, (enc x).length = k) (h1 : ∀ x, ∀ v ∈ enc x, v.oneCell' = true) (cf : α → α → Int) (tg : α → Nat) (hO : Stb.COrd cf) (g : Nat) (cb : Array Value)
    (blk off cap a m b : Nat) (hma : m ≠ a + 1) (hbm : b = m + 1) (d : Array α) (w : World) (hcmp : CmpB P g cb enc cf w blk) (hH : HoldsK enc k w blk off d) (hblk : blk < w.heap.size) (hM : Stb.Mrg cf tg a m b d) (hsz : d.size < 4611686018427387904) :
    Calls P 91 #[.slice (some ⟨blk, off, none⟩) d.size cap, .int .i64 a, .int .i64 m, .int .i64 b, .func (.func g) #[] cb] w (SymPost enc k cf tg w blk off d a b) := by
  have mixed := L.mixed; have t0 := L.t0; have a0 := L.a0; have z0 := L.z0; have v0 := L.v0; have t3 := L.t3; have a3 := L.a3; have z3 := L.z3; have v3 := L.v3; have t4 := L.t4; have a4 := L.a4; have z4 := L.z4; have v4 := L.v4; have t85 := L.t85; have a85 := L.a85; have z85 := L.z85; have v85 := L.v85; have t43 := L.t43; have a43 := L.a43; have z43 := L.z43; have v43 := L.v43; have t69 := L.t69; have a69 := L.a69; have z69 := L.z69; have v69 := L.v69; have aE := L.aE; have zE := L.zE
  have u43 := run_underlying L.t43
  have ham : a < m := hM.am
  have hb : b ≤ d.size := hM.bs
  have hm1 : b ≤ m + 1 := by omega
  have hm2 : m + 1 ≤ b := by omega
  have HMM := Lib.hid hbm
  have HM := Lib.hid hM
  have HC := Lib.hid hcmp
  have eg := hcmp.eg
  have HK := Lib.hid hk; have H1 := Lib.hid h1
  have HST : Hid (SW enc k w blk off d w) := Lib.hid (SW.refl hH hblk)
  have c1 : ((m : Int) - (a : Int) == 1) = false := by simp; omega
  have c2 : ((b : Int) - (m : Int)) = 1 := by omega
  have ham2 : a + 2 ≤ m := by omega
  clear hcmp hH hk h1 hblk hM hma hbm
  obtain ⟨xm, hxm⟩ : ∃ x, d[m]! = x := ⟨_, rfl⟩
  have HXM := Lib.hid hxm
  clear hxm
  go_enter hF, Try.ntmps91
  go_wp2
  go_loopw [14, 15] (fun vi vj wr => ∃ (i j : Nat), vi = .int .i64 i ∧ vj = .int .i64 j ∧ a ≤ i ∧ i ≤ j ∧ j ≤ m ∧ Hid (One2 cf a m i j d) ∧ Hid (SW enc k w blk off d wr)) (fun vi vj _ => (intOf vj).toNat - (intOf vi).toNat)
  case atStart => exact ⟨a, m, rfl, rfl, Nat.le_refl _, by omega, Nat.le_refl _, Lib.hid ⟨Or.inl rfl, Or.inl rfl⟩, HST⟩
  case round =>
    obtain ⟨i, j, rfl, rfl, hi, hij, hjb, HP, HW⟩ := hrel
    by_cases hlt : i < j
    · have hltz : (i : Int) < (j : Int) := by omega
      obtain ⟨h, hh⟩ : ∃ h : Nat, (i + j) / 2 = h := ⟨_, rfl⟩
      have hhz : ((i : Int) + (j : Int)) / 2 = (h : Int) := by omega
      have h1 : i ≤ h := by omega
      have h2 : h < j := by omega
      have h3 : (h : Int) < (d.size : Int) := by omega
      have h4 : (m : Int) < (d.size : Int) := by omega
      clear hh
      obtain ⟨xh, hxh⟩ : ∃ x, d[h]! = x := ⟨_, rfl⟩
      have lh : ∀ p : WIn (fun W => SW enc k w blk off d W), Sem.run P (loadCellsFrom ⟨blk, off + h * k, none⟩ 0 k #[]) p.w = .ok (enc xh).toArray p.w := fun p => by
        rw [← hxh]; exact p.ok.load P HK.out h (by omega)
      have la : ∀ p : WIn (fun W => SW enc k w blk off d W), Sem.run P (loadCellsFrom ⟨blk, off + m * k, none⟩ 0 k #[]) p.w = .ok (enc xm).toArray p.w := fun p => by
        rw [← HXM.out]; exact p.ok.load P HK.out m (by omega)
      have hne : Nonempty (WIn (fun W => SW enc k w blk off d W)) := ⟨⟨_, HW.out.drew⟩⟩
      have hcg := fun p : WIn (fun W => SW enc k w blk off d W) => HC.out.cls d p xm xh
      have HXH := Lib.hid hxh
      clear hxh
      by_cases hlv : cf xm xh < 0
      · have HN : Hid (One2 cf a m i h d) := Lib.hid ⟨HP.out.lo, Or.inr (by rw [HXH.out, HXM.out]; exact hlv)⟩
        go_wp2_with fail
        refine wp_region_cls (fun W => SW enc k w blk off d W) mixed (by kernel_rfl) HW.out.drew ?_
        repeat (quiet_step (first | (go_at_fn g; exact hcg _)))
        refine wpQuiet_nil ?_
        rintro _ ⟨p, rfl⟩
        go_wp2
        go_roundw
        case measure => simp [intOf]; omega
        case rel => exact ⟨i, h, rfl, rfl, by omega, by omega, by omega, HN, Lib.hid p.ok⟩
      · have hlb : (!decide (cf xm xh < 0)) = true := by simp; omega
        have HN : Hid (One2 cf a m (h + 1) j d) := Lib.hid ⟨Or.inr (by rw [Nat.add_sub_cancel, HXH.out, HXM.out]; exact hlv), HP.out.hi⟩
        go_wp2_with fail
        refine wp_region_cls (fun W => SW enc k w blk off d W) mixed (by kernel_rfl) HW.out.drew ?_
        repeat (quiet_step (first | (go_at_fn g; exact hcg _)))
        refine wpQuiet_nil ?_
        rintro _ ⟨p, rfl⟩
        go_wp2
        go_roundw
        case measure => simp [intOf]; omega
        case rel => exact ⟨h + 1, j, by go_num, rfl, by omega, by omega, hjb, HN, Lib.hid p.ok⟩
    · obtain rfl : i = j := by omega
      have HS0 : Hid (Shd enc k w blk off d a b m m d wr) := Lib.hid ⟨rfl, fun x _ => (Stb.shd_zero m _ x).symm, permIn_refl d a _, HW.out⟩
      clear HW hlt hij
      rename World => wo
      go_wp2
      go_loopw [17] (fun vq wr => ∃ (q : Nat) (dk : Array α), vq = .int .i64 q ∧ i ≤ q ∧ q ≤ m ∧ Hid (Shd enc k w blk off d a b m q dk wr)) (fun vq _ => (intOf vq).toNat - i)
      case atStart => exact ⟨m, d, rfl, by omega, Nat.le_refl _, HS0⟩
      case round =>
        obtain ⟨q, dk, rfl, hq, hqi, HS⟩ := hrel
        by_cases hlt : i < q
        · obtain ⟨p, rfl⟩ : ∃ p, q = p + 1 := ⟨q - 1, by omega⟩
          have hltz : (i : Int) < (p : Int) + 1 := by omega
          obtain ⟨x0, hx0⟩ : ∃ x, dk[p]! = x := ⟨_, rfl⟩
          obtain ⟨x1, hx1⟩ : ∃ x, dk[p + 1]! = x := ⟨_, rfl⟩
          have hsk := HS.out.size
          have hD := HS.out.sw.drew
          have l0 := hD.load P HK.out p (by omega)
          have l1 := hD.load P HK.out (p + 1) (by omega)
          have s1 := hD.store1 P HK.out H1.out (p + 1) (by omega) x0
          have s2 := hD.store2 P HK.out H1.out (p + 1) p (by omega) (by omega) x0 x1
          rw [hx0] at l0
          rw [hx1] at l1
          have hs0 : (enc x0).length = k := HK.out _
          have hs1 : (enc x1).length = k := HK.out _
          have HN : Hid (Shd enc k w blk off d a b m p (swp dk (p + 1) p) ((wr.drew.setCells blk (off + (p + 1) * k) (enc x0)).setCells blk (off + p * k) (enc x1))) := by
            have h := HS.out
            refine Lib.hid ⟨by rw [size_swp]; exact hsk, Stb.shd_step hqi (by omega) hsk h.at_, permIn_trans _ _ _ a b h.perm (swp_permIn dk a b (p + 1) p (by omega) (by omega) (by omega) (by omega) (by omega)), ?_⟩
            have := hD.swap HK.out (p + 1) p (by omega) (by omega)
            rwa [hx0, hx1] at this
          obtain ⟨ca, hca⟩ : ∃ c, c = enc x0 := ⟨_, rfl⟩
          obtain ⟨cb, hcb⟩ : ∃ c, c = enc x1 := ⟨_, rfl⟩
          rw [← hca] at l0 hs0 s1
          rw [← hcb] at l1 hs1
          rw [← hca, ← hcb] at s2 HN
          have hwp : IntKind.i64.wrap (p : Int) = (p : Int) := by rw [IntKind.wrap_i64]; omega
          have ja : (p : Int) < (d.size : Int) := by omega
          have jb : (p : Int) + 1 < (d.size : Int) := by omega
          have pb : (0 : Int) ≤ (p : Int) + 1 := by omega
          have eb : ((p : Int) + 1).toNat = p + 1 := by omega
          clear hca hcb hD hsk hx0 hx1
          go_wp2_with fail
          go_big_region_o
          all_goals go_wp2
          go_roundw
          case measure => simp [intOf]; omega
          case rel => exact ⟨p, _, by first | rfl | go_num | (congr 1; omega), by omega, by omega, HN⟩
        · obtain rfl : q = i := by omega
          have hltz : ¬ (q : Int) < (q : Int) := by omega
          go_wp2
          go_end0
          have h := HS.out
          have hM := HM.out
          have hm := HMM.out
          subst hm
          exact ⟨rfl, dk, h.perm, hM.last hO hi hjb HP.out.lo HP.out.hi h.at_, h.sw⟩
end Go.Proofs.Ytfcdajldpnomfaa

/-
  The library's sort in place at a struct: symMerge.
-/
namespace Go.Proofs.Ytfcdajldpnomfaa
set_option maxRecDepth 20000
open Go.RowKit Go.Shelf Go.Sort Go.Lib
set_option linter.unusedVariables false
set_option linter.unusedSimpArgs false
set_option linter.unusedSectionVars false
variable {P : Program} {α : Type} [Inhabited α]

/-- The search for the middle so far. -/
structure Mids (cf : α → α → Int) (n s0 r0 s r : Nat) (d : Array α) : Prop where
  lo : s = s0 ∨ ¬ cf d[n - s]! d[s - 1]! < 0
  hi : r = r0 ∨ cf d[n - r - 1]! d[r]! < 0
def MidsAt (a m b mid s0 r0 : Nat) : Prop := (mid < m ∧ s0 = mid + m - b ∧ r0 = mid) ∨ (m ≤ mid ∧ s0 = a ∧ r0 = m)
/-- What the turn leaves. -/
structure Trn (enc : α → List Value) (k : Nat) (w : World) (blk off : Nat) (d : Array α) (a b m s e : Nat) (d' : Array α) (W : World) : Prop where
  size : d'.size = d.size
  at_ : ∀ x, x < d.size → d'[x]! = Stb.rot s m e (fun i => d[i]!) x
  perm : PermIn a b d d'
  sw : SW enc k w blk off d' W

theorem mrg_congr {cf : α → α → Int} {tg : α → Nat} {a m b : Nat} {d d' : Array α} (h : Stb.Mrg cf tg a m b d) (hs : d'.size = d.size) (he : ∀ x, a ≤ x → x < b → d'[x]! = d[x]!) : Stb.Mrg cf tg a m b d' := by
  have am := h.am; have mb := h.mb; have bs := h.bs
  refine ⟨am, mb, by omega, h.l.congr fun x h1 h2 => he x h1 (by omega), h.r.congr fun x h1 h2 => he x (by omega) h2, fun i j h1 h2 h3 h4 => ?_⟩
  rw [he i h1 (by omega), he j (by omega) h4]
  exact h.x i j h1 h2 h3 h4
structure Hlf (enc : α → List Value) (k : Nat) (cf : α → α → Int) (tg : α → Nat) (w : World) (blk off : Nat) (a mid : Nat) (d d' : Array α) (W : World) : Prop where
  perm : PermIn a mid d d'
  rise : Stb.Rise cf tg a mid d'
  sw : SW enc k w blk off d' W
structure Trd (cf : α → α → Int) (tg : α → Nat) (a s mid e b : Nat) (d : Array α) : Prop where
  h1 : a < s → s < mid → Stb.Mrg cf tg a s mid d
  h2 : ¬ (a < s ∧ s < mid) → Stb.Rise cf tg a mid d
  h3 : mid < e → e < b → Stb.Mrg cf tg mid e b d
  h4 : ¬ (mid < e ∧ e < b) → Stb.Rise cf tg mid b d
  h5 : ∀ i j, a ≤ i → i < mid → mid ≤ j → j < b → Stb.Lx cf tg d[i]! d[j]!

/-- Where the region n stands first. -/
def leftAt : Code → Option Nat
  | .region id _ _ => some id
  | .seq a _ => leftAt a
  | _ => none
def tailAt (n : Nat) : Code → Option Code
  | .seq a b => if leftAt a = some n then some (.seq a b) else (tailAt n a).or (tailAt n b)
  | .scope c => tailAt n c
  | .block _ c => tailAt n c
  | _ => none
noncomputable def symTail : Code := (Try.f91.body.bind (tailAt 41)).getD .skip

set_option maxHeartbeats 16000000 in
set_option maxRecDepth 1000000 in
theorem sort_sym_tail {k : Nat} (L : SLay P k)
    (em : ∀ args w, (callFunc 91 args).run P w = .ok (.enter 91 args) w)
    (enc : α → List Value) (cf : α → α → Int) (tg : α → Nat) (g : Nat) (cb : Array Value)
    (blk off cap a m b mid s e : Nat) (d d1 : Array α) (w w1 : World) (k1 : a < mid) (k2 : mid < b) (hb : b ≤ d.size) (hsz : d.size < 4611686018427387904) (hem : e < 4611686018427387904) (hsm : s < 4611686018427387904)
    (HT : Hid (Trn enc k w blk off d a b m s e d1 w1)) (HTD : Hid (Trd cf tg a s mid e b d1))
    (IH : Hid (∀ (a' m' b' : Nat) (d' : Array α) (W : World), b' - a' < b - a → d'.size = d.size → SW enc k w blk off d' W → Stb.Mrg cf tg a' m' b' d' → Calls P 91 #[.slice (some ⟨blk, off, none⟩) d.size cap, .int .i64 a', .int .i64 m', .int .i64 b', .func (.func g) #[] cb] W (SymPost enc k cf tg W blk off d' a' b')))
    (u5 u6 u7 u8 u9 u10 u11 u12 u13 u14 u15 u16 u17 u19 u21 u22 u23 u25 u26 u27 u28 u29 u30 u31 u32 u33 u34 u35 u36 u37 u38 u39 u40 u41 u42 u43 u44 u45 u46 u47 u48 u49 u50 u51 u52 u53 u54 u55 u56 u57 u58 u59 u60 u61 u62 u63 u64 u65 u66 u67 u68 u69 u70 u71 u72 u73 u74 u75 u76 u77 u78 u79 u80 u81 u82 u83 u84 u85 u86 u87 u88 u89 u90 u91 u92 u93 u94 u95 u96 u97 u98 u99 u100 u101 u102 u103 u104 u105 u106 u107 u108 u109 u110 u111 u112 u113 u114 u115 u116 u117 u118 u119 u120 u121 u122 u123 u124 u125 u126 u127 u128 u129 u130 u131 u132 u133 u134 u135 u136 u137 u138 u139 u140 u141 u142 u143 u144 u145 u146 u147 u148 u149 u150 u151 u152 u153 u154 u155 u156 u157 u158 u159 u160 u161 u162 u163 u164 u165 u166 u167 u168 u169 u170 u171 u172 u173 u174 u175 u176 u177 u178 u179 u180 u181 u182 u183 u184 u185 u186 u187 u188 u189 u190 u191 u192 u193 u194 u195 u196 u197 u198 u199 u200 u201 u202 u203 u204 u205 u206 u207 u208 u209 u210 u211 u212 u213 u214 u215 u216 u217 u218 u219 : Value) :
    Code.wp P symTail (bodyPost P Try.f91 (SymPost enc k cf tg w blk off d a b)) ⟨#[.slice (some ⟨blk, off, none⟩) d.size cap, .int .i64 a, .int .i64 m, .int .i64 b, .func (.func g) #[] cb, u5, u6, u7, u8, u9, u10, u11, u12, u13, u14, u15, u16, u17, .int .i64 mid, u19, .int .i64 s, u21, u22, u23, .int .i64 e, u25, u26, u27, u28, u29, u30, u31, u32, u33, u34, u35, u36, u37, u38, u39, u40, u41, u42, u43, u44, u45, u46, u47, u48, u49, u50, u51, u52, u53, u54, u55, u56, u57, u58, u59, u60, u61, u62, u63, u64, u65, u66, u67, u68, u69, u70, u71, u72, u73, u74, u75, u76, u77, u78, u79, u80, u81, u82, u83, u84, u85, u86, u87, u88, u89, u90, u91, u92, u93, u94, u95, u96, u97, u98, u99, u100, u101, u102, u103, u104, u105, u106, u107, u108, u109, u110, u111, u112, u113, u114, u115, u116, u117, u118, u119, u120, u121, u122, u123, u124, u125, u126, u127, u128, u129, u130, u131, u132, u133, u134, u135, u136, u137, u138, u139, u140, u141, u142, u143, u144, u145, u146, u147, u148, u149, u150, u151, u152, u153, u154, u155, u156, u157, u158, u159, u160, u161, u162, u163, u164, u165, u166, u167, u168, u169, u170, u171, u172, u173, u174, u175, u176, u177, u178, u179, u180, u181, u182, u183, u184, u185, u186, u187, u188, u189, u190, u191, u192, u193, u194, u195, u196, u197, u198, u199, u200, u201, u202, u203, u204, u205, u206, u207, u208, u209, u210, u211, u212, u213, u214, u215, u216, u217, u218, u219], []⟩ w1 := by
  have mixed := L.mixed; have t0 := L.t0; have a0 := L.a0; have z0 := L.z0; have v0 := L.v0; have t3 := L.t3; have a3 := L.a3; have z3 := L.z3; have v3 := L.v3; have t4 := L.t4; have a4 := L.a4; have z4 := L.z4; have v4 := L.v4; have t85 := L.t85; have a85 := L.a85; have z85 := L.z85; have v85 := L.v85; have t43 := L.t43; have a43 := L.a43; have z43 := L.z43; have v43 := L.v43; have t69 := L.t69; have a69 := L.a69; have z69 := L.z69; have v69 := L.v69; have aE := L.aE; have zE := L.zE
  have u43 := run_underlying L.t43
  conv => arg 2; whnf
  conv => arg 4; zeta
  go_upto_region 41 with (fail)
  go_cut [199] (fun vc wx => (∃ c : Bool, vc = .bool c ∧ Hid (c = decide (a < s ∧ s < mid))) ∧ w1 = wx)
  case first =>
    by_cases q1 : a < s
    · have q1z : (a : Int) < (s : Int) := by omega
      by_cases q2 : s < mid
      · have q2z : (s : Int) < (mid : Int) := by omega
        go_wp2_with fail
        go_meet
        exact ⟨⟨true, rfl, Lib.hid (decide_eq_true (show a < s ∧ s < mid from ⟨q1, q2⟩)).symm⟩, rfl⟩
      · have q2z : ¬ (s : Int) < (mid : Int) := by omega
        go_wp2_with fail
        go_meet
        exact ⟨⟨false, rfl, Lib.hid (decide_eq_false (show ¬ (a < s ∧ s < mid) from fun h => q2 h.2)).symm⟩, rfl⟩
    · have q1z : ¬ (a : Int) < (s : Int) := by omega
      go_wp2_with fail
      go_meet
      exact ⟨⟨false, rfl, Lib.hid (decide_eq_false (show ¬ (a < s ∧ s < mid) from fun h => q1 h.1)).symm⟩, rfl⟩
  case rest =>
  obtain ⟨⟨cc2, rfl, HCCcc2⟩, rfl⟩ := hcut
  go_upto_if 199 with (fail)
  go_cut [] (fun wx => ∃ d2 : Array α, Hid (Hlf enc k cf tg w blk off a mid d1 d2 wx))
  case first =>
    cases cc2
    · have q : ¬ (a < s ∧ s < mid) := of_decide_eq_false HCCcc2.out.symm
      have HX' : Hid (Hlf enc k cf tg w blk off a mid d1 d1 w1) := Lib.hid ⟨permIn_refl d1 a mid, HTD.out.h2 q, HT.out.sw⟩
      clear q
      go_wp2_with fail
      go_meet
      exact ⟨d1, HX'⟩
    · have q : a < s ∧ s < mid := of_decide_eq_true HCCcc2.out.symm
      have hr := IH.out a s mid d1 _ (by omega) HT.out.size HT.out.sw (HTD.out.h1 q.1 q.2)
      clear q
      go_wp2_with fail
      go_at_fn 91
      refine hr.mono ?_
      rintro e' w' ⟨rfl, d2, g1, g2, g3⟩
      go_wp2_with fail
      go_meet
      exact ⟨d2, Lib.hid ⟨g1, g2, HT.out.sw.trans g3⟩⟩
  case rest =>
  obtain ⟨d2, HD2⟩ := hcut
  rename World => w2
  go_upto_region 43 with (fail)
  go_cut [213] (fun vc wx => (∃ c : Bool, vc = .bool c ∧ Hid (c = decide (mid < e ∧ e < b))) ∧ w2 = wx)
  case first =>
    by_cases q1 : mid < e
    · have q1z : (mid : Int) < (e : Int) := by omega
      by_cases q2 : e < b
      · have q2z : (e : Int) < (b : Int) := by omega
        go_wp2_with fail
        go_meet
        exact ⟨⟨true, rfl, Lib.hid (decide_eq_true (show mid < e ∧ e < b from ⟨q1, q2⟩)).symm⟩, rfl⟩
      · have q2z : ¬ (e : Int) < (b : Int) := by omega
        go_wp2_with fail
        go_meet
        exact ⟨⟨false, rfl, Lib.hid (decide_eq_false (show ¬ (mid < e ∧ e < b) from fun h => q2 h.2)).symm⟩, rfl⟩
    · have q1z : ¬ (mid : Int) < (e : Int) := by omega
      go_wp2_with fail
      go_meet
      exact ⟨⟨false, rfl, Lib.hid (decide_eq_false (show ¬ (mid < e ∧ e < b) from fun h => q1 h.1)).symm⟩, rfl⟩
  case rest =>
  obtain ⟨⟨cc3, rfl, HCCcc3⟩, rfl⟩ := hcut
  have hsz2 : d2.size = d.size := HD2.out.perm.1.trans HT.out.size
  have HSZ2 := Lib.hid hsz2
  clear hsz2
  cases cc3
  · have q : ¬ (mid < e ∧ e < b) := of_decide_eq_false HCCcc3.out.symm
    have hr2 : Stb.Rise cf tg mid b d2 := (HTD.out.h4 q).congr fun x g1 _ => HD2.out.perm.2.1 x (Or.inr g1)
    have HR2 := Lib.hid hr2
    clear q hr2
    go_wp2_with fail
    go_end0
    have ht := HT.out
    have hd := HD2.out
    have hts := ht.size
    refine ⟨rfl, d2, permIn_trans _ _ _ a b ht.perm (permIn_mono _ _ a mid a b (Nat.le_refl _) (by omega) (by omega) hd.perm), ?_, hd.sw⟩
    exact Stb.rise_both a mid b (by omega) (by omega) HTD.out.h5 hd.perm hd.rise (permIn_refl d2 mid b) HR2.out
  · have q : mid < e ∧ e < b := of_decide_eq_true HCCcc3.out.symm
    have hr := IH.out mid e b d2 _ (by omega) HSZ2.out HD2.out.sw (mrg_congr (HTD.out.h3 q.1 q.2) HD2.out.perm.1 (fun x g1 _ => HD2.out.perm.2.1 x (Or.inr g1)))
    clear q
    go_wp2_with fail
    go_at_fn 91
    refine hr.mono ?_
    rintro e' w' ⟨rfl, d3, g1, g2, g3⟩
    go_wp2_with fail
    go_end0
    have ht := HT.out
    have hd := HD2.out
    have hts := ht.size
    refine ⟨rfl, d3, permIn_trans _ _ _ a b ht.perm (permIn_trans _ _ _ a b (permIn_mono _ _ a mid a b (Nat.le_refl _) (by omega) (by omega) hd.perm) (permIn_mono _ _ mid b a b (by omega) (Nat.le_refl _) (by have := HSZ2.out; omega) g1)), ?_, hd.sw.trans g3⟩
    exact Stb.rise_both a mid b (by omega) (by omega) HTD.out.h5 hd.perm hd.rise g1 g2
end Go.Proofs.Ytfcdajldpnomfaa

/-
  The document's names (package toponymref6): Swap.
-/
namespace Go.Proofs.Ytfcdajldpnomfaa
set_option maxRecDepth 20000
open Go.RowKit Go.Shelf

theorem elemS : ElemT 9 28 16 := ⟨Try.underlying28, _, _, rfl, rfl, rfl, rfl, rfl⟩

end Go.Proofs.Ytfcdajldpnomfaa

/-
  The document's names (package toponymref6): ParseName.
-/
namespace Go.Proofs.Ytfcdajldpnomfaa
set_option maxRecDepth 20000
open Go.RowKit Go.Shelf

def partsK (ps : Nm) (k : Nat) : Nm := if k = ps.length then partsN ps else ps.take k
def wholeK (ps : Nm) (k : Nat) : Bool := decide (k = ps.length) && wholeN ps
theorem partsK_lt {ps : Nm} {k : Nat} (h : k < ps.length) : partsK ps k = ps.take k := by unfold partsK; rw [if_neg (by omega)]
theorem partsK_end (ps : Nm) : partsK ps ps.length = partsN ps := by unfold partsK; rw [if_pos rfl]
/-- The last piece, empty. -/
theorem partsK_dot {ps : Nm} {k : Nat} (h : ps.length = k + 1) (h2 : ps[k]'(by omega) = []) : partsK ps (k + 1) = ps.take k ∧ wholeK ps (k + 1) = true := by
  have hw : wholeN ps = true := by rw [wholeN_eq h]; exact decide_eq_true h2
  unfold partsK wholeK partsN
  rw [if_pos h.symm, hw, if_pos rfl, List.dropLast_eq_take, h]
  simp
/-- A piece that is not the last one, or not empty. -/
theorem partsK_next {ps : Nm} {k : Nat} (h : k < ps.length) (h2 : ¬ (ps.length = k + 1 ∧ ps[k] = [])) : partsK ps (k + 1) = ps.take k ++ [ps[k]] ∧ wholeK ps (k + 1) = false ∧ ps.take k ++ [ps[k]] <+: partsN ps := by
  have ht : ps.take k ++ [ps[k]] = ps.take (k + 1) := (List.take_succ_eq_append_getElem h).symm
  rw [ht]
  by_cases e : ps.length = k + 1
  · have hw : wholeN ps = false := by rw [wholeN_eq e]; exact decide_eq_false (fun q => h2 ⟨e, q⟩)
    have hp : partsN ps = ps := by unfold partsN; rw [hw]; rfl
    have hk : ps.take (k + 1) = ps := List.take_of_length_le (by omega)
    unfold partsK wholeK
    rw [if_pos e.symm, hw, hp, hk, Bool.and_false]
    exact ⟨rfl, rfl, List.prefix_rfl⟩
  · refine ⟨partsK_lt (by omega), by unfold wholeK; rw [decide_eq_false (by omega)]; rfl, ?_⟩
    unfold partsN
    split
    · rw [List.dropLast_eq_take]
      exact List.take_prefix_take_left (by omega)
    · exact List.take_prefix _ _

end Go.Proofs.Ytfcdajldpnomfaa

/-
  The document's names in the same spelling as package name's (XNamX); the statements' helpers.
-/
namespace Go.Proofs.Ytfcdajldpnomfaa
set_option maxRecDepth 20000
open Go.RowKit Go.Shelf

theorem kn_RCompare (v u : Value) (n z : Nm) (r : Int) (h : compareN n z = r) (w : World) (hA : NmAt w v n) (hU : NmAt w u z) (h1 : NmOK n) (h2 : NmOK z) :
    Calls Try.prog 59 #[v, u] w fun e w' => e = .returned (.int .i64 r) ∧ Below w.heap.size w w' := by
  subst h; exact ref_Compare v u n z w hA.1 hU.1 h1 h2
/-- An argument of a law, a name or labels. -/
def NmArg (W : World) (v : Value) (xs : Nm) : Prop := NmAt W v xs ∧ xs.length ≤ maxLen ∧ ∀ x ∈ xs, x.length ≤ maxLen
theorem nmArg_nil (W : World) : NmArg W (.slice none 0 0) [] := ⟨nm_nil W, Nat.zero_le _, by simp⟩
theorem nmArg_row {W : World} {x : Addr} {l c : Nat} {zs : List ByteArray} (hl : l ≤ c) (hm : c ≤ maxLen) (hz : zs.length = c)
    (hcell : ∀ i, i < zs.length → W.cell? (x.add i) = some (.string (zs.getD i ByteArray.empty))) (hws : ∀ s ∈ zs, s.size ≤ maxLen) :
    NmArg W (.slice (some x) l c) ((zs.take l).map (·.data.toList)) := by
  have h := strsArg_row hl hm hz hcell hws
  exact ⟨⟨h.1, _, _, _, rfl, hl, fun e => by cases e⟩, h.2⟩
theorem kn_Few (v : Value) (n : Nm) (r : Bool) (h : fewN n = r) (w0 w : World) (hA : NmArg w0 v n) (hA2 : NmAt w v n) :
    Calls Try.prog 17 #[v] w fun e w' => e = .returned (.bool r) ∧ Below w.heap.size w w' := by
  subst h; refine (law2_Few v n w hA2.1 hA.2.1 hA.2.2).mono ?_
  rintro e w' ⟨rfl, rfl⟩; exact ⟨rfl, Below.refl _ _⟩
end Go.Proofs.Ytfcdajldpnomfaa

/-
  The law's Few for data.
-/
namespace Go.Proofs.Ytfcdajldpnomfaa
set_option maxRecDepth 20000
open Go.RowKit Go.Shelf

def fewD (d : Dat) : Bool := decide (d.names.length ≤ 8 ∧ d.nums.length ≤ 12 ∧ d.texts.length ≤ 40 ∧ d.raw.length ≤ 1100) && (decide (∀ n ∈ d.names, fewN n = true) && decide (∀ x ∈ d.texts, x.length ≤ 300))
/-- An argument of a law. -/
def DatArg (W : World) (v : Value) (d : Dat) : Prop := DatAt W v d ∧ (-(2 ^ 63) ≤ d.ty ∧ d.ty < 2 ^ 63) ∧ (∀ n ∈ d.names, n.length ≤ maxLen ∧ ∀ x ∈ n, x.length ≤ maxLen) ∧ (∀ n ∈ d.nums, n < 2 ^ 32) ∧ (∀ x ∈ d.texts, x.length ≤ maxLen)

theorem fewD_ok {W : World} {v : Value} {d : Dat} (h : DatArg W v d) (hf : fewD d = true) : DatOK d := by
  simp only [fewD, Bool.and_eq_true, decide_eq_true_eq] at hf
  obtain ⟨⟨f1, f2, f3, f4⟩, f5, f6⟩ := hf
  exact ⟨h.2.1, by omega, fun n hn => fewN_ok (f5 n hn), by omega, h.2.2.2.1, ⟨by omega, fun x hx => by have := f6 x hx; omega⟩, by omega⟩
end Go.Proofs.Ytfcdajldpnomfaa

