/-
  The library's sort in place at a struct: symMerge where the other side has one element.
-/
import Derived.Test.YteppgeiejknhoaaMQ33
import Derived.Deep.CutBlock
import Derived.Deep.DeepCutAuto
import Derived.Test.YteppgeiejknhoaaMQ11
import Derived.Test.YteppgeiejknhoaaMQ17
import Derived.Test.YteppgeiejknhoaaMQ10
namespace Go.Proofs.Yteppgeiejknhoaa
set_option maxRecDepth 20000
open Go.RowKit Go.Shelf Go.Sort Go.Lib
set_option linter.unusedVariables false
set_option linter.unusedSimpArgs false
set_option linter.unusedSectionVars false
variable {P : Program} {α : Type} [Inhabited α]

/-- One behind: the search so far. -/
structure One2 (cf : α → α → Int) (a m i j : Nat) (d : Array α) : Prop where
  lo : i = a ∨ ¬ cf d[m]! d[i - 1]! < 0
  hi : j = m ∨ cf d[m]! d[j]! < 0
structure Shd (enc : α → List Value) (k : Nat) (w : World) (blk off : Nat) (d : Array α) (a b m q : Nat) (dk : Array α) (W : World) : Prop where
  size : dk.size = d.size
  at_ : ∀ x, x < d.size → dk[x]! = Stb.shd q m (fun i => d[i]!) x
  perm : PermIn a b d dk
  sw : SW enc k w blk off dk W

set_option maxHeartbeats 8000000 in
set_option maxRecDepth 1000000 in
theorem sort_sym_last {k : Nat} (L : SLay P k) (hF : P.funcs[104]? = some Try.f104) (enc : α → List Value) (hk : ∀ x, (enc x).length = k) (h1 : ∀ x, ∀ v ∈ enc x, v.oneCell' = true) (cf : α → α → Int) (tg : α → Nat) (hO : Stb.COrd cf) (g : Nat) (cb : Array Value)
    (blk off cap a m b : Nat) (hma : m ≠ a + 1) (hbm : b = m + 1) (d : Array α) (w : World) (hcmp : CmpB P g cb enc cf w blk) (hH : HoldsK enc k w blk off d) (hblk : blk < w.heap.size) (hM : Stb.Mrg cf tg a m b d) (hsz : d.size < 4611686018427387904) :
    Calls P 104 #[.slice (some ⟨blk, off, none⟩) d.size cap, .int .i64 a, .int .i64 m, .int .i64 b, .func (.func g) #[] cb] w (SymPost enc k cf tg w blk off d a b) := by
  have mixed := L.mixed; have t0 := L.t0; have a0 := L.a0; have z0 := L.z0; have v0 := L.v0; have t3 := L.t3; have a3 := L.a3; have z3 := L.z3; have v3 := L.v3; have t4 := L.t4; have a4 := L.a4; have z4 := L.z4; have v4 := L.v4; have t85 := L.t85; have a85 := L.a85; have z85 := L.z85; have v85 := L.v85; have t43 := L.t43; have a43 := L.a43; have z43 := L.z43; have v43 := L.v43; have t69 := L.t69; have a69 := L.a69; have z69 := L.z69; have v69 := L.v69; have aE := L.aE; have zE := L.zE
  have u43 := run_underlying L.t43
  have ham : a < m := hM.am
  have hb : b ≤ d.size := hM.bs
  have hm1 : b ≤ m + 1 := by omega
  have hm2 : m + 1 ≤ b := by omega
  have HMM := Lib.hid hbm
  have HM := Lib.hid hM
  have HC := Lib.hid hcmp
  have eg := hcmp.eg
  have HK := Lib.hid hk; have H1 := Lib.hid h1
  have HST : Hid (SW enc k w blk off d w) := Lib.hid (SW.refl hH hblk)
  have c1 : ((m : Int) - (a : Int) == 1) = false := by simp; omega
  have c2 : ((b : Int) - (m : Int)) = 1 := by omega
  have ham2 : a + 2 ≤ m := by omega
  clear hcmp hH hk h1 hblk hM hma hbm
  obtain ⟨xm, hxm⟩ : ∃ x, d[m]! = x := ⟨_, rfl⟩
  have HXM := Lib.hid hxm
  clear hxm
  go_enter hF, Try.ntmps104
  go_wp2
  go_loopw [14, 15] (fun vi vj wr => ∃ (i j : Nat), vi = .int .i64 i ∧ vj = .int .i64 j ∧ a ≤ i ∧ i ≤ j ∧ j ≤ m ∧ Hid (One2 cf a m i j d) ∧ Hid (SW enc k w blk off d wr)) (fun vi vj _ => (intOf vj).toNat - (intOf vi).toNat)
  case atStart => exact ⟨a, m, rfl, rfl, Nat.le_refl _, by omega, Nat.le_refl _, Lib.hid ⟨Or.inl rfl, Or.inl rfl⟩, HST⟩
  case round =>
    obtain ⟨i, j, rfl, rfl, hi, hij, hjb, HP, HW⟩ := hrel
    by_cases hlt : i < j
    · have hltz : (i : Int) < (j : Int) := by omega
      obtain ⟨h, hh⟩ : ∃ h : Nat, (i + j) / 2 = h := ⟨_, rfl⟩
      have hhz : ((i : Int) + (j : Int)) / 2 = (h : Int) := by omega
      have h1 : i ≤ h := by omega
      have h2 : h < j := by omega
      have h3 : (h : Int) < (d.size : Int) := by omega
      have h4 : (m : Int) < (d.size : Int) := by omega
      clear hh
      obtain ⟨xh, hxh⟩ : ∃ x, d[h]! = x := ⟨_, rfl⟩
      have lh : ∀ p : WIn (fun W => SW enc k w blk off d W), Sem.run P (loadCellsFrom ⟨blk, off + h * k, none⟩ 0 k #[]) p.w = .ok (enc xh).toArray p.w := fun p => by
        rw [← hxh]; exact p.ok.load P HK.out h (by omega)
      have la : ∀ p : WIn (fun W => SW enc k w blk off d W), Sem.run P (loadCellsFrom ⟨blk, off + m * k, none⟩ 0 k #[]) p.w = .ok (enc xm).toArray p.w := fun p => by
        rw [← HXM.out]; exact p.ok.load P HK.out m (by omega)
      have hne : Nonempty (WIn (fun W => SW enc k w blk off d W)) := ⟨⟨_, HW.out.drew⟩⟩
      have hcg := fun p : WIn (fun W => SW enc k w blk off d W) => HC.out.cls d p xm xh
      have HXH := Lib.hid hxh
      clear hxh
      by_cases hlv : cf xm xh < 0
      · have HN : Hid (One2 cf a m i h d) := Lib.hid ⟨HP.out.lo, Or.inr (by rw [HXH.out, HXM.out]; exact hlv)⟩
        go_wp2_with fail
        refine wp_region_cls (fun W => SW enc k w blk off d W) mixed (by kernel_rfl) HW.out.drew ?_
        repeat (quiet_step (first | (go_at_fn g; exact hcg _)))
        refine wpQuiet_nil ?_
        rintro _ ⟨p, rfl⟩
        go_wp2
        go_roundw
        case measure => simp [intOf]; omega
        case rel => exact ⟨i, h, rfl, rfl, by omega, by omega, by omega, HN, Lib.hid p.ok⟩
      · have hlb : (!decide (cf xm xh < 0)) = true := by simp; omega
        have HN : Hid (One2 cf a m (h + 1) j d) := Lib.hid ⟨Or.inr (by rw [Nat.add_sub_cancel, HXH.out, HXM.out]; exact hlv), HP.out.hi⟩
        go_wp2_with fail
        refine wp_region_cls (fun W => SW enc k w blk off d W) mixed (by kernel_rfl) HW.out.drew ?_
        repeat (quiet_step (first | (go_at_fn g; exact hcg _)))
        refine wpQuiet_nil ?_
        rintro _ ⟨p, rfl⟩
        go_wp2
        go_roundw
        case measure => simp [intOf]; omega
        case rel => exact ⟨h + 1, j, by go_num, rfl, by omega, by omega, hjb, HN, Lib.hid p.ok⟩
    · obtain rfl : i = j := by omega
      have HS0 : Hid (Shd enc k w blk off d a b m m d wr) := Lib.hid ⟨rfl, fun x _ => (Stb.shd_zero m _ x).symm, permIn_refl d a _, HW.out⟩
      clear HW hlt hij
      rename World => wo
      go_wp2
      go_loopw [17] (fun vq wr => ∃ (q : Nat) (dk : Array α), vq = .int .i64 q ∧ i ≤ q ∧ q ≤ m ∧ Hid (Shd enc k w blk off d a b m q dk wr)) (fun vq _ => (intOf vq).toNat - i)
      case atStart => exact ⟨m, d, rfl, by omega, Nat.le_refl _, HS0⟩
      case round =>
        obtain ⟨q, dk, rfl, hq, hqi, HS⟩ := hrel
        by_cases hlt : i < q
        · obtain ⟨p, rfl⟩ : ∃ p, q = p + 1 := ⟨q - 1, by omega⟩
          have hltz : (i : Int) < (p : Int) + 1 := by omega
          obtain ⟨x0, hx0⟩ : ∃ x, dk[p]! = x := ⟨_, rfl⟩
          obtain ⟨x1, hx1⟩ : ∃ x, dk[p + 1]! = x := ⟨_, rfl⟩
          have hsk := HS.out.size
          have hD := HS.out.sw.drew
          have l0 := hD.load P HK.out p (by omega)
          have l1 := hD.load P HK.out (p + 1) (by omega)
          have s1 := hD.store1 P HK.out H1.out (p + 1) (by omega) x0
          have s2 := hD.store2 P HK.out H1.out (p + 1) p (by omega) (by omega) x0 x1
          rw [hx0] at l0
          rw [hx1] at l1
          have hs0 : (enc x0).length = k := HK.out _
          have hs1 : (enc x1).length = k := HK.out _
          have HN : Hid (Shd enc k w blk off d a b m p (swp dk (p + 1) p) ((wr.drew.setCells blk (off + (p + 1) * k) (enc x0)).setCells blk (off + p * k) (enc x1))) := by
            have h := HS.out
            refine Lib.hid ⟨by rw [size_swp]; exact hsk, Stb.shd_step hqi (by omega) hsk h.at_, permIn_trans _ _ _ a b h.perm (swp_permIn dk a b (p + 1) p (by omega) (by omega) (by omega) (by omega) (by omega)), ?_⟩
            have := hD.swap HK.out (p + 1) p (by omega) (by omega)
            rwa [hx0, hx1] at this
          obtain ⟨ca, hca⟩ : ∃ c, c = enc x0 := ⟨_, rfl⟩
          obtain ⟨cb, hcb⟩ : ∃ c, c = enc x1 := ⟨_, rfl⟩
          rw [← hca] at l0 hs0 s1
          rw [← hcb] at l1 hs1
          rw [← hca, ← hcb] at s2 HN
          have hwp : IntKind.i64.wrap (p : Int) = (p : Int) := by rw [IntKind.wrap_i64]; omega
          have ja : (p : Int) < (d.size : Int) := by omega
          have jb : (p : Int) + 1 < (d.size : Int) := by omega
          have pb : (0 : Int) ≤ (p : Int) + 1 := by omega
          have eb : ((p : Int) + 1).toNat = p + 1 := by omega
          clear hca hcb hD hsk hx0 hx1
          go_wp2_with fail
          go_big_region_o
          all_goals go_wp2
          go_roundw
          case measure => simp [intOf]; omega
          case rel => exact ⟨p, _, by first | rfl | go_num | (congr 1; omega), by omega, by omega, HN⟩
        · obtain rfl : q = i := by omega
          have hltz : ¬ (q : Int) < (q : Int) := by omega
          go_wp2
          go_end0
          have h := HS.out
          have hM := HM.out
          have hm := HMM.out
          subst hm
          exact ⟨rfl, dk, h.perm, hM.last hO hi hjb HP.out.lo HP.out.hi h.at_, h.sw⟩
end Go.Proofs.Yteppgeiejknhoaa

/-
  The library's sort in place at a struct: symMerge.
-/
namespace Go.Proofs.Yteppgeiejknhoaa
set_option maxRecDepth 20000
open Go.RowKit Go.Shelf Go.Sort Go.Lib
set_option linter.unusedVariables false
set_option linter.unusedSimpArgs false
set_option linter.unusedSectionVars false
variable {P : Program} {α : Type} [Inhabited α]

/-- The search for the middle so far. -/
structure Mids (cf : α → α → Int) (n s0 r0 s r : Nat) (d : Array α) : Prop where
  lo : s = s0 ∨ ¬ cf d[n - s]! d[s - 1]! < 0
  hi : r = r0 ∨ cf d[n - r - 1]! d[r]! < 0
def MidsAt (a m b mid s0 r0 : Nat) : Prop := (mid < m ∧ s0 = mid + m - b ∧ r0 = mid) ∨ (m ≤ mid ∧ s0 = a ∧ r0 = m)
/-- What the turn leaves. -/
structure Trn (enc : α → List Value) (k : Nat) (w : World) (blk off : Nat) (d : Array α) (a b m s e : Nat) (d' : Array α) (W : World) : Prop where
  size : d'.size = d.size
  at_ : ∀ x, x < d.size → d'[x]! = Stb.rot s m e (fun i => d[i]!) x
  perm : PermIn a b d d'
  sw : SW enc k w blk off d' W

theorem mrg_congr {cf : α → α → Int} {tg : α → Nat} {a m b : Nat} {d d' : Array α} (h : Stb.Mrg cf tg a m b d) (hs : d'.size = d.size) (he : ∀ x, a ≤ x → x < b → d'[x]! = d[x]!) : Stb.Mrg cf tg a m b d' := by
  have am := h.am; have mb := h.mb; have bs := h.bs
  refine ⟨am, mb, by omega, h.l.congr fun x h1 h2 => he x h1 (by omega), h.r.congr fun x h1 h2 => he x (by omega) h2, fun i j h1 h2 h3 h4 => ?_⟩
  rw [he i h1 (by omega), he j (by omega) h4]
  exact h.x i j h1 h2 h3 h4
structure Hlf (enc : α → List Value) (k : Nat) (cf : α → α → Int) (tg : α → Nat) (w : World) (blk off : Nat) (a mid : Nat) (d d' : Array α) (W : World) : Prop where
  perm : PermIn a mid d d'
  rise : Stb.Rise cf tg a mid d'
  sw : SW enc k w blk off d' W
structure Trd (cf : α → α → Int) (tg : α → Nat) (a s mid e b : Nat) (d : Array α) : Prop where
  h1 : a < s → s < mid → Stb.Mrg cf tg a s mid d
  h2 : ¬ (a < s ∧ s < mid) → Stb.Rise cf tg a mid d
  h3 : mid < e → e < b → Stb.Mrg cf tg mid e b d
  h4 : ¬ (mid < e ∧ e < b) → Stb.Rise cf tg mid b d
  h5 : ∀ i j, a ≤ i → i < mid → mid ≤ j → j < b → Stb.Lx cf tg d[i]! d[j]!

/-- Where the region n stands first. -/
def leftAt : Code → Option Nat
  | .region id _ _ => some id
  | .seq a _ => leftAt a
  | _ => none
def tailAt (n : Nat) : Code → Option Code
  | .seq a b => if leftAt a = some n then some (.seq a b) else (tailAt n a).or (tailAt n b)
  | .scope c => tailAt n c
  | .block _ c => tailAt n c
  | _ => none
noncomputable def symTail : Code := (Try.f104.body.bind (tailAt 41)).getD .skip

set_option maxHeartbeats 16000000 in
set_option maxRecDepth 1000000 in
theorem sort_sym_tail {k : Nat} (L : SLay P k)
    (em : ∀ args w, (callFunc 104 args).run P w = .ok (.enter 104 args) w)
    (enc : α → List Value) (cf : α → α → Int) (tg : α → Nat) (g : Nat) (cb : Array Value)
    (blk off cap a m b mid s e : Nat) (d d1 : Array α) (w w1 : World) (k1 : a < mid) (k2 : mid < b) (hb : b ≤ d.size) (hsz : d.size < 4611686018427387904) (hem : e < 4611686018427387904) (hsm : s < 4611686018427387904)
    (HT : Hid (Trn enc k w blk off d a b m s e d1 w1)) (HTD : Hid (Trd cf tg a s mid e b d1))
    (IH : Hid (∀ (a' m' b' : Nat) (d' : Array α) (W : World), b' - a' < b - a → d'.size = d.size → SW enc k w blk off d' W → Stb.Mrg cf tg a' m' b' d' → Calls P 104 #[.slice (some ⟨blk, off, none⟩) d.size cap, .int .i64 a', .int .i64 m', .int .i64 b', .func (.func g) #[] cb] W (SymPost enc k cf tg W blk off d' a' b')))
    (u5 u6 u7 u8 u9 u10 u11 u12 u13 u14 u15 u16 u17 u19 u21 u22 u23 u25 u26 u27 u28 u29 u30 u31 u32 u33 u34 u35 u36 u37 u38 u39 u40 u41 u42 u43 u44 u45 u46 u47 u48 u49 u50 u51 u52 u53 u54 u55 u56 u57 u58 u59 u60 u61 u62 u63 u64 u65 u66 u67 u68 u69 u70 u71 u72 u73 u74 u75 u76 u77 u78 u79 u80 u81 u82 u83 u84 u85 u86 u87 u88 u89 u90 u91 u92 u93 u94 u95 u96 u97 u98 u99 u100 u101 u102 u103 u104 u105 u106 u107 u108 u109 u110 u111 u112 u113 u114 u115 u116 u117 u118 u119 u120 u121 u122 u123 u124 u125 u126 u127 u128 u129 u130 u131 u132 u133 u134 u135 u136 u137 u138 u139 u140 u141 u142 u143 u144 u145 u146 u147 u148 u149 u150 u151 u152 u153 u154 u155 u156 u157 u158 u159 u160 u161 u162 u163 u164 u165 u166 u167 u168 u169 u170 u171 u172 u173 u174 u175 u176 u177 u178 u179 u180 u181 u182 u183 u184 u185 u186 u187 u188 u189 u190 u191 u192 u193 u194 u195 u196 u197 u198 u199 u200 u201 u202 u203 u204 u205 u206 u207 u208 u209 u210 u211 u212 u213 u214 u215 u216 u217 u218 u219 : Value) :
    Code.wp P symTail (bodyPost P Try.f104 (SymPost enc k cf tg w blk off d a b)) ⟨#[.slice (some ⟨blk, off, none⟩) d.size cap, .int .i64 a, .int .i64 m, .int .i64 b, .func (.func g) #[] cb, u5, u6, u7, u8, u9, u10, u11, u12, u13, u14, u15, u16, u17, .int .i64 mid, u19, .int .i64 s, u21, u22, u23, .int .i64 e, u25, u26, u27, u28, u29, u30, u31, u32, u33, u34, u35, u36, u37, u38, u39, u40, u41, u42, u43, u44, u45, u46, u47, u48, u49, u50, u51, u52, u53, u54, u55, u56, u57, u58, u59, u60, u61, u62, u63, u64, u65, u66, u67, u68, u69, u70, u71, u72, u73, u74, u75, u76, u77, u78, u79, u80, u81, u82, u83, u84, u85, u86, u87, u88, u89, u90, u91, u92, u93, u94, u95, u96, u97, u98, u99, u100, u101, u102, u103, u104, u105, u106, u107, u108, u109, u110, u111, u112, u113, u114, u115, u116, u117, u118, u119, u120, u121, u122, u123, u124, u125, u126, u127, u128, u129, u130, u131, u132, u133, u134, u135, u136, u137, u138, u139, u140, u141, u142, u143, u144, u145, u146, u147, u148, u149, u150, u151, u152, u153, u154, u155, u156, u157, u158, u159, u160, u161, u162, u163, u164, u165, u166, u167, u168, u169, u170, u171, u172, u173, u174, u175, u176, u177, u178, u179, u180, u181, u182, u183, u184, u185, u186, u187, u188, u189, u190, u191, u192, u193, u194, u195, u196, u197, u198, u199, u200, u201, u202, u203, u204, u205, u206, u207, u208, u209, u210, u211, u212, u213, u214, u215, u216, u217, u218, u219], []⟩ w1 := by
  have mixed := L.mixed; have t0 := L.t0; have a0 := L.a0; have z0 := L.z0; have v0 := L.v0; have t3 := L.t3; have a3 := L.a3; have z3 := L.z3; have v3 := L.v3; have t4 := L.t4; have a4 := L.a4; have z4 := L.z4; have v4 := L.v4; have t85 := L.t85; have a85 := L.a85; have z85 := L.z85; have v85 := L.v85; have t43 := L.t43; have a43 := L.a43; have z43 := L.z43; have v43 := L.v43; have t69 := L.t69; have a69 := L.a69; have z69 := L.z69; have v69 := L.v69; have aE := L.aE; have zE := L.zE
  have u43 := run_underlying L.t43
  conv => arg 2; whnf
  conv => arg 4; zeta
  go_upto_region 41 with (fail)
  go_cut [199] (fun vc wx => (∃ c : Bool, vc = .bool c ∧ Hid (c = decide (a < s ∧ s < mid))) ∧ w1 = wx)
  case first =>
    by_cases q1 : a < s
    · have q1z : (a : Int) < (s : Int) := by omega
      by_cases q2 : s < mid
      · have q2z : (s : Int) < (mid : Int) := by omega
        go_wp2_with fail
        go_meet
        exact ⟨⟨true, rfl, Lib.hid (decide_eq_true (show a < s ∧ s < mid from ⟨q1, q2⟩)).symm⟩, rfl⟩
      · have q2z : ¬ (s : Int) < (mid : Int) := by omega
        go_wp2_with fail
        go_meet
        exact ⟨⟨false, rfl, Lib.hid (decide_eq_false (show ¬ (a < s ∧ s < mid) from fun h => q2 h.2)).symm⟩, rfl⟩
    · have q1z : ¬ (a : Int) < (s : Int) := by omega
      go_wp2_with fail
      go_meet
      exact ⟨⟨false, rfl, Lib.hid (decide_eq_false (show ¬ (a < s ∧ s < mid) from fun h => q1 h.1)).symm⟩, rfl⟩
  case rest =>
  obtain ⟨⟨cc2, rfl, HCCcc2⟩, rfl⟩ := hcut
  go_upto_if 199 with (fail)
  go_cut [] (fun wx => ∃ d2 : Array α, Hid (Hlf enc k cf tg w blk off a mid d1 d2 wx))
  case first =>
    cases cc2
    · have q : ¬ (a < s ∧ s < mid) := of_decide_eq_false HCCcc2.out.symm
      have HX' : Hid (Hlf enc k cf tg w blk off a mid d1 d1 w1) := Lib.hid ⟨permIn_refl d1 a mid, HTD.out.h2 q, HT.out.sw⟩
      clear q
      go_wp2_with fail
      go_meet
      exact ⟨d1, HX'⟩
    · have q : a < s ∧ s < mid := of_decide_eq_true HCCcc2.out.symm
      have hr := IH.out a s mid d1 _ (by omega) HT.out.size HT.out.sw (HTD.out.h1 q.1 q.2)
      clear q
      go_wp2_with fail
      go_at_fn 104
      refine hr.mono ?_
      rintro e' w' ⟨rfl, d2, g1, g2, g3⟩
      go_wp2_with fail
      go_meet
      exact ⟨d2, Lib.hid ⟨g1, g2, HT.out.sw.trans g3⟩⟩
  case rest =>
  obtain ⟨d2, HD2⟩ := hcut
  rename World => w2
  go_upto_region 43 with (fail)
  go_cut [213] (fun vc wx => (∃ c : Bool, vc = .bool c ∧ Hid (c = decide (mid < e ∧ e < b))) ∧ w2 = wx)
  case first =>
    by_cases q1 : mid < e
    · have q1z : (mid : Int) < (e : Int) := by omega
      by_cases q2 : e < b
      · have q2z : (e : Int) < (b : Int) := by omega
        go_wp2_with fail
        go_meet
        exact ⟨⟨true, rfl, Lib.hid (decide_eq_true (show mid < e ∧ e < b from ⟨q1, q2⟩)).symm⟩, rfl⟩
      · have q2z : ¬ (e : Int) < (b : Int) := by omega
        go_wp2_with fail
        go_meet
        exact ⟨⟨false, rfl, Lib.hid (decide_eq_false (show ¬ (mid < e ∧ e < b) from fun h => q2 h.2)).symm⟩, rfl⟩
    · have q1z : ¬ (mid : Int) < (e : Int) := by omega
      go_wp2_with fail
      go_meet
      exact ⟨⟨false, rfl, Lib.hid (decide_eq_false (show ¬ (mid < e ∧ e < b) from fun h => q1 h.1)).symm⟩, rfl⟩
  case rest =>
  obtain ⟨⟨cc3, rfl, HCCcc3⟩, rfl⟩ := hcut
  have hsz2 : d2.size = d.size := HD2.out.perm.1.trans HT.out.size
  have HSZ2 := Lib.hid hsz2
  clear hsz2
  cases cc3
  · have q : ¬ (mid < e ∧ e < b) := of_decide_eq_false HCCcc3.out.symm
    have hr2 : Stb.Rise cf tg mid b d2 := (HTD.out.h4 q).congr fun x g1 _ => HD2.out.perm.2.1 x (Or.inr g1)
    have HR2 := Lib.hid hr2
    clear q hr2
    go_wp2_with fail
    go_end0
    have ht := HT.out
    have hd := HD2.out
    have hts := ht.size
    refine ⟨rfl, d2, permIn_trans _ _ _ a b ht.perm (permIn_mono _ _ a mid a b (Nat.le_refl _) (by omega) (by omega) hd.perm), ?_, hd.sw⟩
    exact Stb.rise_both a mid b (by omega) (by omega) HTD.out.h5 hd.perm hd.rise (permIn_refl d2 mid b) HR2.out
  · have q : mid < e ∧ e < b := of_decide_eq_true HCCcc3.out.symm
    have hr := IH.out mid e b d2 _ (by omega) HSZ2.out HD2.out.sw (mrg_congr (HTD.out.h3 q.1 q.2) HD2.out.perm.1 (fun x g1 _ => HD2.out.perm.2.1 x (Or.inr g1)))
    clear q
    go_wp2_with fail
    go_at_fn 104
    refine hr.mono ?_
    rintro e' w' ⟨rfl, d3, g1, g2, g3⟩
    go_wp2_with fail
    go_end0
    have ht := HT.out
    have hd := HD2.out
    have hts := ht.size
    refine ⟨rfl, d3, permIn_trans _ _ _ a b ht.perm (permIn_trans _ _ _ a b (permIn_mono _ _ a mid a b (Nat.le_refl _) (by omega) (by omega) hd.perm) (permIn_mono _ _ mid b a b (by omega) (Nat.le_refl _) (by have := HSZ2.out; omega) g1)), ?_, hd.sw.trans g3⟩
    exact Stb.rise_both a mid b (by omega) (by omega) HTD.out.h5 hd.perm hd.rise g1 g2
end Go.Proofs.Yteppgeiejknhoaa

/-
  The library's sort in place at a struct: symMerge, up to its two halves.
-/
namespace Go.Proofs.Yteppgeiejknhoaa
set_option maxRecDepth 20000
open Go.RowKit Go.Shelf Go.Sort Go.Lib
set_option linter.unusedVariables false
set_option linter.unusedSimpArgs false
set_option linter.unusedSectionVars false
variable {P : Program} {α : Type} [Inhabited α]

set_option maxHeartbeats 16000000 in
set_option maxRecDepth 1000000 in
theorem sort_sym_gen {k : Nat} (L : SLay P k) (hF : P.funcs[104]? = some Try.f104) (hFr : P.funcs[112]? = some Try.f112) (hFs : P.funcs[117]? = some Try.f117)
    (es : ∀ args w, (callFunc 117 args).run P w = .ok (.enter 117 args) w) (er : ∀ args w, (callFunc 112 args).run P w = .ok (.enter 112 args) w) (em : ∀ args w, (callFunc 104 args).run P w = .ok (.enter 104 args) w)
    (enc : α → List Value) (hk : ∀ x, (enc x).length = k) (h1 : ∀ x, ∀ v ∈ enc x, v.oneCell' = true) (cf : α → α → Int) (tg : α → Nat) (hO : Stb.COrd cf) (g : Nat) (cb : Array Value)
    (blk off cap a m b : Nat) (hma : m ≠ a + 1) (hbm : b ≠ m + 1) (d : Array α) (w : World) (hcmp : CmpB P g cb enc cf w blk) (hH : HoldsK enc k w blk off d) (hblk : blk < w.heap.size) (hM : Stb.Mrg cf tg a m b d) (hsz : d.size < 4611686018427387904)
    (ih : ∀ (a' m' b' : Nat) (d' : Array α) (W : World), b' - a' < b - a → d'.size = d.size → SW enc k w blk off d' W → Stb.Mrg cf tg a' m' b' d' → Calls P 104 #[.slice (some ⟨blk, off, none⟩) d.size cap, .int .i64 a', .int .i64 m', .int .i64 b', .func (.func g) #[] cb] W (SymPost enc k cf tg W blk off d' a' b')) :
    Calls P 104 #[.slice (some ⟨blk, off, none⟩) d.size cap, .int .i64 a, .int .i64 m, .int .i64 b, .func (.func g) #[] cb] w (SymPost enc k cf tg w blk off d a b) := by
  have mixed := L.mixed; have t0 := L.t0; have a0 := L.a0; have z0 := L.z0; have v0 := L.v0; have t3 := L.t3; have a3 := L.a3; have z3 := L.z3; have v3 := L.v3; have t4 := L.t4; have a4 := L.a4; have z4 := L.z4; have v4 := L.v4; have t85 := L.t85; have a85 := L.a85; have z85 := L.z85; have v85 := L.v85; have t43 := L.t43; have a43 := L.a43; have z43 := L.z43; have v43 := L.v43; have t69 := L.t69; have a69 := L.a69; have z69 := L.z69; have v69 := L.v69; have aE := L.aE; have zE := L.zE
  have u43 := run_underlying L.t43
  have ham : a + 2 ≤ m := by have := hM.am; omega
  have hmb : m + 2 ≤ b := by have := hM.mb; omega
  have hb : b ≤ d.size := hM.bs
  have HM := Lib.hid hM
  have HC := Lib.hid hcmp
  have eg := hcmp.eg
  have HK := Lib.hid hk; have H1 := Lib.hid h1
  have HST : Hid (SW enc k w blk off d w) := Lib.hid (SW.refl hH hblk)
  have HR := Lib.hid (fun (s e : Nat) (W : World) (hW : SW enc k w blk off d W) (h1' : s < m) (h2 : m < e) (h3 : e ≤ d.size) => sort_rotate L hFr hFs es enc hk h1 blk off cap s m e d (.func (.func g) #[] cb) W hW.row hW.lt' h1' h2 h3 (by omega))
  have IH := Lib.hid ih
  have c1 : ((m : Int) - (a : Int) == 1) = false := by simp; omega
  have c2 : ((b : Int) - (m : Int) == 1) = false := by simp; omega
  obtain ⟨mid, hmid⟩ : ∃ h : Nat, (a + b) / 2 = h := ⟨_, rfl⟩
  have hmidz : ((a : Int) + (b : Int)) / 2 = (mid : Int) := by omega
  obtain ⟨n, hn⟩ : ∃ h : Nat, mid + m = h := ⟨_, rfl⟩
  have hnz : (mid : Int) + (m : Int) = (n : Int) := by omega
  obtain ⟨pn, hpn⟩ : ∃ h : Nat, n - 1 = h := ⟨_, rfl⟩
  have hpnz : (n : Int) - 1 = (pn : Int) := by omega
  have k9 : pn + 1 ≤ n := by omega
  have k10 : n ≤ pn + 1 := by omega
  have k1 : a < mid := by omega
  have k2 : mid < b := by omega
  have k4 : n ≤ mid + b := by omega
  have HMID := Lib.hid hmid; have HN := Lib.hid hn
  have k5 : a + b ≤ 2 * mid + 1 := by omega
  have k6 : 2 * mid ≤ a + b := by omega
  have k7 : n ≤ mid + m := by omega
  have k8 : mid + m ≤ n := by omega
  clear hcmp hH hk h1 hblk hM hma hbm ih hmid hn hpn
  go_enter hF, Try.ntmps104
  go_upto_if 140 with (fail)
  go_cut [20, 21] (fun vs vr wx => (∃ s0 r0 : Nat, vs = .int .i64 s0 ∧ vr = .int .i64 r0 ∧ Hid (MidsAt a m b mid s0 r0)) ∧ w = wx)
  case first =>
    by_cases hc : mid < m
    · have hcz : (mid : Int) < (m : Int) := by omega
      obtain ⟨s0, hs0⟩ : ∃ s0 : Nat, mid + m - b = s0 := ⟨_, rfl⟩
      have hs0z : (n : Int) - (b : Int) = (s0 : Int) := by omega
      have HX : Hid (MidsAt a m b mid s0 mid) := Lib.hid (Or.inl ⟨hc, hs0.symm, rfl⟩)
      clear hs0
      go_wp2_with fail
      go_meet
      exact ⟨⟨s0, mid, rfl, rfl, HX⟩, rfl⟩
    · have hcz : ¬ (mid : Int) < (m : Int) := by omega
      have HX : Hid (MidsAt a m b mid a m) := Lib.hid (Or.inr ⟨by omega, rfl, rfl⟩)
      go_wp2_with fail
      go_meet
      exact ⟨⟨a, m, rfl, rfl, HX⟩, rfl⟩
  case rest =>
  obtain ⟨⟨s0, r0, rfl, rfl, HX⟩, rfl⟩ := hcut
  have hx := HX.out
  have x1 : a ≤ s0 := by rcases hx with ⟨q1, q2, q3⟩ | ⟨q1, q2, q3⟩ <;> omega
  have x2 : s0 ≤ r0 := by rcases hx with ⟨q1, q2, q3⟩ | ⟨q1, q2, q3⟩ <;> omega
  have x3 : r0 ≤ mid := by rcases hx with ⟨q1, q2, q3⟩ | ⟨q1, q2, q3⟩ <;> omega
  have x4 : r0 ≤ m := by rcases hx with ⟨q1, q2, q3⟩ | ⟨q1, q2, q3⟩ <;> omega
  have x5 : n ≤ s0 + b := by rcases hx with ⟨q1, q2, q3⟩ | ⟨q1, q2, q3⟩ <;> omega
  clear hx
  go_wp2
  go_loopw [20, 21] (fun vs vr wr => ∃ (s r : Nat), vs = .int .i64 s ∧ vr = .int .i64 r ∧ s0 ≤ s ∧ s ≤ r ∧ r ≤ r0 ∧ Hid (Mids cf n s0 r0 s r d) ∧ Hid (SW enc k w blk off d wr)) (fun vs vr _ => (intOf vr).toNat - (intOf vs).toNat)
  case atStart => exact ⟨s0, r0, rfl, rfl, Nat.le_refl _, x2, Nat.le_refl _, Lib.hid ⟨Or.inl rfl, Or.inl rfl⟩, HST⟩
  case round =>
    obtain ⟨s, r, rfl, rfl, hs, hsr, hr, HP, HW⟩ := hrel
    by_cases hlt : s < r
    · have hltz : (s : Int) < (r : Int) := by omega
      obtain ⟨c, hc⟩ : ∃ h : Nat, (s + r) / 2 = h := ⟨_, rfl⟩
      have hcz : ((s : Int) + (r : Int)) / 2 = (c : Int) := by omega
      obtain ⟨y, hy⟩ : ∃ h : Nat, pn - c = h := ⟨_, rfl⟩
      have hyz : (pn : Int) - (c : Int) = (y : Int) := by omega
      have h1 : s ≤ c := by omega
      have h2 : c < r := by omega
      have h3 : (c : Int) < (d.size : Int) := by omega
      have h4 : (y : Int) < (d.size : Int) := by omega
      have hwy : IntKind.i64.wrap (y : Int) = (y : Int) := by rw [IntKind.wrap_i64]; omega
      have HY : Hid (n - (c + 1) = y ∧ n - c - 1 = y) := Lib.hid ⟨by omega, by omega⟩
      clear hc hy
      obtain ⟨xc, hxc⟩ : ∃ x, d[c]! = x := ⟨_, rfl⟩
      obtain ⟨xy, hxy⟩ : ∃ x, d[y]! = x := ⟨_, rfl⟩
      have lc : ∀ p : WIn (fun W => SW enc k w blk off d W), Sem.run P (loadCellsFrom ⟨blk, off + c * k, none⟩ 0 k #[]) p.w = .ok (enc xc).toArray p.w := fun p => by
        rw [← hxc]; exact p.ok.load P HK.out c (by omega)
      have ly : ∀ p : WIn (fun W => SW enc k w blk off d W), Sem.run P (loadCellsFrom ⟨blk, off + y * k, none⟩ 0 k #[]) p.w = .ok (enc xy).toArray p.w := fun p => by
        rw [← hxy]; exact p.ok.load P HK.out y (by omega)
      have hne : Nonempty (WIn (fun W => SW enc k w blk off d W)) := ⟨⟨_, HW.out.drew⟩⟩
      have hcg := fun p : WIn (fun W => SW enc k w blk off d W) => HC.out.cls d p xy xc
      have HXC := Lib.hid hxc; have HXY := Lib.hid hxy
      clear hxc hxy
      by_cases hlv : cf xy xc < 0
      · have HN' : Hid (Mids cf n s0 r0 s c d) := Lib.hid ⟨HP.out.lo, Or.inr (by rw [HY.out.2, HXC.out, HXY.out]; exact hlv)⟩
        go_wp2_with fail
        refine wp_region_cls (fun W => SW enc k w blk off d W) mixed (by kernel_rfl) HW.out.drew ?_
        repeat (go_big_quiet_step (first | (go_at_fn g; exact hcg _)))
        refine wpQuiet_nil ?_
        rintro _ ⟨p, rfl⟩
        go_wp2
        go_roundw
        case measure => simp [intOf]; omega
        case rel => exact ⟨s, c, rfl, rfl, by omega, by omega, by omega, HN', Lib.hid p.ok⟩
      · have hlb : (!decide (cf xy xc < 0)) = true := by simp; omega
        have HN' : Hid (Mids cf n s0 r0 (c + 1) r d) := Lib.hid ⟨Or.inr (by rw [Nat.add_sub_cancel, HY.out.1, HXC.out, HXY.out]; exact hlv), HP.out.hi⟩
        go_wp2_with fail
        refine wp_region_cls (fun W => SW enc k w blk off d W) mixed (by kernel_rfl) HW.out.drew ?_
        repeat (go_big_quiet_step (first | (go_at_fn g; exact hcg _)))
        refine wpQuiet_nil ?_
        rintro _ ⟨p, rfl⟩
        go_wp2
        go_roundw
        case measure => simp [intOf]; omega
        case rel => exact ⟨c + 1, r, by go_num, rfl, by omega, by omega, hr, HN', Lib.hid p.ok⟩
    · obtain rfl : s = r := by omega
      rename World => wo
      obtain ⟨e, he⟩ : ∃ h : Nat, n - s = h := ⟨_, rfl⟩
      have hez : (n : Int) - (s : Int) = (e : Int) := by omega
      have y1 : e + s ≤ n := by omega
      have y2 : n ≤ e + s := by omega
      have HCP : Hid (Stb.Cutp cf a m b mid s d) := by
        have hp := HP.out
        have hx := HX.out
        have e1 : mid + m - s = n - s := by omega
        refine Lib.hid ⟨by omega, by omega, by omega, by omega, ?_, ?_⟩
        · rcases hp.lo with q | q
          · rcases hx with ⟨q1, q2, q3⟩ | ⟨q1, q2, q3⟩
            · right; left; omega
            · left; omega
          · right; right; rw [e1]; exact q
        · rcases hp.hi with q | q
          · rcases hx with ⟨q1, q2, q3⟩ | ⟨q1, q2, q3⟩
            · right; left; omega
            · left; omega
          · right; right; rw [e1]; exact q
      clear he hlt
      go_upto_region 39 with (fail)
      go_cut [185] (fun vc wx => (∃ c : Bool, vc = .bool c ∧ Hid (c = decide (s < m ∧ m < e))) ∧ wo = wx)
      case first =>
        by_cases q1 : s < m
        · have q1z : (s : Int) < (m : Int) := by omega
          by_cases q2 : m < e
          · have q2z : (m : Int) < (e : Int) := by omega
            go_wp2_with fail
            go_meet
            exact ⟨⟨true, rfl, Lib.hid (decide_eq_true (show s < m ∧ m < e from ⟨q1, q2⟩)).symm⟩, rfl⟩
          · have q2z : ¬ (m : Int) < (e : Int) := by omega
            go_wp2_with fail
            go_meet
            exact ⟨⟨false, rfl, Lib.hid (decide_eq_false (show ¬ (s < m ∧ m < e) from fun h => q2 h.2)).symm⟩, rfl⟩
        · have q1z : ¬ (s : Int) < (m : Int) := by omega
          go_wp2_with fail
          go_meet
          exact ⟨⟨false, rfl, Lib.hid (decide_eq_false (show ¬ (s < m ∧ m < e) from fun h => q1 h.1)).symm⟩, rfl⟩
      case rest =>
      obtain ⟨⟨cc1, rfl, HCCcc1⟩, rfl⟩ := hcut
      go_upto_if 185 with (fail)
      have hms : s ≤ m := by omega
      have hme : m ≤ e := by omega
      have heb : e ≤ b := HCP.out.e |> fun h => by omega
      go_cut [] (fun wx => ∃ d1 : Array α, Hid (Trn enc k w blk off d a b m s e d1 wx))
      case first =>
        cases cc1
        · have q : ¬ (s < m ∧ m < e) := of_decide_eq_false HCCcc1.out.symm
          have HX' : Hid (Trn enc k w blk off d a b m s e d wo) := by
            refine Lib.hid ⟨rfl, fun x hx => ?_, permIn_refl d a b, HW.out⟩
            by_cases h : s = m
            · subst h; rw [Stb.rot_left]
            · have : e = m := by omega
              subst this; rw [Stb.rot_right]
          clear q
          go_wp2_with fail
          go_meet
          exact ⟨d, HX'⟩
        · have q : s < m ∧ m < e := of_decide_eq_true HCCcc1.out.symm
          have hr := HR.out s e _ HW.out q.1 q.2 (by omega)
          clear q
          go_wp2_with fail
          go_at_fn 112
          refine hr.mono ?_
          rintro e' w' ⟨rfl, d1, g1, g2, g3, g4⟩
          go_wp2_with fail
          go_meet
          exact ⟨d1, Lib.hid ⟨g1, g2, permIn_mono _ _ s e a b (by omega) heb hb g3, HW.out.trans g4⟩⟩
      case rest =>
      obtain ⟨d1, HT⟩ := hcut
      rename World => w1
      have HTD : Hid (Trd cf tg a s mid e b d1) := by
        have ht := HT.out
        have hE : mid + m - s = e := by omega
        have t := HM.out.turned hO HCP.out k1 k2 ht.size (by rw [hE]; exact ht.at_)
        rw [hE] at t
        exact Lib.hid ⟨t.1, t.2.1, t.2.2.1, t.2.2.2.1, t.2.2.2.2⟩
      rename Act → World → Prop => K0
      rename ∀ (a_1 : Act) (w_1 : World), _ → K0 a_1 w_1 => hK
      exact hK _ _ (sort_sym_tail L em enc cf tg g cb blk off cap a m b mid s e d d1 w w1 k1 k2 hb hsz (by omega) (by omega) HT HTD IH _ _ _ _ _ _ _ _ _ _ _ _ _ _ _ _ _ _ _ _ _ _ _ _ _ _ _ _ _ _ _ _ _ _ _ _ _ _ _ _ _ _ _ _ _ _ _ _ _ _ _ _ _ _ _ _ _ _ _ _ _ _ _ _ _ _ _ _ _ _ _ _ _ _ _ _ _ _ _ _ _ _ _ _ _ _ _ _ _ _ _ _ _ _ _ _ _ _ _ _ _ _ _ _ _ _ _ _ _ _ _ _ _ _ _ _ _ _ _ _ _ _ _ _ _ _ _ _ _ _ _ _ _ _ _ _ _ _ _ _ _ _ _ _ _ _ _ _ _ _ _ _ _ _ _ _ _ _ _ _ _ _ _ _ _ _ _ _ _ _ _ _ _ _ _ _ _ _ _ _ _ _ _ _ _ _ _ _ _ _ _ _ _ _ _ _ _ _ _ _ _ _ _ _ _ _ _ _ _ _ _ _ )
end Go.Proofs.Yteppgeiejknhoaa

/-
  The library's stable sort at a struct: the recursion, and the blocks.
-/
namespace Go.Proofs.Yteppgeiejknhoaa
set_option maxRecDepth 20000
open Go.RowKit Go.Shelf Go.Sort Go.Lib
set_option linter.unusedVariables false
set_option linter.unusedSimpArgs false
set_option linter.unusedSectionVars false
variable {P : Program} {α : Type} [Inhabited α]

/-- The sort's functions, where they are. -/
structure SFun (P : Program) : Prop where
  fs : P.funcs[117]? = some Try.f117
  fr : P.funcs[112]? = some Try.f112
  fi : P.funcs[103]? = some Try.f103
  fm : P.funcs[104]? = some Try.f104
  ft : P.funcs[95]? = some Try.f95
  es : ∀ args w, (callFunc 117 args).run P w = .ok (.enter 117 args) w
  er : ∀ args w, (callFunc 112 args).run P w = .ok (.enter 112 args) w
  ei : ∀ args w, (callFunc 103 args).run P w = .ok (.enter 103 args) w
  em : ∀ args w, (callFunc 104 args).run P w = .ok (.enter 104 args) w

theorem sort_sym {k : Nat} (L : SLay P k) (F : SFun P) (enc : α → List Value) (hk : ∀ x, (enc x).length = k) (h1 : ∀ x, ∀ v ∈ enc x, v.oneCell' = true) (cf : α → α → Int) (tg : α → Nat) (hO : Stb.COrd cf) (g : Nat) (cb : Array Value)
    (blk off cap N : Nat) (hN : N < 4611686018427387904) (w : World) (hcmp : CmpB P g cb enc cf w blk) : ∀ (n a m b : Nat) (d : Array α) (W : World), b - a ≤ n → d.size = N → SW enc k w blk off d W → Stb.Mrg cf tg a m b d →
    Calls P 104 #[.slice (some ⟨blk, off, none⟩) N cap, .int .i64 a, .int .i64 m, .int .i64 b, .func (.func g) #[] cb] W (SymPost enc k cf tg W blk off d a b)
  | 0, a, m, b, d, W, hn, _, _, hM => by have := hM.am; have := hM.mb; omega
  | n + 1, a, m, b, d, W, hn, hs, hW, hM => by
    subst hs
    have hc := hcmp.later hW.rest
    by_cases hma : m = a + 1
    · exact sort_sym_one L F.fm enc hk h1 cf tg hO g cb blk off cap a m b hma d W hc hW.row hW.lt' hM hN
    by_cases hbm : b = m + 1
    · exact sort_sym_last L F.fm enc hk h1 cf tg hO g cb blk off cap a m b hma hbm d W hc hW.row hW.lt' hM hN
    exact sort_sym_gen L F.fm F.fr F.fs F.es F.er F.em enc hk h1 cf tg hO g cb blk off cap a m b hma hbm d W hc hW.row hW.lt' hM hN
      (fun a' m' b' d' W' hlt hs' hW' hM' => sort_sym L F enc hk h1 cf tg hO g cb blk off cap d.size hN w hcmp n a' m' b' d' W' (by omega) hs' (hW.trans hW') hM')

def StbPost (enc : α → List Value) (k : Nat) (cf : α → α → Int) (tg : α → Nat) (w : World) (blk off : Nat) (d : Array α) (e : Ending) (w' : World) : Prop :=
  e = .returned (.tuple #[]) ∧ ∃ d' : Array α, PermIn 0 d.size d d' ∧ Stb.Rise cf tg 0 d.size d' ∧ SW enc k w blk off d' w'
/-- A state of the sort: of so many, the row's elements among themselves, what Q says of them. -/
structure StbAt (enc : α → List Value) (k : Nat) (w : World) (blk off : Nat) (d : Array α) (Q : Array α → Prop) (dk : Array α) (W : World) : Prop where
  perm : PermIn 0 d.size d dk
  sw : SW enc k w blk off dk W
  q : Q dk
theorem StbAt.next {enc : α → List Value} {k : Nat} {w : World} {blk off : Nat} {d : Array α} {Q Q' : Array α → Prop} {dk d' : Array α} {W W' : World} (h : StbAt enc k w blk off d Q dk W) {a b : Nat} (hb : b ≤ d.size) (hp : PermIn a b dk d') (hw : SW enc k W blk off d' W') (hq : Q' d') : StbAt enc k w blk off d Q' d' W' :=
  ⟨permIn_trans _ _ _ 0 d.size h.perm (permIn_mono _ _ a b 0 d.size (Nat.zero_le _) hb (by rw [h.perm.1]; omega) hp), h.sw.trans hw, hq⟩

set_option maxHeartbeats 8000000 in
set_option maxRecDepth 1000000 in
theorem sort_stable {k : Nat} (L : SLay P k) (F : SFun P) (enc : α → List Value) (hk : ∀ x, (enc x).length = k) (h1 : ∀ x, ∀ v ∈ enc x, v.oneCell' = true) (cf : α → α → Int) (tg : α → Nat) (hO : Stb.COrd cf) (g : Nat) (cb : Array Value)
    (blk off cap : Nat) (d : Array α) (w : World) (hcmp : CmpB P g cb enc cf w blk) (hH : HoldsK enc k w blk off d) (hblk : blk < w.heap.size) (ht : ∀ i, i < d.size → tg d[i]! = i) (hsz : d.size < 4611686018427387904) :
    Calls P 95 #[.slice (some ⟨blk, off, none⟩) d.size cap, .int .i64 d.size, .func (.func g) #[] cb] w (StbPost enc k cf tg w blk off d) := by
  have mixed := L.mixed; have t0 := L.t0; have a0 := L.a0; have z0 := L.z0; have v0 := L.v0; have t3 := L.t3; have a3 := L.a3; have z3 := L.z3; have v3 := L.v3; have t4 := L.t4; have a4 := L.a4; have z4 := L.z4; have v4 := L.v4; have t85 := L.t85; have a85 := L.a85; have z85 := L.z85; have v85 := L.v85; have t43 := L.t43; have a43 := L.a43; have z43 := L.z43; have v43 := L.v43; have t69 := L.t69; have a69 := L.a69; have z69 := L.z69; have v69 := L.v69; have aE := L.aE; have zE := L.zE
  have u43 := run_underlying L.t43
  obtain ⟨n, hn⟩ : ∃ n, d.size = n := ⟨_, rfl⟩
  have HNN := Lib.hid hn
  have hF := F.ft
  have ei := F.ei
  have em := F.em
  have HI := Lib.hid (fun (dk : Array α) (W : World) (a b : Nat) (hs : dk.size = n) (hW : SW enc k w blk off dk W) (hab : a ≤ b) (hb : b ≤ n) =>
    (show Calls P 103 #[.slice (some ⟨blk, off, none⟩) n cap, .int .i64 a, .int .i64 b, .func (.func g) #[] cb] W (InsPost enc k cf W blk off dk a b) from hs ▸ sort_insertion L F.fi enc hk h1 cf g cb blk off cap a b dk W (hcmp.later hW.rest) hW.row hW.lt' hab (by omega) (by omega)))
  have HM := Lib.hid (fun (dk : Array α) (W : World) (a m b : Nat) (hs : dk.size = n) (hW : SW enc k w blk off dk W) (hM : Stb.Mrg cf tg a m b dk) => sort_sym L F enc hk h1 cf tg hO g cb blk off cap n (by omega) w hcmp (b - a) a m b dk W (Nat.le_refl _) hs hW hM)
  have HS0 : Hid (StbAt enc k w blk off d (Stb.Blk0 cf tg 20 0) d w) := Lib.hid ⟨permIn_refl d 0 _, SW.refl hH hblk, Stb.Blk0.start ht⟩
  rw [hn] at hsz ⊢
  clear hcmp hH hblk ht hk h1 hn F
  go_enter hF, Try.ntmps95
  go_wp2
  go_loopw [7, 8] (fun va vb wr => ∃ (A B : Nat) (dk : Array α), va = .int .i64 A ∧ vb = .int .i64 B ∧ A ≤ n ∧ B ≤ A + 20 ∧ A + 20 ≤ B ∧ Hid (∃ r, A = r * 20) ∧ Hid (StbAt enc k w blk off d (Stb.Blk0 cf tg 20 A) dk wr)) (fun va _ _ => n - (intOf va).toNat)
  case atStart => exact ⟨0, 20, d, rfl, rfl, Nat.zero_le _, by omega, by omega, Lib.hid ⟨0, by omega⟩, HS0⟩
  case round =>
    obtain ⟨A, B, dk, rfl, rfl, hA, hB1, hB2, HR, HS⟩ := hrel
    have hds : dk.size = n := by rw [HS.out.perm.1]; exact HNN.out
    have HDS := Lib.hid hds
    clear hds
    by_cases hlt : B ≤ n
    · have hltz : (B : Int) ≤ (n : Int) := by omega
      have hc := HI.out dk _ A B HDS.out HS.out.sw (by omega) hlt
      go_wp2_with (go_at_fn 103; refine hc.mono ?_; rintro e w' ⟨rfl, g1⟩)
      have HN : Hid (StbAt enc k w blk off d (Stb.Blk0 cf tg 20 B) (insertionSort (Stb.lb cf) dk A B) w') := by
        have hs := HS.out
        have hd := HDS.out
        have hnn := HNN.out
        have hi := Stb.insertion_rise (tg := tg) hO dk A B (by omega) (by omega) (hs.q.tags (by omega))
        obtain ⟨r, rfl⟩ := HR.out
        have hB : B = r * 20 + 20 := by omega
        exact Lib.hid (hs.next (by omega) hi.1 g1 (hs.q.next (by omega) (by omega) (by omega) hi.1 hi.2))
      have HR' : Hid (∃ r, B = r * 20) := by
        obtain ⟨r, rfl⟩ := HR.out
        exact Lib.hid ⟨r + 1, by omega⟩
      clear g1 hc
      go_roundw
      case measure => simp [intOf]; omega
      case rel => exact ⟨B, B + 20, _, rfl, by go_num, hlt, Nat.le_refl _, Nat.le_refl _, HR', HN⟩
    · have hltz : ¬ (B : Int) ≤ (n : Int) := by omega
      have hc := HI.out dk _ A n HDS.out HS.out.sw hA (Nat.le_refl _)
      go_wp2_with (go_at_fn 103; refine hc.mono ?_; rintro e w' ⟨rfl, g1⟩)
      have HN : Hid (StbAt enc k w blk off d (Stb.Blk cf tg 20) (insertionSort (Stb.lb cf) dk A n) w') := by
        have hs := HS.out
        have hd := HDS.out
        have hnn := HNN.out
        have hi := Stb.insertion_rise (tg := tg) hO dk A n hA (by omega) (hs.q.tags (by omega))
        obtain ⟨r, rfl⟩ := HR.out
        have hw := hs.q.next (by omega) hA (by omega) hi.1 hi.2
        have he : (insertionSort (Stb.lb cf) dk (r * 20) n).size = n := hi.1.1.trans hd
        have hw' : Stb.Blk0 cf tg 20 (insertionSort (Stb.lb cf) dk (r * 20) n).size (insertionSort (Stb.lb cf) dk (r * 20) n) := by rw [he]; exact hw
        exact Lib.hid (hs.next (by omega) hi.1 g1 hw'.whole)
      generalize insertionSort (Stb.lb cf) dk A n = dj at HN
      clear g1 hc HDS HS HR hlt hltz hB1 hB2 hA
      rename World => wo
      go_loopw [6] (fun vs wr => ∃ (s : Nat) (dk : Array α), vs = .int .i64 s ∧ 20 ≤ s ∧ s < 9223372036854775807 ∧ Hid (StbAt enc k w blk off d (Stb.Blk cf tg s) dk wr)) (fun vs _ => n - (intOf vs).toNat)
      case atStart => exact ⟨20, dj, rfl, Nat.le_refl _, by omega, HN⟩
      case round =>
        obtain ⟨s, dk, rfl, hs1, hs2, HS⟩ := hrel
        by_cases hlt : s < n
        · have hltz : (s : Int) < (n : Int) := by omega
          obtain ⟨t, ht⟩ : ∃ t, 2 * s = t := ⟨_, rfl⟩
          have htz : 2 * (s : Int) = (t : Int) := by omega
          have htz' : (s : Int) * 2 = (t : Int) := by omega
          have htb : (t : Int) ≤ 9223372036854775806 := by omega
          have htp : s < t := by omega
          have HTT := Lib.hid ht
          have HS2 : Hid (StbAt enc k w blk off d (Stb.Blk2 cf tg s 0) dk wr) := by
            have hs := HS.out
            exact Lib.hid ⟨hs.perm, hs.sw, Stb.Blk2.start hs.q⟩
          clear ht
          rename World => w1
          go_wp2
          go_loopw [7, 8] (fun va vb wr => ∃ (A B : Nat) (dk : Array α), va = .int .i64 A ∧ vb = .int .i64 B ∧ A ≤ n ∧ B ≤ A + t ∧ A + t ≤ B ∧ Hid (∃ r, A = r * (2 * s)) ∧ Hid (StbAt enc k w blk off d (Stb.Blk2 cf tg s A) dk wr)) (fun va _ _ => n - (intOf va).toNat)
          case atStart => exact ⟨0, t, dk, rfl, rfl, Nat.zero_le _, by omega, by omega, Lib.hid ⟨0, by omega⟩, HS2⟩
          case round =>
            obtain ⟨A, B, dl, rfl, rfl, hA, hB1, hB2, HR, HL⟩ := hrel
            have hds : dl.size = n := by rw [HL.out.perm.1]; exact HNN.out
            have HDS := Lib.hid hds
            clear hds
            have hAsz : ((A + s : Nat) : Int) = (A : Int) + (s : Int) := by omega
            have HAS := Lib.hid hAsz
            clear hAsz
            by_cases hBn : B ≤ n
            · have hBnz : (B : Int) ≤ (n : Int) := by omega
              have hM : Stb.Mrg cf tg A (A + s) B dl := by
                have hl := HL.out
                have hd := HDS.out
                have ht := HTT.out
                obtain ⟨r, rfl⟩ := HR.out
                exact hl.q.mrg (by omega) (by omega) (by omega) (by omega)
              have hc := HM.out dl _ A (A + s) B HDS.out HL.out.sw hM
              rw [HAS.out] at hc
              clear hM
              go_wp2_with (go_at_fn 104; refine hc.mono ?_; rintro e w' ⟨rfl, dm, g1, g2, g3⟩)
              have HN2 : Hid (StbAt enc k w blk off d (Stb.Blk2 cf tg s B) dm w') := by
                have hl := HL.out
                have hd := HDS.out
                have ht := HTT.out
                have hnn := HNN.out
                obtain ⟨r, rfl⟩ := HR.out
                exact Lib.hid (hl.next (by omega) g1 g3 (hl.q.next (by omega) (by omega) (by omega) (Or.inl (by omega)) g1 g2))
              have HR' : Hid (∃ r, B = r * (2 * s)) := by
                have ht := HTT.out
                obtain ⟨r, rfl⟩ := HR.out
                exact Lib.hid ⟨r + 1, by rw [Nat.succ_mul]; omega⟩
              clear g1 g2 g3 hc
              go_roundw
              case measure => simp [intOf]; omega
              case rel => exact ⟨B, B + t, dm, rfl, by go_num, hBn, Nat.le_refl _, Nat.le_refl _, HR', HN2⟩
            · have hBnz : ¬ (B : Int) ≤ (n : Int) := by omega
              by_cases hm : A + s < n
              · have hmz : (A : Int) + (s : Int) < (n : Int) := by omega
                have hM : Stb.Mrg cf tg A (A + s) n dl := by
                  have hl := HL.out
                  have hd := HDS.out
                  have ht := HTT.out
                  obtain ⟨r, rfl⟩ := HR.out
                  exact hl.q.mrg (by omega) (by omega) (by omega) (by omega)
                have hc := HM.out dl _ A (A + s) n HDS.out HL.out.sw hM
                rw [HAS.out] at hc
                clear hM
                go_wp2_with (go_at_fn 104; refine hc.mono ?_; rintro e w' ⟨rfl, dm, g1, g2, g3⟩)
                have HN2 : Hid (StbAt enc k w blk off d (Stb.Blk cf tg t) dm w') := by
                  have hl := HL.out
                  have hd := HDS.out
                  have ht := HTT.out
                  have hnn := HNN.out
                  obtain ⟨r, rfl⟩ := HR.out
                  have hw := hl.q.next (by omega) hA (by omega) (Or.inr hd.symm) g1 g2
                  rw [← ht]
                  exact Lib.hid (hl.next (by omega) g1 g3 (hw.whole (by rw [g1.1]; omega)))
                clear g1 g2 g3 hc
                go_roundw
                case measure => simp [intOf]; omega
                case rel => exact ⟨t, dm, rfl, by omega, by omega, HN2⟩
              · have hmz : ¬ (A : Int) + (s : Int) < (n : Int) := by omega
                have HN2 : Hid (StbAt enc k w blk off d (Stb.Blk cf tg t) dl wr) := by
                  have hl := HL.out
                  have hd := HDS.out
                  have ht := HTT.out
                  have hnn := HNN.out
                  obtain ⟨r, rfl⟩ := HR.out
                  have hr : Stb.Rise cf tg (r * (2 * s)) n dl := by have := hl.q.short (by omega); rwa [hd] at this
                  have hw := hl.q.next (d' := dl) (by omega) hA (by omega) (Or.inr hd.symm) (permIn_refl dl _ _) hr
                  rw [← ht]
                  exact Lib.hid ⟨hl.perm, hl.sw, hw.whole (by omega)⟩
                go_wp2
                go_roundw
                case measure => simp [intOf]; omega
                case rel => exact ⟨t, dl, rfl, by omega, by omega, HN2⟩
        · have hltz : ¬ (s : Int) < (n : Int) := by omega
          go_wp2
          go_end0
          have hs := HS.out
          have hnn := HNN.out
          have hd : dk.size = n := by rw [hs.perm.1]; exact hnn
          have hr := hs.q.rise (by omega)
          rw [hd] at hr
          exact ⟨rfl, dk, hs.perm, by rw [hnn]; exact hr, hs.sw⟩
end Go.Proofs.Yteppgeiejknhoaa

/-
  rec.sorted: a copy of the row, sorted by rec.Compare, the stable way.
-/
namespace Go.Proofs.Yteppgeiejknhoaa
set_option maxRecDepth 20000
open Go.RowKit Go.Shelf Go.Sort Go.Lib
open Stb (COrd Lx Rise)
set_option maxRecDepth 20000
set_option linter.unusedVariables false
set_option linter.unusedSimpArgs false
set_option linter.unusedSectionVars false

/-- Cells and the records that they read as, one by one. -/
def Rcs (W : World) (css : List (List Value)) (rs : List Rc) : Prop := css.length = rs.length ∧ ∀ i (h1 : i < css.length) (h2 : i < rs.length), RcAt W css[i] rs[i]
theorem Rcs.below {W W' : World} {css : List (List Value)} {rs : List Rc} (h : Rcs W css rs) (hb : Below W.heap.size W W') : Rcs W' css rs := ⟨h.1, fun i h1 h2 => (h.2 i h1 h2).below hb⟩
theorem SlAt.one {W : World} {v : Value} {xs : List Value} (h : SlAt W v xs) : v.oneCell' = true := by obtain ⟨a, c, rfl, _⟩ := h; rfl
theorem RcAt.len {W : World} {cs : List Value} {r : Rc} (h : RcAt W cs r) : cs.length = 7 := by obtain ⟨vo, vn, vu, vt, vr, rfl, _⟩ := h; rfl
theorem RcAt.one {W : World} {cs : List Value} {r : Rc} (h : RcAt W cs r) : ∀ u ∈ cs, u.oneCell' = true := by
  obtain ⟨vo, vn, vu, vt, vr, rfl, h1, h2⟩ := h
  obtain ⟨un, uu, ut, ur, e, ⟨vs, g1, _⟩, g2, g3, g4⟩ := h2
  have e' : #[Value.int .i64 r.data.ty, vn, vu, vt, vr] = #[Value.int .i64 r.data.ty, un, uu, ut, ur] := by injection e
  simp only [Array.mk.injEq, List.cons.injEq, and_true, true_and] at e'
  obtain ⟨rfl, rfl, rfl, rfl⟩ := e'
  intro u hu
  simp only [List.mem_cons, List.not_mem_nil, or_false] at hu
  rcases hu with rfl | rfl | rfl | rfl | rfl | rfl | rfl
  · exact (nmAt_sl.1 h1).one
  · rfl
  · rfl
  · exact g1.one
  · exact g2.one
  · exact (nmAt_sl.1 g3).one
  · exact g4.one
def Rc.none : Rc := ⟨[], 0, Dat.none⟩
theorem rcAt_none (W : World) : RcAt W [.slice none 0 0, .int .u32 0, .int .i64 0, .slice none 0 0, .slice none 0 0, .slice none 0 0, .slice none 0 0] Rc.none :=
  ⟨_, _, _, _, _, rfl, nm_nil W, _, _, _, _, rfl, NmsAt.nil W, SlAt.nil W, nm_nil W, SlAt.nil W⟩
theorem rcOK_none : RcOK Rc.none := ⟨⟨by decide, by simp [Rc.none]⟩, by decide, ⟨by decide, by decide⟩, by decide, by simp [Rc.none, Dat.none], by decide, by simp [Rc.none, Dat.none], ⟨by decide, by simp [Rc.none, Dat.none]⟩, by decide⟩

/-- A record of the row: its cells, what they read as in w0, its place. -/
def RcT (w0 : World) : Type := { x : List Value × Rc × Nat // RcAt w0 x.1 x.2.1 ∧ RcOK x.2.1 }
instance (w0 : World) : Inhabited (RcT w0) := ⟨⟨(_, Rc.none, 0), rcAt_none w0, rcOK_none⟩⟩
def RcT.cells {w0 : World} (x : RcT w0) : List Value := x.1.1
def RcT.rc {w0 : World} (x : RcT w0) : Rc := x.1.2.1
def RcT.tg {w0 : World} (x : RcT w0) : Nat := x.1.2.2

theorem flat_at {α : Type} (enc : α → List Value) (k : Nat) (hk : ∀ x, (enc x).length = k) : ∀ (l : List α) (t : Nat), t < l.length * k → ∃ h : t / k < l.length, (l.flatMap enc)[t]? = (enc l[t / k])[t % k]?
  | [], t, h => by simp at h
  | x :: r, t, h => by
    have k0 : 0 < k := by rcases Nat.eq_zero_or_pos k with h' | h'; · subst h'; simp at h
                          · exact h'
    rw [List.flatMap_cons]
    by_cases ht : t < k
    · have e1 : t / k = 0 := Nat.div_eq_of_lt ht
      have e2 : t % k = t := Nat.mod_eq_of_lt ht
      refine ⟨by rw [e1]; simp, ?_⟩
      rw [List.getElem?_append_left (by rw [hk]; exact ht)]
      simp only [e1, e2, List.getElem_cons_zero]
    · rw [List.length_cons, Nat.succ_mul] at h
      obtain ⟨h1, h2⟩ := flat_at enc k hk r (t - k) (by omega)
      have e1 : t / k = (t - k) / k + 1 := by
        rw [show t = (t - k) + k by omega, Nat.add_div_right _ k0]; congr 2; omega
      have e2 : t % k = (t - k) % k := by rw [show t = (t - k) + k by omega, Nat.add_mod_right]; congr 1; omega
      refine ⟨by rw [e1, List.length_cons]; omega, ?_⟩
      rw [List.getElem?_append_right (by rw [hk]; omega), hk, h2]
      simp only [e1, e2, List.getElem_cons_succ]
theorem flatK_is {α : Type} [Inhabited α] (enc : α → List Value) (k : Nat) (hk : ∀ x, (enc x).length = k) (d : Array α) (t : Nat) (ht : t < d.size * k) : (d.toList.flatMap enc)[t]? = some (flatK enc k d)[t]! := by
  have k0 : 0 < k := by rcases Nat.eq_zero_or_pos k with h' | h'; · subst h'; simp at ht
                        · exact h'
  obtain ⟨h1, h2⟩ := flat_at enc k hk d.toList t (by simpa using ht)
  have hm : t % k < k := Nat.mod_lt _ k0
  have h1' : t / k < d.size := by simpa using h1
  rw [h2, get_flatK enc k d t ht, getElem!_pos d _ h1', Array.getElem_toList, getElem!_pos (enc d[t / k]) _ (by rw [hk]; exact hm)]
  exact List.getElem?_eq_getElem _
/-- A row of the call's own, as the sort sees it. -/
theorem holdsK_of_own {α : Type} [Inhabited α] (enc : α → List Value) (k : Nat) (hk : ∀ x, (enc x).length = k) {T : TypeId} {W : World} {base g n c : Nat} {css : List (List Value)} (h : OwnC k T W base (.slice (some ⟨g, 0, none⟩) n c) css) (d : Array α) (hd : d.toList.map enc = css) : HoldsK enc k W g 0 d := by
  have hck : ∀ cs ∈ css, cs.length = k := fun cs hc => by rw [← hd] at hc; obtain ⟨x, _, rfl⟩ := List.mem_map.1 hc; exact hk x
  have hf : css.flatten = d.toList.flatMap enc := by rw [← hd]; rfl
  have hl : css.length = d.size := by rw [← hd]; simp
  intro j hj
  rw [size_flatK] at hj
  have hfl := flatK_is enc k hk d j hj
  rcases h.2 with ⟨e, _⟩ | ⟨g', cap, cur, e, hb, hg, hc, hm, hsz, htk⟩
  · cases e
  · cases e
    have h3 : cur.toList[j]? = some (flatK enc k d)[j]! := by
      have : (cur.toList.take (css.length * k))[j]? = some (flatK enc k d)[j]! := by rw [htk, flat_id, hf]; exact hfl
      rw [List.getElem?_take, if_pos (by rw [hl]; exact hj)] at this
      exact this
    refine ⟨?_, by simp [World.frozen?, hg]⟩
    simp only [World.cell?, hg, Nat.zero_add]
    simpa using h3
theorem slK_of_holds {α : Type} [Inhabited α] (enc : α → List Value) (k : Nat) (hk : ∀ x, (enc x).length = k) {W : World} {g n c : Nat} (d : Array α) (h : HoldsK enc k W g 0 d) (hn : n = d.size) (hc : n ≤ c) (hg : g < W.heap.size) : SlK W (.slice (some ⟨g, 0, none⟩) n c) (d.toList.map enc) := by
  subst hn
  refine ⟨_, _, by rw [List.length_map, Array.length_toList], by rw [List.length_map, Array.length_toList]; exact hc, (fun e => by cases e), .inr ⟨g, 0, rfl, hg, fun j u hj => ?_⟩⟩
  have hf : (d.toList.map enc).flatten = d.toList.flatMap enc := rfl
  rw [hf] at hj
  have hlt : j < d.size * k := by
    have h1 := (List.getElem?_eq_some_iff.1 hj).1
    have hl : (d.toList.flatMap enc).length = d.size * k := by
      have h := flat_len (k := k) (d.toList.map enc) (fun cs hc => by obtain ⟨x, _, rfl⟩ := List.mem_map.1 hc; exact hk x)
      rw [hf] at h
      rw [h, List.length_map, Array.length_toList]
    rw [hl] at h1
    exact h1
  have h2 := flatK_is enc k hk d j hlt
  rw [hj] at h2
  have h3 := (h j (by rw [size_flatK]; exact hlt)).1
  rw [h3]
  exact h2.symm

theorem tagged (w0 : World) (css : List (List Value)) (rs : List Rc) (h : Rcs w0 css rs) (hOK : ∀ r ∈ rs, RcOK r) : ∃ d : Array (RcT w0), d.toList.map RcT.cells = css ∧ d.toList.map RcT.rc = rs ∧ ∀ i, i < d.size → d[i]!.tg = i := by
  have hl := h.1
  let f : Fin css.length → RcT w0 := fun i => ⟨(css[i], rs[i.1]'(by have := i.2; omega), i.1), h.2 i.1 i.2 (by have := i.2; omega), hOK _ (List.getElem_mem _)⟩
  refine ⟨Array.ofFn f, ?_, ?_, fun i hi => ?_⟩
  · apply List.ext_getElem
    · simp
    · intro i h1 h2
      rw [List.getElem_map, Array.getElem_toList, Array.getElem_ofFn]; rfl
  · apply List.ext_getElem
    · simp; omega
    · intro i h1 h2
      rw [List.getElem_map, Array.getElem_toList, Array.getElem_ofFn]; rfl
  · have hi' : i < css.length := by simpa using hi
    rw [getElem!_pos _ i hi, Array.getElem_ofFn]
    rfl
theorem below_grown {w0 w W : World} {g : Nat} (hb : Below w0.heap.size w0 w) (hg : w.grownBy W (some g)) (hle : w0.heap.size ≤ g) : Below w0.heap.size w0 W :=
  hb.grown hg hb.size (fun k e => by cases e; exact hle)

theorem sfun_here : SFun Try.prog where
  fs := Try.func117
  fr := Try.func112
  fi := Try.func103
  fm := Try.func104
  ft := Try.func95
  es := enters_of Try.func117 (by kernel_rfl) rfl
  er := enters_of Try.func112 (by kernel_rfl) rfl
  ei := enters_of Try.func103 (by kernel_rfl) rfl
  em := enters_of Try.func104 (by kernel_rfl) rfl

theorem cmp_here (w0 w : World) (g : Nat) (hb : Below w0.heap.size w0 w) (hle : w0.heap.size ≤ g) : CmpB Try.prog 61 #[] (RcT.cells (w0 := w0)) (cfR RcT.rc) w g where
  eg := enters_of Try.func61 (by kernel_rfl) rfl
  call := fun W hW x y => by
    have hB := below_grown hb hW hle
    exact rec_Compare _ _ _ _ W (x.2.1.below hB) (y.2.1.below hB) x.2.2 y.2.2

set_option maxHeartbeats 1000000 in
theorem insertion_none (a : Option Addr) (c : Nat) (fv : Value) (w : World) : Calls Try.prog 103 #[.slice a 0 c, .int .i64 0, .int .i64 0, fv] w fun e w' => e = .returned (.tuple #[]) ∧ w = w' := by
  go_enter Try.func103, Try.ntmps103
  go_wp2
  refine wp_loop_rounds 1 ?_
  rw [rounds_succ]
  go_wp2
  go_end0
  exact ⟨rfl, rfl⟩
set_option maxHeartbeats 2000000 in
theorem stable_none (a : Option Addr) (c : Nat) (fv : Value) (w : World) : Calls Try.prog 95 #[.slice a 0 c, .int .i64 0, fv] w fun e w' => e = .returned (.tuple #[]) ∧ w = w' := by
  go_enter Try.func95, Try.ntmps95
  go_wp2
  refine wp_loop_rounds 1 ?_
  rw [rounds_succ]
  go_wp2_with (go_at_call 103; refine (insertion_none _ _ _ _).mono ?_; rintro e w' ⟨rfl, rfl⟩)
  refine wp_loop_rounds 1 ?_
  rw [rounds_succ]
  go_wp2
  go_end0
  exact ⟨rfl, rfl⟩

/-- What sorting leaves of a row of the call's own. -/
def SrtPost (w0 wb : World) (v : Value) (n : Nat) (rs : List Rc) (e : Ending) (w' : World) : Prop := e = .returned (.tuple #[]) ∧ ∃ css', SlK w' v css' ∧ css'.length = n ∧ Rcs w0 css' (sortM rs) ∧ Below wb.heap.size wb w'
set_option maxHeartbeats 2000000 in
theorem stable_recs (w0 wb : World) (hb0 : Below w0.heap.size w0 wb) (v : Value) (css : List (List Value)) (rs : List Rc) (w : World) (hb : Below wb.heap.size wb w) (hR : Rcs w0 css rs) (hOK : ∀ r ∈ rs, RcOK r) (hown : OwnC 7 50 w wb.heap.size v css) (hl : css.length ≤ 1000000000000) :
    Calls Try.prog 95 #[v, .int .i64 css.length, .func (.func 61) #[] #[]] w (SrtPost w0 wb v css.length rs) := by
  have hck : ∀ cs ∈ css, cs.length = 7 := fun cs hc => by
    obtain ⟨i, hi, rfl⟩ := List.mem_iff_getElem.1 hc
    exact (hR.2 i hi (by have := hR.1; omega)).len
  by_cases h0 : css = []
  · subst h0
    have hr0 : rs = [] := List.eq_nil_of_length_eq_zero hR.1.symm
    subst hr0
    obtain ⟨a, c, rfl⟩ := hown.shape
    refine (stable_none a c _ w).mono ?_
    rintro e w' ⟨rfl, rfl⟩
    exact ⟨rfl, [], SlK.of_own hown hck, rfl, ⟨rfl, fun i h1 => absurd h1 (Nat.not_lt_zero _)⟩, hb⟩
  · obtain ⟨d, hd1, hd2, hd3⟩ := tagged w0 css rs hR hOK
    have hn : css.length = d.size := by rw [← hd1]; simp
    rcases id hown.2 with ⟨e, h00⟩ | ⟨g, cap, cur, rfl, hbg, hg, hcap, hm, hsz, htk⟩
    · exact absurd (List.eq_nil_of_length_eq_zero h00) h0
    have hH : HoldsK RcT.cells 7 w g 0 d := holdsK_of_own RcT.cells 7 (fun x => x.2.1.len) hown d hd1
    have hlt : g < w.heap.size := (Array.getElem?_eq_some_iff.1 hg).1
    have hc := sort_stable slay_here sfun_here RcT.cells (fun x => x.2.1.len) (fun x => x.2.1.one) (cfR RcT.rc) RcT.tg (cord_cfR _) 61 #[] g 0 cap d w (cmp_here w0 w g (hb0.trans (hb.mono hb0.size)) (Nat.le_trans hb0.size hbg)) hH hlt hd3 (by omega)
    rw [← hn] at hc
    refine hc.mono ?_
    rintro e w' ⟨rfl, d', hp, hr, hs⟩
    have hsz' : d'.size = d.size := hp.1
    refine ⟨rfl, d'.toList.map RcT.cells, slK_of_holds RcT.cells 7 (fun x => x.2.1.len) d' hs.row (by omega) hcap hs.lt', by simp; omega, ?_, below_grown hb hs.rest hbg⟩
    have hsrt := sorted_is RcT.rc RcT.tg hd3 hp hr
    rw [hd2] at hsrt
    rw [← hsrt]
    refine ⟨by simp, fun i h1 h2 => ?_⟩
    simp only [List.getElem_map]
    exact (d'.toList[i]'(by simpa using h1)).2.1

set_option maxHeartbeats 2000000 in
theorem sort_func (w0 wb : World) (hb0 : Below w0.heap.size w0 wb) (v : Value) (css : List (List Value)) (rs : List Rc) (w : World) (hb : Below wb.heap.size wb w) (hR : Rcs w0 css rs) (hOK : ∀ r ∈ rs, RcOK r) (hown : OwnC 7 50 w wb.heap.size v css) (hl : css.length ≤ 1000000000000) :
    Calls Try.prog 84 #[v, .func (.func 61) #[] #[]] w (SrtPost w0 wb v css.length rs) := by
  have hc := stable_recs w0 wb hb0 v css rs w hb hR hOK hown hl
  obtain ⟨a, c, rfl⟩ := hown.shape
  clear hR hOK hown hb hb0
  obtain ⟨n, hn⟩ : ∃ n, css.length = n := ⟨_, rfl⟩
  rw [hn] at hc hl ⊢
  clear hn
  go_enter Try.func84, Try.ntmps84
  go_wp2_with fail
  refine hc.mono ?_
  rintro e w' ⟨rfl, css', h⟩
  go_wp2
  go_end0
  exact ⟨rfl, css', h⟩

def SortedPost (w0 w : World) (rs : List Rc) (e : Ending) (w' : World) : Prop := ∃ v' css', e = .returned v' ∧ SlK w' v' css' ∧ Rcs w0 css' (sortM rs) ∧ (∀ b, v'.ownBlock = some b → w.heap.size ≤ b) ∧ Below w.heap.size w w'
set_option maxHeartbeats 2000000 in
theorem rec_sorted (w0 : World) (v : Value) (css : List (List Value)) (rs : List Rc) (w : World) (hb0 : Below w0.heap.size w0 w) (hA : SlK w v css) (hR : Rcs w0 css rs) (hOK : ∀ r ∈ rs, RcOK r) (hl : css.length ≤ 1000000000000) :
    Calls Try.prog 60 #[v, .func (.func 61) #[] #[]] w (SortedPost w0 w rs) := by
  have hck : ∀ cs ∈ css, cs.length = 7 ∧ ∀ u ∈ cs, u.oneCell' = true := fun cs hc => by
    obtain ⟨i, hi, rfl⟩ := List.mem_iff_getElem.1 hc
    have := hR.2 i hi (by have := hR.1; omega)
    exact ⟨this.len, this.one⟩
  have hc := clone_rec v css w hA (fun cs h => (hck cs h).1) (fun cs h => (hck cs h).2) hl
  have HS := Lib.hid (fun v' W (hown : OwnC 7 50 W w.heap.size v' css) (hb : Below w.heap.size w W) => sort_func w0 w hb0 v' css rs W hb hR hOK hown hl)
  clear hA hR hOK hck hb0
  obtain ⟨n, hn⟩ : ∃ n, css.length = n := ⟨_, rfl⟩
  go_enter Try.func60, Try.ntmps60
  go_wp2_with fail
  refine hc.mono ?_
  rintro e w1 ⟨v', rfl, hown, hb1⟩
  have hs := HS.out v' w1 hown hb1
  have HBL := Lib.hid hown.base_le
  obtain ⟨a', c', rfl⟩ := hown.shape
  rw [hn] at hs HBL ⊢
  clear hown hb1 hc hn
  go_wp2_with fail
  refine hs.mono ?_
  rintro e w2 ⟨rfl, css', h1, h2, h3, h4⟩
  have H := Lib.hid (And.intro h1 (And.intro h3 h4))
  clear h1 h2 h3 h4 hs
  go_wp2
  go_ret
  exact ⟨_, css', rfl, H.out.1, H.out.2.1, HBL.out, H.out.2.2⟩
end Go.Proofs.Yteppgeiejknhoaa

/-
  rec.least: the least TTL of a row of records.
-/
namespace Go.Proofs.Yteppgeiejknhoaa
set_option maxRecDepth 20000
open Go.RowKit Go.Shelf
set_option maxRecDepth 20000
set_option linter.unusedVariables false
set_option linter.unusedSimpArgs false

/-- The seven cells of an element. -/
theorem SlK.elem {W : World} {a : Option Addr} {n c : Nat} {css : List (List Value)} (h : SlK W (.slice a n c) css) (hk : ∀ cs ∈ css, cs.length = 7) (h0 : 0 < css.length) : ∃ b off, a = some ⟨b, off, none⟩ ∧ b < W.heap.size ∧
    ∀ k (hlt : k < css.length) (u0 u1 u2 u3 u4 u5 u6 : Value), css[k] = [u0, u1, u2, u3, u4, u5, u6] → ∀ W', Below W.heap.size W W' →
      W'.cell? ⟨b, off + k * 7, none⟩ = some u0 ∧ W'.cell? ⟨b, off + k * 7 + 1, none⟩ = some u1 ∧ W'.cell? ⟨b, off + k * 7 + 2, none⟩ = some u2 ∧ W'.cell? ⟨b, off + k * 7 + 3, none⟩ = some u3 ∧ W'.cell? ⟨b, off + k * 7 + 4, none⟩ = some u4 ∧ W'.cell? ⟨b, off + k * 7 + 5, none⟩ = some u5 ∧ W'.cell? ⟨b, off + k * 7 + 6, none⟩ = some u6 := by
  obtain ⟨a', c', e, _, _, h3⟩ := h
  cases e
  rcases h3 with h3 | ⟨b, off, rfl, hb, hc⟩
  · subst h3; simp at h0
  · refine ⟨b, off, rfl, hb, fun k hlt u0 u1 u2 u3 u4 u5 u6 he W' hB => ?_⟩
    have key : ∀ j u, j < 7 → [u0, u1, u2, u3, u4, u5, u6][j]? = some u → W'.cell? ⟨b, off + k * 7 + j, none⟩ = some u := fun j u hj hu => by
      rw [hB.cell (p := ⟨b, off + k * 7 + j, none⟩) hb, Nat.add_assoc]
      refine hc (k * 7 + j) u ?_
      have hl : ∀ (l : List (List Value)) (k : Nat) (hlt : k < l.length), (∀ cs ∈ l, cs.length = 7) → l[k] = [u0, u1, u2, u3, u4, u5, u6] → l.flatten[k * 7 + j]? = some u := by
        intro l
        induction l with
        | nil => intro k hlt; simp at hlt
        | cons x r ih =>
          intro k hlt hk he
          rw [List.flatten_cons]
          cases k with
          | zero =>
            rw [List.getElem_cons_zero] at he
            rw [he, List.getElem?_append_left (by simp; omega)]
            simpa using hu
          | succ k =>
            rw [List.getElem_cons_succ] at he
            have hx : x.length = 7 := hk x (by simp)
            rw [List.getElem?_append_right (by rw [hx]; omega), hx, show (k + 1) * 7 + j - 7 = k * 7 + j by omega]
            exact ih k (by simpa using hlt) (fun cs hc => hk cs (by simp [hc])) he
      exact hl css k hlt hk he
    exact ⟨key 0 u0 (by omega) rfl, key 1 u1 (by omega) rfl, key 2 u2 (by omega) rfl, key 3 u3 (by omega) rfl, key 4 u4 (by omega) rfl, key 5 u5 (by omega) rfl, key 6 u6 (by omega) rfl⟩
theorem Rcs.ck {W : World} {css : List (List Value)} {rs : List Rc} (h : Rcs W css rs) : ∀ cs ∈ css, cs.length = 7 := fun cs hc => by
  obtain ⟨i, hi, rfl⟩ := List.mem_iff_getElem.1 hc
  exact (h.2 i hi (by have := h.1; omega)).len

theorem RcAt.shape {W : World} {cs : List Value} {r : Rc} (h : RcAt W cs r) : ∃ x0 x3 x4 x5 x6 : Option Addr × Nat × Nat, cs = [.slice x0.1 x0.2.1 x0.2.2, .int .u32 (r.ttl : Int), .int .i64 r.data.ty, .slice x3.1 x3.2.1 x3.2.2, .slice x4.1 x4.2.1 x4.2.2, .slice x5.1 x5.2.1 x5.2.2, .slice x6.1 x6.2.1 x6.2.2] := by
  obtain ⟨vo, vn, vu, vt, vr, rfl, h1, h2⟩ := h
  obtain ⟨un, uu, ut, ur, e, ⟨vs, g1, _⟩, g2, g3, g4⟩ := h2
  have e' : #[Value.int .i64 r.data.ty, vn, vu, vt, vr] = #[Value.int .i64 r.data.ty, un, uu, ut, ur] := by injection e
  simp only [Array.mk.injEq, List.cons.injEq, and_true, true_and] at e'
  obtain ⟨rfl, rfl, rfl, rfl⟩ := e'
  obtain ⟨a0, c0, rfl, _⟩ := nmAt_sl.1 h1
  obtain ⟨a3, c3, rfl, _⟩ := g1
  obtain ⟨a4, c4, rfl, _⟩ := g2
  obtain ⟨a5, c5, rfl, _⟩ := nmAt_sl.1 g3
  obtain ⟨a6, c6, rfl, _⟩ := g4
  exact ⟨(a0, _, c0), (a3, _, c3), (a4, _, c4), (a5, _, c5), (a6, _, c6), rfl⟩

set_option maxHeartbeats 2000000 in
theorem canon_ttl (u0 u2 u3 u4 u5 u6 : Value) (t : Int) (w : World) :
    Calls Try.prog 64 #[.agg #[u0, .int .u32 t, u2, u3, u4, u5, u6]] w fun e w' => e = .returned (.int .u32 t) ∧ Below w.heap.size w w' := by
  go_enter Try.func64, Try.ntmps64
  go_wp2
  go_ret
  exact ⟨rfl, (Below.refl _ w).alloc (Nat.le_refl _) _⟩

theorem minT_min (a b : Nat) : minT a b = min a b := by unfold minT; split <;> omega
theorem leastM_take (t : Nat) (l : List Rc) (k : Nat) (hk : k < l.length) : leastM t (l.take (k + 1)) = minT (leastM t (l.take k)) l[k].ttl := by
  rw [List.take_succ_eq_append_getElem hk, leastM_snoc]
theorem leastM_le (t : Nat) : ∀ l : List Rc, leastM t l ≤ t := fun l => by
  unfold leastM
  induction l generalizing t with
  | nil => exact Nat.le_refl _
  | cons x l ih => exact Nat.le_trans (ih (minT t x.ttl)) (minT_le t x.ttl).1
theorem leastM_first (y : Rc) (l : List Rc) : leastM y.ttl (y :: l) = leastM y.ttl l := by
  show l.foldl _ (minT y.ttl y.ttl) = _
  have : minT y.ttl y.ttl = y.ttl := by unfold minT; split <;> rfl
  rw [this]; rfl

set_option maxRecDepth 100000 in
set_option maxHeartbeats 8000000 in
theorem rec_least (v : Value) (css : List (List Value)) (y : Rc) (rs : List Rc) (w : World) (hA : SlK w v css) (hR : Rcs w css (y :: rs)) (hOK : ∀ r ∈ y :: rs, RcOK r) (hl : css.length ≤ 1000000000000) :
    Calls Try.prog 63 #[v, .func (.func 64) #[] #[]] w fun e w' => e = .returned (.int .u32 (leastM y.ttl rs : Nat)) ∧ Below w.heap.size w w' := by
  rw [← leastM_first]
  have hlen := hR.1
  obtain ⟨a, c, rfl, hc1, hc2, hx⟩ := id hA
  obtain ⟨b, off, rfl, hb, hcell⟩ := hA.elem hR.ck (by rw [hlen]; simp)
  obtain ⟨n, hn⟩ : ∃ n, css.length = n := ⟨_, rfl⟩
  have HROW := Lib.hid hR.2
  have HCELL := Lib.hid hcell
  have HL := Lib.hid hlen
  have HOK := Lib.hid hOK
  have hnc : n ≤ c := by omega
  have hn0 : 0 < n := by rw [← hn, hlen]; simp
  rw [hn]
  have HN := Lib.hid hn
  have hy0 : ((y :: rs)[0]'(by simp)) = y := rfl
  have h0 := HROW.out 0 (by omega) (by simp)
  rw [hy0] at h0
  obtain ⟨⟨p0, q0, r0⟩, ⟨p3, q3, r3⟩, ⟨p4, q4, r4⟩, ⟨p5, q5, r5⟩, ⟨p6, q6, r6⟩, e0⟩ := h0.shape
  clear h0
  simp only at e0
  obtain ⟨c0, c1, c2, c3, c4, c5, c6⟩ := HCELL.out 0 (by rw [HN.out]; exact hn0) _ _ _ _ _ _ _ e0 w (Below.refl _ _)
  rw [Nat.zero_mul, Nat.add_zero] at c0 c1 c2 c3 c4 c5 c6
  have hci := canon_ttl (.slice p0 q0 r0) (.int .i64 y.data.ty) (.slice p3 q3 r3) (.slice p4 q4 r4) (.slice p5 q5 r5) (.slice p6 q6 r6) (y.ttl : Int)
  have hyt : y.ttl < 2 ^ 32 := (HOK.out y (by simp)).2.1
  have HY : Hid (y.ttl < 2 ^ 32) := Lib.hid hyt
  clear hA hR hc1 hc2 hx hcell hlen hOK hn hy0 e0 hyt
  go_enter Try.func63, Try.ntmps63
  go_wp2_with fail
  refine (hci _).mono ?_
  rintro e w1 ⟨rfl, hb1⟩
  have HB1 := Lib.hid hb1
  clear hb1 hci c0 c1 c2 c3 c4 c5 c6
  go_wp2
  go_loopw [5, 15] (fun vt vi wr => ∃ (k t : Nat), vi = .int .i64 k ∧ vt = .int .u32 t ∧ k ≤ n ∧ Hid (t = leastM y.ttl ((y :: rs).take k)) ∧ Hid (Below w.heap.size w wr)) (fun _ vi _ => n - (intOf vi).toNat)
  case atStart => exact ⟨0, y.ttl, rfl, rfl, Nat.zero_le _, Lib.hid rfl, HB1⟩
  case round =>
    obtain ⟨k, t, rfl, rfl, hk, HT, HB⟩ := hrel
    by_cases hlt : k < n
    · have hltz : (k : Int) < (n : Int) := by omega
      have hk1 : k < css.length := by have := HN.out; omega
      have hk2 : k < (y :: rs).length := by have := HL.out; omega
      have h0 := HROW.out k hk1 hk2
      obtain ⟨r, hr⟩ : ∃ r, (y :: rs)[k] = r := ⟨_, rfl⟩
      rw [hr] at h0
      have HRR := Lib.hid hr
      obtain ⟨⟨p0, q0, r0⟩, ⟨p3, q3, r3⟩, ⟨p4, q4, r4⟩, ⟨p5, q5, r5⟩, ⟨p6, q6, r6⟩, e0⟩ := h0.shape
      clear h0
      simp only at e0
      obtain ⟨c0, c1, c2, c3, c4, c5, c6⟩ := HCELL.out k hk1 _ _ _ _ _ _ _ e0 wr HB.out
      have hci := canon_ttl (.slice p0 q0 r0) (.int .i64 r.data.ty) (.slice p3 q3 r3) (.slice p4 q4 r4) (.slice p5 q5 r5) (.slice p6 q6 r6) (r.ttl : Int)
      have HK12 := Lib.hid (And.intro hk1 hk2)
      clear e0 hr
      obtain ⟨m, hm⟩ : ∃ m, minT t r.ttl = m := ⟨_, rfl⟩
      have hmz : min (t : Int) (r.ttl : Int) = (m : Int) := by rw [← hm, minT_min]; omega
      have HMM := Lib.hid hm
      clear hm
      go_wp2_with fail
      refine (hci _).mono ?_
      rintro e w2 ⟨rfl, hb2⟩
      have HB2 := Lib.hid hb2
      clear hb2 hci c0 c1 c2 c3 c4 c5 c6
      go_wp2
      go_roundw
      case measure => simp [intOf]; omega
      case rel =>
        refine ⟨k + 1, m, by go_num, rfl, by omega, Lib.hid ?_, Lib.hid ?_⟩
        · rw [leastM_take y.ttl (y :: rs) k HK12.out.2, HRR.out, ← HT.out, HMM.out]
        · have h1 := (HB.out.alloc (o := Obj.cells #[.slice p0 q0 r0, .int .u32 (r.ttl : Int), .int .i64 r.data.ty, .slice p3 q3 r3, .slice p4 q4 r4, .slice p5 q5 r5, .slice p6 q6 r6] 50) HB.out.size)
          exact h1.trans (HB2.out.mono h1.size)
    · obtain rfl : k = n := by omega
      go_wp2
      go_ret
      have e := HT.out
      rw [List.take_of_length_le (by have := HL.out; have := HN.out; omega)] at e
      exact ⟨by rw [e]; rfl, HB.out⟩
end Go.Proofs.Yteppgeiejknhoaa

