/-
  The library's sort in place at a struct: symMerge.
-/
import Derived.Test.YtckammgnmgkieaaGreatMQ14
import Derived.Deep.CutBlock
import Derived.Deep.DeepCutAuto
namespace Go.Proofs.YtckammgnmgkieaaGreat
set_option maxRecDepth 20000
open Go.RowKit Go.Shelf Go.Sort Go.Lib
set_option linter.unusedVariables false
set_option linter.unusedSimpArgs false
set_option linter.unusedSectionVars false
variable {P : Program} {α : Type} [Inhabited α]

structure Mids (cf : α → α → Int) (n s0 r0 s r : Nat) (d : Array α) : Prop where
  lo : s = s0 ∨ ¬ cf d[n - s]! d[s - 1]! < 0
  hi : r = r0 ∨ cf d[n - r - 1]! d[r]! < 0
def MidsAt (a m b mid s0 r0 : Nat) : Prop := (mid < m ∧ s0 = mid + m - b ∧ r0 = mid) ∨ (m ≤ mid ∧ s0 = a ∧ r0 = m)
structure Trn (enc : α → List Value) (k : Nat) (w : World) (blk off : Nat) (d : Array α) (a b m s e : Nat) (d' : Array α) (W : World) : Prop where
  size : d'.size = d.size
  at_ : ∀ x, x < d.size → d'[x]! = Stb.rot s m e (fun i => d[i]!) x
  perm : PermIn a b d d'
  sw : SW enc k w blk off d' W

theorem mrg_congr {cf : α → α → Int} {tg : α → Nat} {a m b : Nat} {d d' : Array α} (h : Stb.Mrg cf tg a m b d) (hs : d'.size = d.size) (he : ∀ x, a ≤ x → x < b → d'[x]! = d[x]!) : Stb.Mrg cf tg a m b d' := by
  have am := h.am; have mb := h.mb; have bs := h.bs
  refine ⟨am, mb, by omega, h.l.congr fun x h1 h2 => he x h1 (by omega), h.r.congr fun x h1 h2 => he x (by omega) h2, fun i j h1 h2 h3 h4 => ?_⟩
  rw [he i h1 (by omega), he j (by omega) h4]
  exact h.x i j h1 h2 h3 h4
structure Hlf (enc : α → List Value) (k : Nat) (cf : α → α → Int) (tg : α → Nat) (w : World) (blk off : Nat) (a mid : Nat) (d d' : Array α) (W : World) : Prop where
  perm : PermIn a mid d d'
  rise : Stb.Rise cf tg a mid d'
  sw : SW enc k w blk off d' W
structure Trd (cf : α → α → Int) (tg : α → Nat) (a s mid e b : Nat) (d : Array α) : Prop where
  h1 : a < s → s < mid → Stb.Mrg cf tg a s mid d
  h2 : ¬ (a < s ∧ s < mid) → Stb.Rise cf tg a mid d
  h3 : mid < e → e < b → Stb.Mrg cf tg mid e b d
  h4 : ¬ (mid < e ∧ e < b) → Stb.Rise cf tg mid b d
  h5 : ∀ i j, a ≤ i → i < mid → mid ≤ j → j < b → Stb.Lx cf tg d[i]! d[j]!

def leftAt : Code → Option Nat
  | .region id _ _ => some id
  | .seq a _ => leftAt a
  | _ => none
def tailAt (n : Nat) : Code → Option Code
  | .seq a b => if leftAt a = some n then some (.seq a b) else (tailAt n a).or (tailAt n b)
  | .scope c => tailAt n c
  | .block _ c => tailAt n c
  | _ => none
noncomputable def symTail : Code := (Tryz.f209.body.bind (tailAt 41)).getD .skip

set_option maxHeartbeats 16000000 in
set_option maxRecDepth 1000000 in
theorem sort_sym_tail {k : Nat} (L : SLay P k)
    (em : ∀ args w, (callFunc 209 args).run P w = .ok (.enter 209 args) w)
    (enc : α → List Value) (cf : α → α → Int) (tg : α → Nat) (g : Nat) (cb : Array Value)
    (blk off cap a m b mid s e : Nat) (d d1 : Array α) (w w1 : World) (k1 : a < mid) (k2 : mid < b) (hb : b ≤ d.size) (hsz : d.size < 4611686018427387904) (hem : e < 4611686018427387904) (hsm : s < 4611686018427387904)
    (HT : Hid (Trn enc k w blk off d a b m s e d1 w1)) (HTD : Hid (Trd cf tg a s mid e b d1))
    (IH : Hid (∀ (a' m' b' : Nat) (d' : Array α) (W : World), b' - a' < b - a → d'.size = d.size → SW enc k w blk off d' W → Stb.Mrg cf tg a' m' b' d' → Calls P 209 #[.slice (some ⟨blk, off, none⟩) d.size cap, .int .i64 a', .int .i64 m', .int .i64 b', .func (.func g) #[] cb] W (SymPost enc k cf tg W blk off d' a' b')))
    (u5 u6 u7 u8 u9 u10 u11 u12 u13 u14 u15 u16 u17 u19 u21 u22 u23 u25 u26 u27 u28 u29 u30 u31 u32 u33 u34 u35 u36 u37 u38 u39 u40 u41 u42 u43 u44 u45 u46 u47 u48 u49 u50 u51 u52 u53 u54 u55 u56 u57 u58 u59 u60 u61 u62 u63 u64 u65 u66 u67 u68 u69 u70 u71 u72 u73 u74 u75 u76 u77 u78 u79 u80 u81 u82 u83 u84 u85 u86 u87 u88 u89 u90 u91 u92 u93 u94 u95 u96 u97 u98 u99 u100 u101 u102 u103 u104 u105 u106 u107 u108 u109 u110 u111 u112 u113 u114 u115 u116 u117 u118 u119 u120 u121 u122 u123 u124 u125 u126 u127 u128 u129 u130 u131 u132 u133 u134 u135 u136 u137 u138 u139 u140 u141 u142 u143 u144 u145 u146 u147 u148 u149 u150 u151 u152 u153 u154 u155 u156 u157 u158 u159 u160 u161 u162 u163 u164 u165 u166 u167 u168 u169 u170 u171 u172 u173 u174 u175 u176 u177 u178 u179 u180 u181 u182 u183 u184 u185 u186 u187 u188 u189 u190 u191 u192 u193 u194 u195 u196 u197 u198 u199 u200 u201 u202 u203 u204 u205 u206 u207 u208 u209 u210 u211 u212 u213 u214 u215 u216 u217 u218 u219 : Value) :
    Code.wp P symTail (bodyPost P Tryz.f209 (SymPost enc k cf tg w blk off d a b)) ⟨#[.slice (some ⟨blk, off, none⟩) d.size cap, .int .i64 a, .int .i64 m, .int .i64 b, .func (.func g) #[] cb, u5, u6, u7, u8, u9, u10, u11, u12, u13, u14, u15, u16, u17, .int .i64 mid, u19, .int .i64 s, u21, u22, u23, .int .i64 e, u25, u26, u27, u28, u29, u30, u31, u32, u33, u34, u35, u36, u37, u38, u39, u40, u41, u42, u43, u44, u45, u46, u47, u48, u49, u50, u51, u52, u53, u54, u55, u56, u57, u58, u59, u60, u61, u62, u63, u64, u65, u66, u67, u68, u69, u70, u71, u72, u73, u74, u75, u76, u77, u78, u79, u80, u81, u82, u83, u84, u85, u86, u87, u88, u89, u90, u91, u92, u93, u94, u95, u96, u97, u98, u99, u100, u101, u102, u103, u104, u105, u106, u107, u108, u109, u110, u111, u112, u113, u114, u115, u116, u117, u118, u119, u120, u121, u122, u123, u124, u125, u126, u127, u128, u129, u130, u131, u132, u133, u134, u135, u136, u137, u138, u139, u140, u141, u142, u143, u144, u145, u146, u147, u148, u149, u150, u151, u152, u153, u154, u155, u156, u157, u158, u159, u160, u161, u162, u163, u164, u165, u166, u167, u168, u169, u170, u171, u172, u173, u174, u175, u176, u177, u178, u179, u180, u181, u182, u183, u184, u185, u186, u187, u188, u189, u190, u191, u192, u193, u194, u195, u196, u197, u198, u199, u200, u201, u202, u203, u204, u205, u206, u207, u208, u209, u210, u211, u212, u213, u214, u215, u216, u217, u218, u219], []⟩ w1 := by
  have mixed := L.mixed; have t0 := L.t0; have a0 := L.a0; have z0 := L.z0; have v0 := L.v0; have t3 := L.t3; have a3 := L.a3; have z3 := L.z3; have v3 := L.v3; have t4 := L.t4; have a4 := L.a4; have z4 := L.z4; have v4 := L.v4; have t85 := L.t85; have a85 := L.a85; have z85 := L.z85; have v85 := L.v85; have t43 := L.t43; have a43 := L.a43; have z43 := L.z43; have v43 := L.v43; have t69 := L.t69; have a69 := L.a69; have z69 := L.z69; have v69 := L.v69; have aE := L.aE; have zE := L.zE
  have u43 := run_underlying L.t43
  conv => arg 2; whnf
  conv => arg 4; zeta
  go_upto_region 41 with (fail)
  go_cut [199] (fun vc wx => (∃ c : Bool, vc = .bool c ∧ Hid (c = decide (a < s ∧ s < mid))) ∧ w1 = wx)
  case first =>
    by_cases q1 : a < s
    · have q1z : (a : Int) < (s : Int) := by omega
      by_cases q2 : s < mid
      · have q2z : (s : Int) < (mid : Int) := by omega
        go_wp2_with fail
        go_meet
        exact ⟨⟨true, rfl, Lib.hid (decide_eq_true (show a < s ∧ s < mid from ⟨q1, q2⟩)).symm⟩, rfl⟩
      · have q2z : ¬ (s : Int) < (mid : Int) := by omega
        go_wp2_with fail
        go_meet
        exact ⟨⟨false, rfl, Lib.hid (decide_eq_false (show ¬ (a < s ∧ s < mid) from fun h => q2 h.2)).symm⟩, rfl⟩
    · have q1z : ¬ (a : Int) < (s : Int) := by omega
      go_wp2_with fail
      go_meet
      exact ⟨⟨false, rfl, Lib.hid (decide_eq_false (show ¬ (a < s ∧ s < mid) from fun h => q1 h.1)).symm⟩, rfl⟩
  case rest =>
  obtain ⟨⟨cc2, rfl, HCCcc2⟩, rfl⟩ := hcut
  go_upto_if 199 with (fail)
  go_cut [] (fun wx => ∃ d2 : Array α, Hid (Hlf enc k cf tg w blk off a mid d1 d2 wx))
  case first =>
    cases cc2
    · have q : ¬ (a < s ∧ s < mid) := of_decide_eq_false HCCcc2.out.symm
      have HX' : Hid (Hlf enc k cf tg w blk off a mid d1 d1 w1) := Lib.hid ⟨permIn_refl d1 a mid, HTD.out.h2 q, HT.out.sw⟩
      clear q
      go_wp2_with fail
      go_meet
      exact ⟨d1, HX'⟩
    · have q : a < s ∧ s < mid := of_decide_eq_true HCCcc2.out.symm
      have hr := IH.out a s mid d1 _ (by omega) HT.out.size HT.out.sw (HTD.out.h1 q.1 q.2)
      clear q
      go_wp2_with fail
      go_at_fn 209
      refine hr.mono ?_
      rintro e' w' ⟨rfl, d2, g1, g2, g3⟩
      go_wp2_with fail
      go_meet
      exact ⟨d2, Lib.hid ⟨g1, g2, HT.out.sw.trans g3⟩⟩
  case rest =>
  obtain ⟨d2, HD2⟩ := hcut
  rename World => w2
  go_upto_region 43 with (fail)
  go_cut [213] (fun vc wx => (∃ c : Bool, vc = .bool c ∧ Hid (c = decide (mid < e ∧ e < b))) ∧ w2 = wx)
  case first =>
    by_cases q1 : mid < e
    · have q1z : (mid : Int) < (e : Int) := by omega
      by_cases q2 : e < b
      · have q2z : (e : Int) < (b : Int) := by omega
        go_wp2_with fail
        go_meet
        exact ⟨⟨true, rfl, Lib.hid (decide_eq_true (show mid < e ∧ e < b from ⟨q1, q2⟩)).symm⟩, rfl⟩
      · have q2z : ¬ (e : Int) < (b : Int) := by omega
        go_wp2_with fail
        go_meet
        exact ⟨⟨false, rfl, Lib.hid (decide_eq_false (show ¬ (mid < e ∧ e < b) from fun h => q2 h.2)).symm⟩, rfl⟩
    · have q1z : ¬ (mid : Int) < (e : Int) := by omega
      go_wp2_with fail
      go_meet
      exact ⟨⟨false, rfl, Lib.hid (decide_eq_false (show ¬ (mid < e ∧ e < b) from fun h => q1 h.1)).symm⟩, rfl⟩
  case rest =>
  obtain ⟨⟨cc3, rfl, HCCcc3⟩, rfl⟩ := hcut
  have hsz2 : d2.size = d.size := HD2.out.perm.1.trans HT.out.size
  have HSZ2 := Lib.hid hsz2
  clear hsz2
  cases cc3
  · have q : ¬ (mid < e ∧ e < b) := of_decide_eq_false HCCcc3.out.symm
    have hr2 : Stb.Rise cf tg mid b d2 := (HTD.out.h4 q).congr fun x g1 _ => HD2.out.perm.2.1 x (Or.inr g1)
    have HR2 := Lib.hid hr2
    clear q hr2
    go_wp2_with fail
    go_end0
    have ht := HT.out
    have hd := HD2.out
    have hts := ht.size
    refine ⟨rfl, d2, permIn_trans _ _ _ a b ht.perm (permIn_mono _ _ a mid a b (Nat.le_refl _) (by omega) (by omega) hd.perm), ?_, hd.sw⟩
    exact Stb.rise_both a mid b (by omega) (by omega) HTD.out.h5 hd.perm hd.rise (permIn_refl d2 mid b) HR2.out
  · have q : mid < e ∧ e < b := of_decide_eq_true HCCcc3.out.symm
    have hr := IH.out mid e b d2 _ (by omega) HSZ2.out HD2.out.sw (mrg_congr (HTD.out.h3 q.1 q.2) HD2.out.perm.1 (fun x g1 _ => HD2.out.perm.2.1 x (Or.inr g1)))
    clear q
    go_wp2_with fail
    go_at_fn 209
    refine hr.mono ?_
    rintro e' w' ⟨rfl, d3, g1, g2, g3⟩
    go_wp2_with fail
    go_end0
    have ht := HT.out
    have hd := HD2.out
    have hts := ht.size
    refine ⟨rfl, d3, permIn_trans _ _ _ a b ht.perm (permIn_trans _ _ _ a b (permIn_mono _ _ a mid a b (Nat.le_refl _) (by omega) (by omega) hd.perm) (permIn_mono _ _ mid b a b (by omega) (Nat.le_refl _) (by have := HSZ2.out; omega) g1)), ?_, hd.sw.trans g3⟩
    exact Stb.rise_both a mid b (by omega) (by omega) HTD.out.h5 hd.perm hd.rise g1 g2
end Go.Proofs.YtckammgnmgkieaaGreat

