/-
  The check of a zone, plainly: CheckStands.
-/
import Derived.Test.YtckammgnmgkieaaMQ36
import Derived.Test.YtckammgnmgkieaaMQ17
import Derived.Deep.RegionHeld3
import Derived.Test.YtckammgnmgkieaaMQ35
import Derived.Test.YtckammgnmgkieaaMQ31
import Derived.Test.YtckammgnmgkieaaMQ10
import Derived.Test.YtckammgnmgkieaaMQ29
namespace Go.Proofs.Ytckammgnmgkieaa
set_option maxRecDepth 20000
open Go.RowKit
set_option linter.unusedVariables false
set_option linter.unusedSimpArgs false
structure Fl where
  kind : Int
  owner : Nm
  ty : Int
def compareF (a b : Fl) : Int := orI (compareN a.owner b.owner) (orI (cmpI a.kind b.kind) (cmpI a.ty b.ty))
theorem cord_compareF : Stb.COrd compareF := cord_orI (cord_on cord_compareN Fl.owner) (cord_orI (cord_on cord_cmpI Fl.kind) (cord_on cord_cmpI Fl.ty))
theorem orI_zero {a b : Int} : orI a b = 0 ↔ a = 0 ∧ b = 0 := by
  unfold orI
  by_cases h : a = 0
  · rw [if_pos h]; simp [h]
  · rw [if_neg h]; simp [h]
theorem compareF_zero {a b : Fl} : compareF a b = 0 ↔ compareN a.owner b.owner = 0 ∧ a.kind = b.kind ∧ a.ty = b.ty := by
  unfold compareF
  rw [orI_zero, orI_zero, cmpI_zero, cmpI_zero]
/-- The flaws ahead of the sort: those of the origin and those of the sets, K telling a set's kinds. -/
def flawsM (at0 : List Fl) (K : St → List Int) (ss : List St) : List Fl := at0 ++ ss.flatMap fun s => (K s).map fun k => ⟨k, s.owner, s.ty⟩
theorem flaws_apart {at0 : List Fl} {K : St → List Int} {ss : List St} (h0 : at0.Pairwise fun a b => compareF a b ≠ 0) (hk : ∀ a ∈ at0, a.kind < 4) (hK : ∀ s ∈ ss, (K s).Pairwise (· < ·) ∧ ∀ k ∈ K s, 4 ≤ k) (hs : ss.Pairwise fun a b => keyS a b < 0) :
    (flawsM at0 K ss).Pairwise fun a b => compareF a b ≠ 0 := by
  unfold flawsM
  rw [List.pairwise_append]
  refine ⟨h0, ?_, ?_⟩
  · rw [List.pairwise_flatMap]
    refine ⟨fun s hs2 => ?_, ?_⟩
    · rw [List.pairwise_map]
      refine (hK s hs2).1.imp fun {a b} hab => ?_
      intro e
      have := (compareF_zero.1 e).2.1
      simp only at this; omega
    · refine hs.imp fun {a b} hab => ?_
      intro x hx y hy e
      rw [List.mem_map] at hx hy
      obtain ⟨k, _, rfl⟩ := hx
      obtain ⟨j, _, rfl⟩ := hy
      have h := compareF_zero.1 e
      simp only at h
      unfold keyS at hab
      have : orI (compareN a.owner b.owner) (cmpI a.ty b.ty) = 0 := by rw [orI_zero, cmpI_zero]; exact ⟨h.1, h.2.2⟩
      omega
  · intro a ha b hb e
    rw [List.mem_flatMap] at hb
    obtain ⟨s, hs2, hb⟩ := hb
    rw [List.mem_map] at hb
    obtain ⟨k, hk2, rfl⟩ := hb
    have h1 := hk a ha
    have h2 := (hK s hs2).2 k hk2
    have := (compareF_zero.1 e).2.1
    simp only at this; omega
theorem apart_perm {l m : List Fl} (h : l.Perm m) (hm : m.Pairwise fun a b => compareF a b ≠ 0) : l.Pairwise fun a b => compareF a b ≠ 0 :=
  (h.pairwise_iff (fun {a b} hab e => hab (by have := cord_compareF.anti a b; omega))).2 hm
theorem flaws_stand {l m : List Fl} (h : l.Perm m) (hm : m.Pairwise fun a b => compareF a b ≠ 0) (hs : l.Pairwise fun a b => compareF a b ≤ 0) : l.Pairwise fun a b => compareF a b < 0 := by
  have h1 := apart_perm h hm
  exact (h1.and hs).imp fun {a b} ⟨x, y⟩ => by omega
end Go.Proofs.Ytckammgnmgkieaa

/-
  check.Compare: flaws in memory, their order.
-/
namespace Go.Proofs.Ytckammgnmgkieaa
set_option maxRecDepth 20000
open Go.RowKit Go.Shelf
set_option maxRecDepth 20000
set_option linter.unusedVariables false
set_option linter.unusedSimpArgs false
/-- A flaw in memory: its three cells. -/
def FlAt (W : World) (cs : List Value) (f : Fl) : Prop := ∃ vo, cs = [.int .i64 f.kind, vo, .int .i64 f.ty] ∧ NmAt W vo f.owner
theorem FlAt.below {W W' : World} {cs : List Value} {f : Fl} (h : FlAt W cs f) (hb : Below W.heap.size W W') : FlAt W' cs f := by
  obtain ⟨vo, e, h1⟩ := h
  exact ⟨vo, e, h1.below hb⟩
theorem cmp_Or3 (W : World) (a b c : Int) :
    Calls Try.prog 24 #[.slice (some ⟨W.heap.size, 0, none⟩) 3 3] (W.alloc (.cells #[.int .i64 a, .int .i64 b, .int .i64 c] 3)) fun e w' => e = .returned (.int .i64 (orI a (orI b c))) ∧ w' = W.alloc (.cells #[.int .i64 a, .int .i64 b, .int .i64 c] 3) := by
  refine (cmp_Or W.heap.size 3 [a, b, c] _ (by simp) ?_).mono ?_
  · intro j h
    have e := cells_new W [.int .i64 a, .int .i64 b, .int .i64 c] 3 j (.int .i64 ([a, b, c][j])) (by
      have : ([.int .i64 a, .int .i64 b, .int .i64 c] : List Value) = [a, b, c].map (.int .i64) := rfl
      rw [this, List.getElem?_map, List.getElem?_eq_getElem h]; rfl)
    rw [Go.WideShapes.add_plain, Nat.zero_add] at e
    exact e
  · rintro e w' ⟨rfl, rfl⟩
    refine ⟨?_, rfl⟩
    have : (if c = 0 then 0 else c) = c := by split <;> omega
    simp only [firstNZ, orI, this]
set_option maxRecDepth 100000 in
set_option maxHeartbeats 8000000 in
theorem check_Compare (cs cs' : List Value) (a b : Fl) (w : World) (hA : FlAt w cs a) (hU : FlAt w cs' b) (hk : NmOK a.owner) (hk2 : NmOK b.owner) :
    Calls Try.prog 10 #[.agg cs.toArray, .agg cs'.toArray] w fun e w' => e = .returned (.int .i64 (compareF a b)) ∧ Below w.heap.size w w' := by
  obtain ⟨vo, rfl, a1⟩ := hA
  obtain ⟨uo, rfl, b1⟩ := hU
  have hL1 := fun W (hB : Below w.heap.size w W) => kn_NCompare vo uo a.owner b.owner _ rfl W (a1.below hB) (b1.below hB) hk hk2
  have hR := Lib.hid (show compareF a b = orI (compareN a.owner b.owner) (orI (cmpI a.kind b.kind) (cmpI a.ty b.ty)) from rfl)
  generalize compareF a b = r at *
  generalize compareN a.owner b.owner = q1 at *
  have hL0 := fun W => cmp_int a.kind b.kind W
  have hL2 := fun W => cmp_int a.ty b.ty W
  generalize cmpI a.kind b.kind = q0 at *
  generalize cmpI a.ty b.ty = q2 at *
  generalize a.kind = x at *
  generalize b.kind = y at *
  generalize a.ty = x2 at *
  generalize b.ty = y2 at *
  have hO := fun W => cmp_Or3 W q1 q0 q2
  have hS0 : ∀ W0, ((w.alloc (.cells #[.int .i64 x, vo, .int .i64 x2] 43)).alloc (.cells #[.int .i64 y, uo, .int .i64 y2] 43)) = W0 → W0.cell? ⟨w.heap.size, 0, none⟩ = some (.int .i64 x) ∧ W0.cell? ⟨w.heap.size, 1, none⟩ = some vo ∧ W0.cell? ⟨w.heap.size, 2, none⟩ = some (.int .i64 x2) ∧ W0.cell? ⟨w.heap.size + 1, 0, none⟩ = some (.int .i64 y) ∧ W0.cell? ⟨w.heap.size + 1, 1, none⟩ = some uo ∧ W0.cell? ⟨w.heap.size + 1, 2, none⟩ = some (.int .i64 y2) ∧ Below w.heap.size w W0 ∧ w.heap.size + 2 ≤ W0.heap.size := by
    rintro W0 rfl
    have n1 := new_at w [.int .i64 x, vo, .int .i64 x2] 43
    have n2 := new_at (w.alloc (.cells #[.int .i64 x, vo, .int .i64 x2] 43)) [.int .i64 y, uo, .int .i64 y2] 43
    rw [World.size_alloc] at n2
    have hb : Below (w.heap.size + 1) (w.alloc (.cells #[.int .i64 x, vo, .int .i64 x2] 43)) ((w.alloc (.cells #[.int .i64 x, vo, .int .i64 x2] 43)).alloc (.cells #[.int .i64 y, uo, .int .i64 y2] 43)) := (Below.refl _ _).alloc (by simp) _
    have hlt : w.heap.size < w.heap.size + 1 := Nat.lt_succ_self _
    refine ⟨(hb.cell hlt).trans (n1 0 _ rfl), (hb.cell hlt).trans (n1 1 _ rfl), (hb.cell hlt).trans (n1 2 _ rfl), n2 0 _ rfl, n2 1 _ rfl, n2 2 _ rfl, ((Below.refl _ w).alloc (Nat.le_refl _) _).alloc (by simp) _, by simp⟩
  have HS0 := Lib.hid hS0
  clear hS0 a1 b1 hk hk2
  go_enter Try.func10, Try.ntmps10
  go_wp2
  generalize hW0 : ((w.alloc (.cells #[.int .i64 x, vo, .int .i64 x2] 43)).alloc (.cells #[.int .i64 y, uo, .int .i64 y2] 43)) = W0
  have hS1 := HS0.out W0 hW0
  clear hW0
  have KD : ∀ W W' : World, (W.cell? ⟨w.heap.size, 0, none⟩ = some (.int .i64 x) ∧ W.cell? ⟨w.heap.size, 1, none⟩ = some vo ∧ W.cell? ⟨w.heap.size, 2, none⟩ = some (.int .i64 x2) ∧ W.cell? ⟨w.heap.size + 1, 0, none⟩ = some (.int .i64 y) ∧ W.cell? ⟨w.heap.size + 1, 1, none⟩ = some uo ∧ W.cell? ⟨w.heap.size + 1, 2, none⟩ = some (.int .i64 y2) ∧ Below w.heap.size w W ∧ w.heap.size + 2 ≤ W.heap.size) → Below (w.heap.size + 2) W W' → (W'.cell? ⟨w.heap.size, 0, none⟩ = some (.int .i64 x) ∧ W'.cell? ⟨w.heap.size, 1, none⟩ = some vo ∧ W'.cell? ⟨w.heap.size, 2, none⟩ = some (.int .i64 x2) ∧ W'.cell? ⟨w.heap.size + 1, 0, none⟩ = some (.int .i64 y) ∧ W'.cell? ⟨w.heap.size + 1, 1, none⟩ = some uo ∧ W'.cell? ⟨w.heap.size + 1, 2, none⟩ = some (.int .i64 y2) ∧ Below w.heap.size w W' ∧ w.heap.size + 2 ≤ W'.heap.size) := by
    rintro W W' ⟨a0, a1, a2, b0, b1, b2, hw, hsz⟩ hb
    have hA : w.heap.size < w.heap.size + 2 := by omega
    have hB : w.heap.size + 1 < w.heap.size + 2 := by omega
    exact ⟨(hb.cell hA).trans a0, (hb.cell hA).trans a1, (hb.cell hA).trans a2, (hb.cell hB).trans b0, (hb.cell hB).trans b1, (hb.cell hB).trans b2, hw.trans (hb.mono (by omega)), Nat.le_trans hsz hb.size⟩
  have KS := Lib.hid (fun (W W' : World) (h : W.cell? ⟨w.heap.size, 0, none⟩ = some (.int .i64 x) ∧ W.cell? ⟨w.heap.size, 1, none⟩ = some vo ∧ W.cell? ⟨w.heap.size, 2, none⟩ = some (.int .i64 x2) ∧ W.cell? ⟨w.heap.size + 1, 0, none⟩ = some (.int .i64 y) ∧ W.cell? ⟨w.heap.size + 1, 1, none⟩ = some uo ∧ W.cell? ⟨w.heap.size + 1, 2, none⟩ = some (.int .i64 y2) ∧ Below w.heap.size w W ∧ w.heap.size + 2 ≤ W.heap.size) (hb : Below W.heap.size W W') => KD W W' h (hb.mono h.2.2.2.2.2.2.2))
  have KA := Lib.hid (fun (W : World) (o : Obj) (h : W.cell? ⟨w.heap.size, 0, none⟩ = some (.int .i64 x) ∧ W.cell? ⟨w.heap.size, 1, none⟩ = some vo ∧ W.cell? ⟨w.heap.size, 2, none⟩ = some (.int .i64 x2) ∧ W.cell? ⟨w.heap.size + 1, 0, none⟩ = some (.int .i64 y) ∧ W.cell? ⟨w.heap.size + 1, 1, none⟩ = some uo ∧ W.cell? ⟨w.heap.size + 1, 2, none⟩ = some (.int .i64 y2) ∧ Below w.heap.size w W ∧ w.heap.size + 2 ≤ W.heap.size) => KD W (W.alloc o) h ((Below.refl _ W).alloc h.2.2.2.2.2.2.2 o))
  have KR := Lib.hid (fun (W : World) (h : W.cell? ⟨w.heap.size, 0, none⟩ = some (.int .i64 x) ∧ W.cell? ⟨w.heap.size, 1, none⟩ = some vo ∧ W.cell? ⟨w.heap.size, 2, none⟩ = some (.int .i64 x2) ∧ W.cell? ⟨w.heap.size + 1, 0, none⟩ = some (.int .i64 y) ∧ W.cell? ⟨w.heap.size + 1, 1, none⟩ = some uo ∧ W.cell? ⟨w.heap.size + 1, 2, none⟩ = some (.int .i64 y2) ∧ Below w.heap.size w W ∧ w.heap.size + 2 ≤ W.heap.size) => KD W W.drew h (below_drew1 (Below.refl _ W)))
  have HL1 := Lib.hid (fun (W : World) (h : W.cell? ⟨w.heap.size, 0, none⟩ = some (.int .i64 x) ∧ W.cell? ⟨w.heap.size, 1, none⟩ = some vo ∧ W.cell? ⟨w.heap.size, 2, none⟩ = some (.int .i64 x2) ∧ W.cell? ⟨w.heap.size + 1, 0, none⟩ = some (.int .i64 y) ∧ W.cell? ⟨w.heap.size + 1, 1, none⟩ = some uo ∧ W.cell? ⟨w.heap.size + 1, 2, none⟩ = some (.int .i64 y2) ∧ Below w.heap.size w W ∧ w.heap.size + 2 ≤ W.heap.size) => hL1 W h.2.2.2.2.2.2.1)
  have HL0 := Lib.hid hL0; have HL2 := Lib.hid hL2; have HO := Lib.hid hO
  clear KD hL1 hL0 hL2 hO HS0
  go_region_held3 (fun W' => W'.cell? ⟨w.heap.size, 0, none⟩ = some (.int .i64 x) ∧ W'.cell? ⟨w.heap.size, 1, none⟩ = some vo ∧ W'.cell? ⟨w.heap.size, 2, none⟩ = some (.int .i64 x2) ∧ W'.cell? ⟨w.heap.size + 1, 0, none⟩ = some (.int .i64 y) ∧ W'.cell? ⟨w.heap.size + 1, 1, none⟩ = some uo ∧ W'.cell? ⟨w.heap.size + 1, 2, none⟩ = some (.int .i64 y2) ∧ Below w.heap.size w W' ∧ w.heap.size + 2 ≤ W'.heap.size) (first | assumption | exact KR.out _ hS1 | exact KA.out _ _ (by assumption)) (first | ((with_reducible refine (HL0.out _).mono ?_); rintro e w2 ⟨rfl, rfl⟩) | ((with_reducible refine (HL2.out _).mono ?_); rintro e w2 ⟨rfl, rfl⟩) | ((with_reducible refine (HL1.out _ (by assumption)).mono ?_); rintro e w2 ⟨rfl, hb2⟩; have hS2 := KS.out _ _ (by assumption) hb2) | ((with_reducible refine (HO.out _).mono ?_); rintro e w2 ⟨rfl, rfl⟩))
  rename_i hSe
  go_wp2
  go_ret
  exact ⟨by rw [hR.out]; rfl, hSe.2.2.2.2.2.2.1⟩
end Go.Proofs.Ytckammgnmgkieaa

/-
  check.Zone's sort: flaws in their order.
-/
namespace Go.Proofs.Ytckammgnmgkieaa
set_option maxRecDepth 20000
open Go.RowKit Go.Shelf Go.Sort Go.Lib
open Stb (COrd Lx Rise)
set_option maxRecDepth 20000
set_option linter.unusedVariables false
set_option linter.unusedSimpArgs false
set_option linter.unusedSectionVars false
/-- Cells and the flaws that they read as, one by one. -/
def Fls' (W : World) (css : List (List Value)) (fs : List Fl) : Prop := css.length = fs.length ∧ ∀ i (h1 : i < css.length) (h2 : i < fs.length), FlAt W css[i] fs[i]
theorem Fls'.below {W W' : World} {css : List (List Value)} {fs : List Fl} (h : Fls' W css fs) (hb : Below W.heap.size W W') : Fls' W' css fs := ⟨h.1, fun i h1 h2 => (h.2 i h1 h2).below hb⟩
theorem FlAt.len {W : World} {cs : List Value} {f : Fl} (h : FlAt W cs f) : cs.length = 3 := by obtain ⟨vo, rfl, _⟩ := h; rfl
theorem FlAt.one {W : World} {cs : List Value} {f : Fl} (h : FlAt W cs f) : ∀ u ∈ cs, u.oneCell' = true := by
  obtain ⟨vo, rfl, h1⟩ := h
  intro u hu
  simp only [List.mem_cons, List.not_mem_nil, or_false] at hu
  rcases hu with rfl | rfl | rfl
  · rfl
  · exact (nmAt_sl.1 h1).one
  · rfl
theorem flAt_none (W : World) : FlAt W [.int .i64 0, .slice none 0 0, .int .i64 0] ⟨0, [], 0⟩ := ⟨_, rfl, nm_nil W⟩
/-- A flaw of the row: its cells, what they read as in w0, its place. -/
def FlT (w0 : World) : Type := { x : List Value × Fl × Nat // FlAt w0 x.1 x.2.1 ∧ NmOK x.2.1.owner }
instance (w0 : World) : Inhabited (FlT w0) := ⟨⟨(_, ⟨0, [], 0⟩, 0), flAt_none w0, ⟨Nat.zero_le _, by simp⟩⟩⟩
def FlT.cells {w0 : World} (x : FlT w0) : List Value := x.1.1
def FlT.fl {w0 : World} (x : FlT w0) : Fl := x.1.2.1
def FlT.tg {w0 : World} (x : FlT w0) : Nat := x.1.2.2
theorem taggedF (w0 : World) (css : List (List Value)) (fs : List Fl) (h : Fls' w0 css fs) (hOK : ∀ f ∈ fs, NmOK f.owner) : ∃ d : Array (FlT w0), d.toList.map FlT.cells = css ∧ d.toList.map FlT.fl = fs ∧ ∀ i, i < d.size → d[i]!.tg = i := by
  have hl := h.1
  let f : Fin css.length → FlT w0 := fun i => ⟨(css[i], fs[i.1]'(by have := i.2; omega), i.1), h.2 i.1 i.2 (by have := i.2; omega), hOK _ (List.getElem_mem _)⟩
  refine ⟨Array.ofFn f, ?_, ?_, fun i hi => ?_⟩
  · apply List.ext_getElem
    · simp
    · intro i h1 h2
      rw [List.getElem_map, Array.getElem_toList, Array.getElem_ofFn]; rfl
  · apply List.ext_getElem
    · simp; omega
    · intro i h1 h2
      rw [List.getElem_map, Array.getElem_toList, Array.getElem_ofFn]; rfl
  · have hi' : i < css.length := by simpa using hi
    rw [getElem!_pos _ i hi, Array.getElem_ofFn]
    rfl
def cfF {α : Type} (fl : α → Fl) (x y : α) : Int := compareF (fl x) (fl y)
theorem cord_cfF {α : Type} (fl : α → Fl) : COrd (cfF fl) := cord_on cord_compareF fl
theorem sorted_fl {α : Type} [Inhabited α] (fl : α → Fl) (tg : α → Nat) {d d' : Array α} (hp : PermIn 0 d.size d d') (hr : Rise (cfF fl) tg 0 d.size d') : (d'.toList.map fl).Perm (d.toList.map fl) ∧ (d'.toList.map fl).Pairwise fun a b => compareF a b ≤ 0 := by
  obtain ⟨hs, _, h1⟩ := hp
  rw [extract_all d' d.size hs, extract_all d d.size rfl] at h1
  refine ⟨(List.Perm.map fl (by simpa using h1)), ?_⟩
  rw [List.pairwise_map]
  refine List.pairwise_iff_getElem.2 ?_
  intro i j hi hj hij
  have hi' : i < d'.size := by simpa using hi
  have hj' : j < d'.size := by simpa using hj
  have := hr i j (Nat.zero_le _) hij (by omega)
  rw [getElem!_pos _ i hi', getElem!_pos _ j hj'] at this
  simp only [Array.getElem_toList]
  unfold Lx cfF at this
  omega
theorem sfun_fl : Fls.SFun Try.prog where
  fs := Try.func89
  fr := Try.func78
  fi := Try.func60
  fm := Try.func61
  ft := Try.func42
  es := enters_of Try.func89 (by kernel_rfl) rfl
  er := enters_of Try.func78 (by kernel_rfl) rfl
  ei := enters_of Try.func60 (by kernel_rfl) rfl
  em := enters_of Try.func61 (by kernel_rfl) rfl


theorem cmp_hereF (w0 w : World) (g : Nat) (hb : Below w0.heap.size w0 w) (hle : w0.heap.size ≤ g) : Fls.CmpB Try.prog 10 #[] (FlT.cells (w0 := w0)) (cfF FlT.fl) w g where
  eg := enters_of Try.func10 (by kernel_rfl) rfl
  call := fun W hW x y => by
    have hB := below_grown hb hW hle
    exact check_Compare _ _ _ _ W (x.2.1.below hB) (y.2.1.below hB) x.2.2 y.2.2

set_option maxHeartbeats 1000000 in
theorem insertion_nonF (a : Option Addr) (c : Nat) (fv : Value) (w : World) : Calls Try.prog 60 #[.slice a 0 c, .int .i64 0, .int .i64 0, fv] w fun e w' => e = .returned (.tuple #[]) ∧ w = w' := by
  go_enter Try.func60, Try.ntmps60
  go_wp2
  refine wp_loop_rounds 1 ?_
  rw [rounds_succ]
  go_wp2
  go_end0
  exact ⟨rfl, rfl⟩
set_option maxHeartbeats 2000000 in
theorem stable_nonF (a : Option Addr) (c : Nat) (fv : Value) (w : World) : Calls Try.prog 42 #[.slice a 0 c, .int .i64 0, fv] w fun e w' => e = .returned (.tuple #[]) ∧ w = w' := by
  go_enter Try.func42, Try.ntmps42
  go_wp2
  refine wp_loop_rounds 1 ?_
  rw [rounds_succ]
  go_wp2_with (go_at_call 60; refine (insertion_nonF _ _ _ _).mono ?_; rintro e w' ⟨rfl, rfl⟩)
  refine wp_loop_rounds 1 ?_
  rw [rounds_succ]
  go_wp2
  go_end0
  exact ⟨rfl, rfl⟩


/-- What sorting leaves of a row of the call's own. -/
def SrtPostF (w0 wb : World) (v : Value) (n : Nat) (fs : List Fl) (e : Ending) (w' : World) : Prop := e = .returned (.tuple #[]) ∧ ∃ css' fs', SlK w' v css' ∧ css'.length = n ∧ Fls' w0 css' fs' ∧ fs'.Perm fs ∧ (fs'.Pairwise fun a b => compareF a b ≤ 0) ∧ Below wb.heap.size wb w'
set_option maxHeartbeats 2000000 in
theorem stable_fls (w0 wb : World) (hb0 : Below w0.heap.size w0 wb) (v : Value) (css : List (List Value)) (fs : List Fl) (w : World) (hb : Below wb.heap.size wb w) (hR : Fls' w0 css fs) (hOK : ∀ f ∈ fs, NmOK f.owner) (hown : OwnC 3 43 w wb.heap.size v css) (hl : css.length ≤ 1000000000000) :
    Calls Try.prog 42 #[v, .int .i64 css.length, .func (.func 10) #[] #[]] w (SrtPostF w0 wb v css.length fs) := by
  have hck : ∀ cs ∈ css, cs.length = 3 := fun cs hc => by
    obtain ⟨i, hi, rfl⟩ := List.mem_iff_getElem.1 hc
    exact (hR.2 i hi (by have := hR.1; omega)).len
  by_cases h0 : css = []
  · subst h0
    have hr0 : fs = [] := List.eq_nil_of_length_eq_zero hR.1.symm
    subst hr0
    obtain ⟨a, c, rfl⟩ := hown.shape
    refine (stable_nonF a c _ w).mono ?_
    rintro e w' ⟨rfl, rfl⟩
    exact ⟨rfl, [], [], SlK.of_own hown hck, rfl, ⟨rfl, fun i h1 => absurd h1 (Nat.not_lt_zero _)⟩, List.Perm.refl _, List.Pairwise.nil, hb⟩
  · obtain ⟨d, hd1, hd2, hd3⟩ := taggedF w0 css fs hR hOK
    have hn : css.length = d.size := by rw [← hd1]; simp
    rcases id hown.2 with ⟨e, h00⟩ | ⟨g, cap, cur, rfl, hbg, hg, hcap, hm, hsz, htk⟩
    · exact absurd (List.eq_nil_of_length_eq_zero h00) h0
    have hH : HoldsK FlT.cells 3 w g 0 d := holdsK_of_own FlT.cells 3 (fun x => x.2.1.len) hown d hd1
    have hlt : g < w.heap.size := (Array.getElem?_eq_some_iff.1 hg).1
    have hc := Fls.sort_stable Fls.slay_here sfun_fl FlT.cells (fun x => x.2.1.len) (fun x => x.2.1.one) (cfF FlT.fl) FlT.tg (cord_cfF _) 10 #[] g 0 cap d w (cmp_hereF w0 w g (hb0.trans (hb.mono hb0.size)) (Nat.le_trans hb0.size hbg)) hH hlt hd3 (by omega)
    rw [← hn] at hc
    refine hc.mono ?_
    rintro e w' ⟨rfl, d', hp, hr, hs⟩
    have hsz' : d'.size = d.size := hp.1
    obtain ⟨hp2, hs2⟩ := sorted_fl FlT.fl FlT.tg hp hr
    rw [hd2] at hp2
    refine ⟨rfl, d'.toList.map FlT.cells, d'.toList.map FlT.fl, slK_of_holds FlT.cells 3 (fun x => x.2.1.len) d' hs.row (by omega) hcap hs.lt', by simp; omega, ⟨by simp, fun i h1 h2 => ?_⟩, hp2, hs2, below_grown hb hs.rest hbg⟩
    simp only [List.getElem_map]
    exact (d'.toList[i]'(by simpa using h1)).2.1

set_option maxHeartbeats 2000000 in
theorem sort_funcF (w0 wb : World) (hb0 : Below w0.heap.size w0 wb) (v : Value) (css : List (List Value)) (fs : List Fl) (w : World) (hb : Below wb.heap.size wb w) (hR : Fls' w0 css fs) (hOK : ∀ f ∈ fs, NmOK f.owner) (hown : OwnC 3 43 w wb.heap.size v css) (hl : css.length ≤ 1000000000000) :
    Calls Try.prog 22 #[v, .func (.func 10) #[] #[]] w (SrtPostF w0 wb v css.length fs) := by
  have hc := stable_fls w0 wb hb0 v css fs w hb hR hOK hown hl
  obtain ⟨a, c, rfl⟩ := hown.shape
  clear hR hOK hown hb hb0
  obtain ⟨n, hn⟩ : ∃ n, css.length = n := ⟨_, rfl⟩
  rw [hn] at hc hl ⊢
  clear hn
  go_enter Try.func22, Try.ntmps22
  go_wp2_with fail
  refine hc.mono ?_
  rintro e w' ⟨rfl, css', h⟩
  go_wp2
  go_end0
  exact ⟨rfl, css', h⟩

end Go.Proofs.Ytckammgnmgkieaa

/-
  check.Word; a view's covers.
-/
namespace Go.Proofs.Ytckammgnmgkieaa
set_option maxRecDepth 20000
open Go.RowKit Go.Shelf
set_option maxRecDepth 20000
set_option linter.unusedVariables false
set_option linter.unusedSimpArgs false
def wordF (k : Int) : ByteArray :=
  if k = 1 then ⟨#[110, 111, 115, 111, 97]⟩ else
  if k = 2 then ⟨#[109, 97, 110, 121, 115, 111, 97]⟩ else
  if k = 3 then ⟨#[110, 111, 110, 115]⟩ else
  if k = 4 then ⟨#[115, 116, 114, 97, 110, 103, 101]⟩ else
  if k = 5 then ⟨#[109, 105, 120, 101, 100]⟩ else
  if k = 6 then ⟨#[109, 97, 110, 121, 110, 97, 109, 101]⟩ else
  if k = 7 then ⟨#[104, 105, 100, 100, 101, 110]⟩ else
  if k = 8 then ⟨#[99, 111, 118, 101, 114, 101, 100]⟩ else
  if k = 9 then ⟨#[119, 105, 108, 100, 110, 115]⟩ else ⟨#[]⟩
set_option maxHeartbeats 4000000 in
theorem check_Word (k : Int) (w : World) : Calls Try.prog 11 #[.int .i64 k] w fun e w' => e = .returned (.string (wordF k)) ∧ w = w' := by
  by_cases h1 : k = 1
  · subst h1
    go_enter Try.func11, Try.ntmps11
    go_wp2
    go_ret
    exact ⟨rfl, rfl⟩
  by_cases h2 : k = 2
  · subst h2
    go_enter Try.func11, Try.ntmps11
    go_wp2
    go_ret
    exact ⟨rfl, rfl⟩
  by_cases h3 : k = 3
  · subst h3
    go_enter Try.func11, Try.ntmps11
    go_wp2
    go_ret
    exact ⟨rfl, rfl⟩
  by_cases h4 : k = 4
  · subst h4
    go_enter Try.func11, Try.ntmps11
    go_wp2
    go_ret
    exact ⟨rfl, rfl⟩
  by_cases h5 : k = 5
  · subst h5
    go_enter Try.func11, Try.ntmps11
    go_wp2
    go_ret
    exact ⟨rfl, rfl⟩
  by_cases h6 : k = 6
  · subst h6
    go_enter Try.func11, Try.ntmps11
    go_wp2
    go_ret
    exact ⟨rfl, rfl⟩
  by_cases h7 : k = 7
  · subst h7
    go_enter Try.func11, Try.ntmps11
    go_wp2
    go_ret
    exact ⟨rfl, rfl⟩
  by_cases h8 : k = 8
  · subst h8
    go_enter Try.func11, Try.ntmps11
    go_wp2
    go_ret
    exact ⟨rfl, rfl⟩
  by_cases h9 : k = 9
  · subst h9
    go_enter Try.func11, Try.ntmps11
    go_wp2
    go_ret
    exact ⟨rfl, rfl⟩
  have HW : Hid (wordF k = ⟨#[]⟩) := Lib.hid (by unfold wordF; rw [if_neg h1, if_neg h2, if_neg h3, if_neg h4, if_neg h5, if_neg h6, if_neg h7, if_neg h8, if_neg h9])
  have e1 : (k == 1) = false := by simpa using h1
  have e2 : (k == 2) = false := by simpa using h2
  have e3 : (k == 3) = false := by simpa using h3
  have e4 : (k == 4) = false := by simpa using h4
  have e5 : (k == 5) = false := by simpa using h5
  have e6 : (k == 6) = false := by simpa using h6
  have e7 : (k == 7) = false := by simpa using h7
  have e8 : (k == 8) = false := by simpa using h8
  have e9 : (k == 9) = false := by simpa using h9
  go_enter Try.func11, Try.ntmps11
  go_wp2
  go_ret
  exact ⟨by rw [HW.out]; rfl, rfl⟩
end Go.Proofs.Ytckammgnmgkieaa

/-
  check.Zone's sort once more: the names may lie behind the row, if only a store into the row leaves them.
-/
namespace Go.Proofs.Ytckammgnmgkieaa
set_option maxRecDepth 20000
open Go.RowKit Go.Shelf Go.Sort Go.Lib
open Stb (COrd Lx Rise)
set_option maxRecDepth 20000
set_option linter.unusedVariables false
set_option linter.unusedSimpArgs false
set_option linter.unusedSectionVars false
theorem grownBy_me (w : World) (r : Option Nat) : w.grownBy w r := ⟨rfl, rfl, rfl, Nat.le_refl _, fun _ _ _ => rfl⟩
/-- A flaw of the row: its cells, what they read as however the row's block turns, its place. -/
def FlG (w : World) (g : Nat) : Type := { x : List Value × Fl × Nat // (∀ W, w.grownBy W (some g) → FlAt W x.1 x.2.1) ∧ NmOK x.2.1.owner }
instance (w : World) (g : Nat) : Inhabited (FlG w g) := ⟨⟨(_, ⟨0, [], 0⟩, 0), fun W _ => flAt_none W, ⟨Nat.zero_le _, by simp⟩⟩⟩
def FlG.cells {w : World} {g : Nat} (x : FlG w g) : List Value := x.1.1
def FlG.fl {w : World} {g : Nat} (x : FlG w g) : Fl := x.1.2.1
def FlG.tg {w : World} {g : Nat} (x : FlG w g) : Nat := x.1.2.2
theorem taggedG (w : World) (g : Nat) (css : List (List Value)) (fs : List Fl) (h : ∀ W, w.grownBy W (some g) → Fls' W css fs) (hl : css.length = fs.length) (hOK : ∀ f ∈ fs, NmOK f.owner) : ∃ d : Array (FlG w g), d.toList.map FlG.cells = css ∧ d.toList.map FlG.fl = fs ∧ ∀ i, i < d.size → d[i]!.tg = i := by
  let f : Fin css.length → FlG w g := fun i => ⟨(css[i], fs[i.1]'(by have := i.2; omega), i.1), fun W hW => (h W hW).2 i.1 i.2 (by have := i.2; omega), hOK _ (List.getElem_mem _)⟩
  refine ⟨Array.ofFn f, ?_, ?_, fun i hi => ?_⟩
  · apply List.ext_getElem
    · simp
    · intro i h1 h2
      rw [List.getElem_map, Array.getElem_toList, Array.getElem_ofFn]; rfl
  · apply List.ext_getElem
    · simp; omega
    · intro i h1 h2
      rw [List.getElem_map, Array.getElem_toList, Array.getElem_ofFn]; rfl
  · have hi' : i < css.length := by simpa using hi
    rw [getElem!_pos _ i hi, Array.getElem_ofFn]
    rfl

theorem FlG.len {w : World} {g : Nat} (x : FlG w g) : x.1.1.length = 3 := (x.2.1 w (grownBy_me w _)).len
theorem cmp_hereG (w : World) (g : Nat) : Fls.CmpB Try.prog 10 #[] (FlG.cells (w := w) (g := g)) (cfF FlG.fl) w g where
  eg := enters_of Try.func10 (by kernel_rfl) rfl
  call := fun W hW x y => check_Compare _ _ _ _ W (x.2.1 W hW) (y.2.1 W hW) x.2.2 y.2.2
/-- What sorting leaves. -/
def SrtPostG (w : World) (v : Value) (n : Nat) (fs : List Fl) (e : Ending) (w' : World) : Prop := e = .returned (.tuple #[]) ∧ ∃ css' fs', SlK w' v css' ∧ css'.length = n ∧ Fls' w' css' fs' ∧ fs'.Perm fs ∧ (fs'.Pairwise fun a b => compareF a b ≤ 0) ∧ w.grownBy w' v.ownBlock
set_option maxHeartbeats 2000000 in
theorem stable_flsG (v : Value) (css : List (List Value)) (fs : List Fl) (w : World) (base : Nat) (hR : ∀ W, w.grownBy W v.ownBlock → Fls' W css fs) (hOK : ∀ f ∈ fs, NmOK f.owner) (hown : OwnC 3 43 w base v css) (hl : css.length ≤ 1000000000000) :
    Calls Try.prog 42 #[v, .int .i64 css.length, .func (.func 10) #[] #[]] w (SrtPostG w v css.length fs) := by
  have hR0 := hR w (grownBy_me w _)
  have hck : ∀ cs ∈ css, cs.length = 3 := fun cs hc => by
    obtain ⟨i, hi, rfl⟩ := List.mem_iff_getElem.1 hc
    exact (hR0.2 i hi (by have := hR0.1; omega)).len
  by_cases h0 : css = []
  · subst h0
    have hr0 : fs = [] := List.eq_nil_of_length_eq_zero hR0.1.symm
    subst hr0
    obtain ⟨a, c, rfl⟩ := hown.shape
    refine (stable_nonF a c _ w).mono ?_
    rintro e w' ⟨rfl, rfl⟩
    exact ⟨rfl, [], [], SlK.of_own hown hck, rfl, ⟨rfl, fun i h1 => absurd h1 (Nat.not_lt_zero _)⟩, List.Perm.refl _, List.Pairwise.nil, grownBy_me w _⟩
  · rcases id hown.2 with ⟨e, h00⟩ | ⟨g, cap, cur, rfl, hbg, hg, hcap, hm, hsz, htk⟩
    · exact absurd (List.eq_nil_of_length_eq_zero h00) h0
    obtain ⟨d, hd1, hd2, hd3⟩ := taggedG w g css fs hR hR0.1 hOK
    have hn : css.length = d.size := by rw [← hd1]; simp
    have hH : HoldsK FlG.cells 3 w g 0 d := holdsK_of_own FlG.cells 3 (fun x => x.len) hown d hd1
    have hlt : g < w.heap.size := (Array.getElem?_eq_some_iff.1 hg).1
    have hc := Fls.sort_stable Fls.slay_here sfun_fl FlG.cells (fun x => x.len) (fun x => (x.2.1 w (grownBy_me w _)).one) (cfF FlG.fl) FlG.tg (cord_cfF _) 10 #[] g 0 cap d w (cmp_hereG w g) hH hlt hd3 (by omega)
    rw [← hn] at hc
    refine hc.mono ?_
    rintro e w' ⟨rfl, d', hp, hr, hs⟩
    have hsz' : d'.size = d.size := hp.1
    obtain ⟨hp2, hs2⟩ := sorted_fl FlG.fl FlG.tg hp hr
    rw [hd2] at hp2
    refine ⟨rfl, d'.toList.map FlG.cells, d'.toList.map FlG.fl, slK_of_holds FlG.cells 3 (fun x => x.len) d' hs.row (by omega) hcap hs.lt', by simp; omega, ⟨by simp, fun i h1 h2 => ?_⟩, hp2, hs2, hs.rest⟩
    simp only [List.getElem_map]
    exact (d'.toList[i]'(by simpa using h1)).2.1 w' hs.rest
set_option maxHeartbeats 2000000 in
theorem sort_funcG (v : Value) (css : List (List Value)) (fs : List Fl) (w : World) (base : Nat) (hR : ∀ W, w.grownBy W v.ownBlock → Fls' W css fs) (hOK : ∀ f ∈ fs, NmOK f.owner) (hown : OwnC 3 43 w base v css) (hl : css.length ≤ 1000000000000) :
    Calls Try.prog 22 #[v, .func (.func 10) #[] #[]] w (SrtPostG w v css.length fs) := by
  have hc := stable_flsG v css fs w base hR hOK hown hl
  obtain ⟨a, c, rfl⟩ := hown.shape
  clear hR hOK hown
  obtain ⟨n, hn⟩ : ∃ n, css.length = n := ⟨_, rfl⟩
  rw [hn] at hc hl ⊢
  clear hn
  go_enter Try.func22, Try.ntmps22
  go_wp2_with fail
  refine hc.mono ?_
  rintro e w' ⟨rfl, css', h⟩
  go_wp2
  go_end0
  exact ⟨rfl, css', h⟩
end Go.Proofs.Ytckammgnmgkieaa

/-
  rdata.Check.
-/
namespace Go.Proofs.Ytckammgnmgkieaa
set_option maxRecDepth 20000
open Go.RowKit Go.Shelf
set_option maxRecDepth 20000

theorem longT_not {l : Nm} {k : Nat} (hk : k < l.length) (h : 255 < l[k].length) : longT l = true := by
  unfold longT; rw [List.any_eq_true]; exact ⟨_, List.getElem_mem hk, by simpa using h⟩
theorem longT_snoc (l : Nm) (x : List UInt8) : longT (l ++ [x]) = (longT l || decide (255 < x.length)) := by simp [longT]
theorem headD_get (l : List Nat) (h : 0 < l.length) : l.headD 0 = l[0] := by
  cases l with
  | nil => simp at h
  | cons a r => rfl
def CheckPost (d : Dat) (w : World) (e : Ending) (w' : World) : Prop := e = .returned (.int .i64 (checkD d)) ∧ Below w.heap.size w w'
theorem check_fin {d : Dat} {w w' : World} {e : Ending} (er : Int) (h : checkD d = er) (he : e = .returned (.int .i64 er)) (hb : Below w.heap.size w w') : CheckPost d w e w' := by
  subst h; exact ⟨he, hb⟩
theorem checkD_type {d : Dat} (h : d.ty < 1 ∨ 65535 < d.ty) : checkD d = 6 := by unfold checkD; rw [if_pos h]
theorem checkD_count {d : Dat} (h : ¬ (d.ty < 1 ∨ 65535 < d.ty)) (h2 : countedM d = false) : checkD d = 2 := by unfold checkD; rw [if_neg h, if_pos h2]
theorem checkD_rest {d : Dat} (h : ¬ (d.ty < 1 ∨ 65535 < d.ty)) (h2 : countedM d = true) : checkD d = if checkNs d.names ≠ 0 then checkNs d.names else if d.ty = 15 ∧ 65535 < d.nums.headD 0 then 7 else if longT d.texts then 3 else if 1024 < d.raw.length then 3 else 0 := by
  unfold checkD; rw [if_neg h, if_neg (by rw [h2]; simp)]
end Go.Proofs.Ytckammgnmgkieaa

