/-
  The law's Few for data.
-/
import Derived.Test.YteppgeiejknhoaaMQ26
import Derived.Test.YteppgeiejknhoaaMQ16
import Derived.Test.YteppgeiejknhoaaMQ10
import Derived.Test.YteppgeiejknhoaaMQ37
import Derived.Test.YteppgeiejknhoaaMQ13
import Derived.Test.YteppgeiejknhoaaMQ17
import Derived.Shelf.SlSortFuncK.RowK2
import Derived.Shelf.SlicesQ.Reverse
import Derived.RegionCalls
import Derived.WalkKit
import Derived.Deep.LoopGhost
import Derived.Shelf.RegionOpenPlain
namespace Go.Proofs.Yteppgeiejknhoaa
set_option maxRecDepth 20000
open Go.RowKit Go.Shelf

def fewD (d : Dat) : Bool := decide (d.names.length ≤ 8 ∧ d.nums.length ≤ 12 ∧ d.texts.length ≤ 40 ∧ d.raw.length ≤ 1100) && (decide (∀ n ∈ d.names, fewN n = true) && decide (∀ x ∈ d.texts, x.length ≤ 300))
/-- An argument of a law. -/
def DatArg (W : World) (v : Value) (d : Dat) : Prop := DatAt W v d ∧ (-(2 ^ 63) ≤ d.ty ∧ d.ty < 2 ^ 63) ∧ (∀ n ∈ d.names, n.length ≤ maxLen ∧ ∀ x ∈ n, x.length ≤ maxLen) ∧ (∀ n ∈ d.nums, n < 2 ^ 32) ∧ (∀ x ∈ d.texts, x.length ≤ maxLen)

theorem fewD_ok {W : World} {v : Value} {d : Dat} (h : DatArg W v d) (hf : fewD d = true) : DatOK d := by
  simp only [fewD, Bool.and_eq_true, decide_eq_true_eq] at hf
  obtain ⟨⟨f1, f2, f3, f4⟩, f5, f6⟩ := hf
  exact ⟨h.2.1, by omega, fun n hn => fewN_ok (f5 n hn), by omega, h.2.2.2.1, ⟨by omega, fun x hx => by have := f6 x hx; omega⟩, by omega⟩
end Go.Proofs.Yteppgeiejknhoaa

/-
  Records in memory; rec.Compare, rec.Same.
-/
namespace Go.Proofs.Yteppgeiejknhoaa
set_option maxRecDepth 20000
open Go.RowKit Go.Shelf
set_option linter.unusedVariables false
set_option linter.unusedSimpArgs false

/-- These cells read as that record. -/
def RcAt (W : World) (cs : List Value) (r : Rc) : Prop :=
  ∃ vo vn vu vt vr, cs = [vo, .int .u32 (r.ttl : Int), .int .i64 r.data.ty, vn, vu, vt, vr] ∧ NmAt W vo r.owner ∧ DatAt W (.agg #[.int .i64 r.data.ty, vn, vu, vt, vr]) r.data
def RcOK (r : Rc) : Prop := NmOK r.owner ∧ r.ttl < 2 ^ 32 ∧ DatOK r.data
theorem RcAt.below {W W' : World} {cs : List Value} {r : Rc} (h : RcAt W cs r) (hb : Below W.heap.size W W') : RcAt W' cs r := by
  obtain ⟨vo, vn, vu, vt, vr, e, h1, h2⟩ := h
  exact ⟨vo, vn, vu, vt, vr, e, h1.below hb, h2.below hb⟩

set_option maxRecDepth 100000 in
set_option maxHeartbeats 4000000 in
theorem rec_Compare (cs cs' : List Value) (a b : Rc) (w : World) (hA : RcAt w cs a) (hU : RcAt w cs' b) (hk : RcOK a) (hk2 : RcOK b) :
    Calls Try.prog 61 #[.agg cs.toArray, .agg cs'.toArray] w fun e w' => e = .returned (.int .i64 (compareR a b)) ∧ Below w.heap.size w w' := by
  obtain ⟨vo, vn, vu, vt, vr, rfl, a1, a2⟩ := hA
  obtain ⟨uo, un, uu, ut, ur, rfl, b1, b2⟩ := hU
  have hb0 := fun o o' => ((Below.refl w.heap.size w).alloc (Nat.le_refl _) o).alloc (o := o') (by simp)
  have HN := Lib.hid (fun W (hb : Below w.heap.size w W) => kn_NCompare vo uo a.owner b.owner _ rfl W (a1.below hb) (b1.below hb) hk.1 hk2.1)
  have HD := Lib.hid (fun W (hb : Below w.heap.size w W) => rdata_Compare _ _ a.data b.data W (a2.below hb) (b2.below hb) hk.2.2 hk2.2.2)
  have hR := Lib.hid (show compareR a b = orI (compareN a.owner b.owner) (compareD a.data b.data) from rfl)
  generalize compareR a b = r at *
  generalize compareN a.owner b.owner = q at *
  generalize compareD a.data b.data = q2 at *
  generalize a.data.ty = x at *
  generalize b.data.ty = y at *
  generalize (a.ttl : Int) = ta at *
  generalize (b.ttl : Int) = tb at *
  obtain ⟨O1, hO1⟩ : ∃ O, O = Obj.cells #[vo, .int .u32 ta, .int .i64 x, vn, vu, vt, vr] 50 := ⟨_, rfl⟩
  obtain ⟨O2, hO2⟩ : ∃ O, O = Obj.cells #[uo, .int .u32 tb, .int .i64 y, un, uu, ut, ur] 50 := ⟨_, rfl⟩
  have hbb := hb0 O1 O2
  have HBB := Lib.hid hbb
  have hn := HN.out _ hbb
  have k1 : ((w.alloc O1).alloc O2).heap[w.heap.size]? = some O1 := (Below.heap_alloc (w.alloc O1) O2 w.heap.size (by simp)).trans (knew w O1)
  have k2 : ((w.alloc O1).alloc O2).heap[w.heap.size + 1]? = some O2 := by have := knew (w.alloc O1) O2; simpa using this
  rw [hO1] at k1 k2 hn HBB
  rw [hO2] at k1 k2 hn HBB
  have K1 := Lib.hid k1; have K2 := Lib.hid k2
  clear k1 k2 hbb hb0 a1 a2 b1 b2 hk hk2 hO1 hO2
  by_cases hq : q = 0
  · subst hq
    have HR : Hid (r = q2) := Lib.hid (by rw [hR.out]; rfl)
    clear hR
    go_enter Try.func61, Try.ntmps61
    go_wp2_with fail
    refine hn.mono ?_
    rintro e w1 ⟨rfl, hb1⟩
    have HB1 := Lib.hid (HBB.out.trans (hb1.mono HBB.out.size))
    have c1 := (hb1.block _ (kblock_lt K1.out)).trans K1.out
    have c2 := (hb1.block _ (kblock_lt K2.out)).trans K2.out
    have p2 := kcell c1 2 _ rfl; have p3 := kcell c1 3 _ rfl; have p4 := kcell c1 4 _ rfl; have p5 := kcell c1 5 _ rfl; have p6 := kcell c1 6 _ rfl
    have r2 := kcell c2 2 _ rfl; have r3 := kcell c2 3 _ rfl; have r4 := kcell c2 4 _ rfl; have r5 := kcell c2 5 _ rfl; have r6 := kcell c2 6 _ rfl
    clear hb1 c1 c2 hn
    have hd := HD.out w1 HB1.out
    go_wp2_with fail
    refine hd.mono ?_
    rintro e w2 ⟨rfl, hb2⟩
    go_wp2
    go_ret
    exact ⟨by rw [HR.out]; rfl, HB1.out.trans (hb2.mono HB1.out.size)⟩
  · have HR : Hid (r = q) := Lib.hid (by rw [hR.out]; unfold orI; rw [if_neg hq])
    have hqz : (q == 0) = false := by simpa using hq
    have hqn : (q != 0) = true := by simpa using hq
    clear hR
    go_enter Try.func61, Try.ntmps61
    go_wp2_with fail
    refine hn.mono ?_
    rintro e w1 ⟨rfl, hb1⟩
    have HB1 := Lib.hid (HBB.out.trans (hb1.mono HBB.out.size))
    clear hb1 hn
    go_wp2
    go_ret
    exact ⟨by rw [HR.out]; rfl, HB1.out⟩

set_option maxRecDepth 100000 in
set_option maxHeartbeats 4000000 in
theorem rec_Same (cs cs' : List Value) (a b : Rc) (w : World) (hA : RcAt w cs a) (hU : RcAt w cs' b) (hk : RcOK a) (hk2 : RcOK b) :
    Calls Try.prog 42 #[.agg cs.toArray, .agg cs'.toArray] w fun e w' => e = .returned (.bool (sameR a b)) ∧ Below w.heap.size w w' := by
  obtain ⟨vo, vn, vu, vt, vr, rfl, a1, a2⟩ := hA
  obtain ⟨uo, un, uu, ut, ur, rfl, b1, b2⟩ := hU
  have hb0 := fun o o' => ((Below.refl w.heap.size w).alloc (Nat.le_refl _) o).alloc (o := o') (by simp)
  have HN := Lib.hid (fun W (hb : Below w.heap.size w W) => kn_NSame vo uo a.owner b.owner _ rfl W (a1.below hb) (b1.below hb) hk.1 hk2.1)
  have HD := Lib.hid (fun W (hb : Below w.heap.size w W) => rdata_Same _ _ a.data b.data W (a2.below hb) (b2.below hb) hk.2.2 hk2.2.2)
  have hR := Lib.hid (show sameR a b = (sameN a.owner b.owner && (compareD a.data b.data == 0)) from by
    unfold sameR compareR orI
    have h0 := compareN_zero a.owner b.owner
    by_cases h : compareN a.owner b.owner = 0
    · rw [if_pos h, h0.1 h, Bool.true_and]
    · rw [if_neg h]
      have h2 : sameN a.owner b.owner = false := by
        cases hs : sameN a.owner b.owner
        · rfl
        · exact absurd (h0.2 hs) h
      rw [h2]; simpa using h)
  generalize sameR a b = r at *
  generalize sameN a.owner b.owner = q at *
  generalize (compareD a.data b.data == 0) = q2 at *
  generalize a.data.ty = x at *
  generalize b.data.ty = y at *
  generalize (a.ttl : Int) = ta at *
  generalize (b.ttl : Int) = tb at *
  obtain ⟨O1, hO1⟩ : ∃ O, O = Obj.cells #[vo, .int .u32 ta, .int .i64 x, vn, vu, vt, vr] 50 := ⟨_, rfl⟩
  obtain ⟨O2, hO2⟩ : ∃ O, O = Obj.cells #[uo, .int .u32 tb, .int .i64 y, un, uu, ut, ur] 50 := ⟨_, rfl⟩
  have hbb := hb0 O1 O2
  have HBB := Lib.hid hbb
  have hn := HN.out _ hbb
  have k1 : ((w.alloc O1).alloc O2).heap[w.heap.size]? = some O1 := (Below.heap_alloc (w.alloc O1) O2 w.heap.size (by simp)).trans (knew w O1)
  have k2 : ((w.alloc O1).alloc O2).heap[w.heap.size + 1]? = some O2 := by have := knew (w.alloc O1) O2; simpa using this
  rw [hO1] at k1 k2 hn HBB
  rw [hO2] at k1 k2 hn HBB
  have K1 := Lib.hid k1; have K2 := Lib.hid k2
  clear k1 k2 hbb hb0 a1 a2 b1 b2 hk hk2 hO1 hO2
  cases q
  · have HR : Hid (r = false) := Lib.hid (by rw [hR.out]; rfl)
    clear hR
    go_enter Try.func42, Try.ntmps42
    go_wp2_with fail
    refine hn.mono ?_
    rintro e w1 ⟨rfl, hb1⟩
    have HB1 := Lib.hid (HBB.out.trans (hb1.mono HBB.out.size))
    clear hb1 hn
    go_wp2
    go_ret
    exact ⟨by rw [HR.out]; rfl, HB1.out⟩
  · have HR : Hid (r = q2) := Lib.hid (by rw [hR.out]; rfl)
    clear hR
    go_enter Try.func42, Try.ntmps42
    go_wp2_with fail
    refine hn.mono ?_
    rintro e w1 ⟨rfl, hb1⟩
    have HB1 := Lib.hid (HBB.out.trans (hb1.mono HBB.out.size))
    have c1 := (hb1.block _ (kblock_lt K1.out)).trans K1.out
    have c2 := (hb1.block _ (kblock_lt K2.out)).trans K2.out
    have p2 := kcell c1 2 _ rfl; have p3 := kcell c1 3 _ rfl; have p4 := kcell c1 4 _ rfl; have p5 := kcell c1 5 _ rfl; have p6 := kcell c1 6 _ rfl
    have r2 := kcell c2 2 _ rfl; have r3 := kcell c2 3 _ rfl; have r4 := kcell c2 4 _ rfl; have r5 := kcell c2 5 _ rfl; have r6 := kcell c2 6 _ rfl
    clear hb1 c1 c2 hn
    have hd := HD.out w1 HB1.out
    go_wp2_with fail
    refine hd.mono ?_
    rintro e w2 ⟨rfl, hb2⟩
    go_wp2
    go_ret
    exact ⟨by rw [HR.out]; rfl, HB1.out.trans (hb2.mono HB1.out.size)⟩
end Go.Proofs.Yteppgeiejknhoaa

/-
  law12.known's zone, plain.
-/
namespace Go.Proofs.Yteppgeiejknhoaa
set_option maxRecDepth 20000
set_option linter.unusedVariables false
def kzO : Nm := [[111]]
def kzNs : Dat := ⟨2, [[[110, 115], [115], [111]]], [], [], []⟩
def kzA : Dat := ⟨1, [], [], [], [1, 2, 3, 4]⟩
def kzR1 : Rc := ⟨[[111]], 0, kzNs⟩
def kzR2 : Rc := ⟨[[83], [111]], 0, kzNs⟩
def kzR3 : Rc := ⟨[[110, 115], [115], [111]], 0, kzA⟩
def kzR4 : Rc := ⟨[[42], [119], [111]], 0, kzA⟩
def kzL : List Rc := [kzR1, kzR2, kzR3, kzR4]
theorem kz_canon : canonM kzL = kzL := by rfl
theorem kz_cut1 : cutM kzO kzL [[120], [115], [111]] = some 2 := by rfl
theorem kz_cut2 : cutM kzO kzL [[111]] = none := by rfl
theorem kz_source : sourceM kzO kzL [[113], [119], [111]] = true := by rfl
theorem kz_star : starM kzO kzL [[113], [119], [111]] = [[42], [119], [111]] := by rfl
theorem kz_glue : glueM kzL [[78, 83], [115], [111]] = [kzA] := by rfl
theorem kz_where1 : whereM kzO kzL [[115], [111]] = 2 := by rfl
theorem kz_where2 : whereM kzO kzL [[120], [115], [111]] = 3 := by rfl
theorem kz_where3 : whereM kzO kzL [[112]] = 0 := by rfl
theorem kz_where4 : whereM kzO kzL [[121], [111]] = 1 := by rfl
theorem kz_exists1 : existsM kzO kzL [[119], [111]] = true := by rfl
theorem kz_exists2 : existsM kzO kzL [[118], [111]] = false := by rfl
theorem kz_enc : encM kzO kzL [[113], [118], [111]] = [[111]] := by rfl
theorem kzNs_ok : DatOK kzNs := ⟨⟨by decide, by decide⟩, by decide, (fun n h => by simp only [kzNs, List.mem_singleton] at h; subst h; exact ⟨by decide, by decide⟩), by decide, (fun n h => by cases h), ⟨by decide, (fun n h => by cases h)⟩, by decide⟩
theorem kzA_ok : DatOK kzA := ⟨⟨by decide, by decide⟩, by decide, (fun n h => by cases h), by decide, (fun n h => by cases h), ⟨by decide, (fun n h => by cases h)⟩, by decide⟩
theorem kz_ok : ∀ r ∈ kzL, RcOK r := by
  intro r hr
  simp only [kzL, List.mem_cons, List.not_mem_nil, or_false] at hr
  rcases hr with rfl | rfl | rfl | rfl
  · exact ⟨⟨by decide, by decide⟩, by decide, kzNs_ok⟩
  · exact ⟨⟨by decide, by decide⟩, by decide, kzNs_ok⟩
  · exact ⟨⟨by decide, by decide⟩, by decide, kzA_ok⟩
  · exact ⟨⟨by decide, by decide⟩, by decide, kzA_ok⟩
end Go.Proofs.Yteppgeiejknhoaa

/-
  The stable sort, block by block: what its loops keep.
-/
namespace Go.Proofs.Yteppgeiejknhoaa.Stb
open Go.Sort
set_option linter.unusedSectionVars false
variable {α : Type} [Inhabited α] {cf : α → α → Int} {tg : α → Nat}

def lb (cf : α → α → Int) (x y : α) : Bool := decide (cf x y < 0)

structure InsR (cf : α → α → Int) (tg : α → Nat) (a j i : Nat) (d : Array α) : Prop where
  rest : ∀ p q, a ≤ p → p < q → q ≤ i → p ≠ j → q ≠ j → Lx cf tg d[p]! d[q]!
  right : ∀ q, j < q → q ≤ i → Lx cf tg d[j]! d[q]!
  most : ∀ q, a ≤ q → q ≤ i → q ≠ j → tg d[q]! < tg d[j]!

theorem InsR.stop (hO : COrd cf) {a j i : Nat} {d : Array α} (h : InsR cf tg a j i d) (haj : a ≤ j) (hji : j ≤ i) (hs : j ≤ a ∨ lb cf d[j]! d[j - 1]! = false) : Rise cf tg a (i + 1) d := by
  have hl : ∀ p, a ≤ p → p < j → Lx cf tg d[p]! d[j]! := fun p h1 h2 => by
    rcases hs with hs | hs
    · omega
    · have hx : Lx cf tg d[j - 1]! d[j]! := Lx.of_not hO (h.most _ (by omega) (by omega) (by omega)) (by simpa [lb] using hs)
      by_cases e : p = j - 1
      · subst e; exact hx
      · exact (h.rest p (j - 1) h1 (by omega) (by omega) (by omega) (by omega)).trans hO hx
  intro p q hap hpq hqi
  by_cases hq : q = j
  · subst hq; exact hl p hap hpq
  · by_cases hp : p = j
    · subst hp; exact h.right q hpq (by omega)
    · exact h.rest p q hap hpq (by omega) hp hq

theorem InsR.step {a j i : Nat} {d : Array α} (h : InsR cf tg a (j + 1) i d) (hl : lb cf d[j + 1]! d[j]! = true) (haj : a ≤ j) (hji : j + 1 ≤ i) (hsz : j + 1 < d.size) : InsR cf tg a j i (swp d (j + 1) j) := by
  have g := swp_get d hsz (show j < d.size by omega)
  have hl' : cf d[j + 1]! d[j]! < 0 := by simpa [lb] using hl
  refine ⟨fun p q hap hpq hqi hp hq => ?_, fun q hjq hqi => ?_, fun q haq hqi hq => ?_⟩
  · rw [g, g]
    repeat' split
    all_goals first
      | (exfalso; omega)
      | exact h.rest _ _ (by omega) (by omega) (by omega) (by omega) (by omega)
  · rw [g, g, if_pos rfl]
    repeat' split
    all_goals first
      | (exfalso; omega)
      | exact Or.inl hl'
      | exact h.right _ (by omega) (by omega)
  · rw [g, g, if_pos rfl]
    repeat' split
    all_goals first
      | (exfalso; omega)
      | exact h.most _ (by omega) (by omega) (by omega)

theorem insInner_rise (hO : COrd cf) (a i : Nat) : ∀ (j : Nat) (d : Array α), a ≤ j → j ≤ i → i + 1 ≤ d.size → InsR cf tg a j i d →
    PermIn a (i + 1) d (insInner (lb cf) a j d) ∧ Rise cf tg a (i + 1) (insInner (lb cf) a j d)
  | 0, d, h1, h2, _, hI => by
    unfold insInner
    exact ⟨permIn_refl d a _, hI.stop hO h1 h2 (Or.inl (Nat.zero_le _))⟩
  | j + 1, d, haj, hji, hb, hI => by
    unfold insInner
    split
    · rename_i hc
      simp only [Bool.and_eq_true, decide_eq_true_eq] at hc
      have ih := insInner_rise hO a i j (swp d (j + 1) j) (by omega) (by omega) (by rw [swp_size]; exact hb) (hI.step hc.2 (by omega) hji (by omega))
      exact ⟨permIn_trans _ _ _ a (i + 1) (swp_permIn d a (i + 1) (j + 1) j haj (by omega) (by omega) (by omega) hb) ih.1, ih.2⟩
    · rename_i hc
      simp only [Bool.and_eq_true, decide_eq_true_eq, not_and, Bool.not_eq_true] at hc
      refine ⟨permIn_refl d a _, hI.stop hO haj hji ?_⟩
      by_cases h : j + 1 > a
      · exact Or.inr (by simpa using hc h)
      · exact Or.inl (by omega)

theorem insOuter_rise (hO : COrd cf) (a b : Nat) : ∀ (n i : Nat) (d : Array α), b - i = n → a < i → i ≤ b → b ≤ d.size → Rise cf tg a i d → (∀ p q, a ≤ p → p < q → i ≤ q → q < b → tg d[p]! < tg d[q]!) →
    PermIn a b d (insOuter (lb cf) a b i d) ∧ Rise cf tg a b (insOuter (lb cf) a b i d)
  | 0, i, d, hn, _, hib, _, hs, _ => by
    obtain rfl : i = b := by omega
    rw [insOuter, if_neg (by omega)]
    exact ⟨permIn_refl d a i, hs⟩
  | n + 1, i, d, hn, hai, hib, hb, hs, ht => by
    have hlt : i < b := by omega
    rw [insOuter, if_pos hlt]
    have h1 := insInner_rise hO a i i d (by omega) (Nat.le_refl _) (by omega) ⟨fun p q hap hpq hqi _ hq => hs p q hap hpq (by omega), fun q h1 h2 => by omega, fun q h1 h2 h3 => ht q i h1 (by omega) (Nat.le_refl _) hlt⟩
    have hp := h1.1
    have ht2 : ∀ p q, a ≤ p → p < q → i + 1 ≤ q → q < b → tg (insInner (lb cf) a i d)[p]! < tg (insInner (lb cf) a i d)[q]! := fun p q g1 g2 g3 g4 => by
      rw [hp.2.1 q (Or.inr g3)]
      by_cases hpi : p < i + 1
      · exact permIn_all d _ a (i + 1) (fun x => tg x < tg d[q]!) (by omega) hp (fun k k1 k2 => ht k q k1 (by omega) (by omega) g4) p g1 hpi
      · rw [hp.2.1 p (Or.inr (by omega))]; exact ht p q g1 g2 (by omega) g4
    have h2 := insOuter_rise hO a b n (i + 1) (insInner (lb cf) a i d) (by omega) (by omega) (by omega) (by rw [hp.1]; exact hb) h1.2 ht2
    exact ⟨permIn_trans _ _ _ a b (permIn_mono _ _ a (i + 1) a b (Nat.le_refl _) (by omega) hb hp) h2.1, h2.2⟩

theorem insertion_rise (hO : COrd cf) (d : Array α) (a b : Nat) (hab : a ≤ b) (hb : b ≤ d.size) (ht : ∀ p q, a ≤ p → p < q → q < b → tg d[p]! < tg d[q]!) :
    PermIn a b d (insertionSort (lb cf) d a b) ∧ Rise cf tg a b (insertionSort (lb cf) d a b) := by
  unfold insertionSort
  by_cases h : a = b
  · subst h
    rw [insOuter, if_neg (by omega)]
    exact ⟨permIn_refl d a a, fun i j h1 h2 h3 => by omega⟩
  · exact insOuter_rise hO a b (b - (a + 1)) (a + 1) d rfl (by omega) (by omega) hb (fun i j h1 h2 h3 => by omega) (fun p q h1 h2 h3 h4 => ht p q h1 h2 h4)

/-! Blocks. -/
/-- Blocks of so many: each rises, each has its own. -/
structure Blk (cf : α → α → Int) (tg : α → Nat) (s : Nat) (d : Array α) : Prop where
  own : ∀ q i, q * s ≤ i → i < q * s + s → i < d.size → q * s ≤ tg d[i]! ∧ tg d[i]! < q * s + s
  up : ∀ q i j, q * s ≤ i → i < j → j < q * s + s → j < d.size → Lx cf tg d[i]! d[j]!
/-- Up to a: blocks of so many; from there on as it came. -/
structure Blk0 (cf : α → α → Int) (tg : α → Nat) (s a : Nat) (d : Array α) : Prop where
  own : ∀ q i, q * s ≤ i → i < q * s + s → i < a → q * s ≤ tg d[i]! ∧ tg d[i]! < q * s + s
  up : ∀ q i j, q * s ≤ i → i < j → j < q * s + s → j < a → Lx cf tg d[i]! d[j]!
  rest : ∀ i, a ≤ i → i < d.size → tg d[i]! = i
theorem Blk0.start {s : Nat} {d : Array α} (h : ∀ i, i < d.size → tg d[i]! = i) : Blk0 cf tg s 0 d := ⟨fun q i h1 h2 h3 => by omega, fun q i j h1 h2 h3 h4 => by omega, fun i _ h1 => h i h1⟩
theorem blk_lt {q r s : Nat} (h : q < r) : q * s + s ≤ r * s := by
  have := Nat.mul_le_mul_right s (show q + 1 ≤ r from h); rwa [Nat.succ_mul] at this
theorem Blk0.tags {s a e : Nat} {d : Array α} (h : Blk0 cf tg s a d) (he : e ≤ d.size) : ∀ p q, a ≤ p → p < q → q < e → tg d[p]! < tg d[q]! := fun p q h1 h2 h3 => by
  rw [h.rest p h1 (by omega), h.rest q (by omega) (by omega)]; exact h2
/-- One block more. -/
theorem Blk0.next {s r e : Nat} {d d' : Array α} (h : Blk0 cf tg s (r * s) d) (he : e ≤ d.size) (hae : r * s ≤ e) (hes : e ≤ r * s + s) (hp : PermIn (r * s) e d d') (hr : Rise cf tg (r * s) e d') : Blk0 cf tg s e d' := by
  have lo : ∀ i, i < r * s → d'[i]! = d[i]! := fun i hi => hp.2.1 i (Or.inl hi)
  have mid : ∀ i, r * s ≤ i → i < e → r * s ≤ tg d'[i]! ∧ tg d'[i]! < e := permIn_all d d' (r * s) e (fun x => r * s ≤ tg x ∧ tg x < e) he hp (fun i h1 h2 => by rw [h.rest i h1 (by omega)]; exact ⟨h1, h2⟩)
  refine ⟨fun q i h1 h2 h3 => ?_, fun q i j h1 h2 h3 h4 => ?_, fun i h1 h2 => ?_⟩
  · by_cases hi : i < r * s
    · rw [lo i hi]; exact h.own q i h1 h2 hi
    · have hqr : q = r := by
        rcases Nat.lt_trichotomy q r with hh | hh | hh
        · have := blk_lt (s := s) hh; omega
        · exact hh
        · have := blk_lt (s := s) hh; omega
      subst hqr
      have := mid i (by omega) h3
      omega
  · by_cases hj : j < r * s
    · rw [lo i (by omega), lo j hj]; exact h.up q i j h1 h2 h3 hj
    · have hqr : q = r := by
        rcases Nat.lt_trichotomy q r with hh | hh | hh
        · have := blk_lt (s := s) hh; omega
        · exact hh
        · have := blk_lt (s := s) hh; omega
      subst hqr
      exact hr i j h1 h2 h4
  · rw [hp.2.1 i (Or.inr h1)]
    exact h.rest i (by omega) (by rw [← hp.1]; exact h2)
theorem Blk0.whole {s : Nat} {d : Array α} (h : Blk0 cf tg s d.size d) : Blk cf tg s d := ⟨h.own, h.up⟩
theorem Blk.rise {s : Nat} {d : Array α} (h : Blk cf tg s d) (hs : d.size ≤ s) : Rise cf tg 0 d.size d := fun i j _ h2 h3 => h.up 0 i j (by omega) h2 (by omega) h3

/-- Up to a: blocks of twice so many; from there on of so many. -/
structure Blk2 (cf : α → α → Int) (tg : α → Nat) (s a : Nat) (d : Array α) : Prop where
  own2 : ∀ q i, q * (2 * s) ≤ i → i < q * (2 * s) + 2 * s → i < d.size → q * (2 * s) ≤ tg d[i]! ∧ tg d[i]! < q * (2 * s) + 2 * s
  own : ∀ q i, a ≤ i → q * s ≤ i → i < q * s + s → i < d.size → q * s ≤ tg d[i]! ∧ tg d[i]! < q * s + s
  up2 : ∀ q i j, q * (2 * s) ≤ i → i < j → j < q * (2 * s) + 2 * s → j < a → Lx cf tg d[i]! d[j]!
  up : ∀ q i j, a ≤ i → q * s ≤ i → i < j → j < q * s + s → j < d.size → Lx cf tg d[i]! d[j]!
theorem twice (q s : Nat) : q * (2 * s) = 2 * q * s ∧ (2 * q + 1) * s = 2 * q * s + s := ⟨by rw [← Nat.mul_assoc, Nat.mul_comm q 2], by rw [Nat.succ_mul]⟩
theorem Blk2.start {s : Nat} {d : Array α} (h : Blk cf tg s d) : Blk2 cf tg s 0 d := by
  refine ⟨fun q i h1 h2 h3 => ?_, fun q i _ => h.own q i, fun q i j h1 h2 h3 h4 => by omega, fun q i j _ => h.up q i j⟩
  obtain ⟨e1, e2⟩ := twice q s
  by_cases hi : i < 2 * q * s + s
  · have := h.own (2 * q) i (by omega) hi h3; omega
  · have := h.own (2 * q + 1) i (by omega) (by omega) h3; omega
/-- What is to be merged. -/
theorem Blk2.mrg {s r e : Nat} {d : Array α} (h : Blk2 cf tg s (r * (2 * s)) d) (hs : 0 < s) (he : e ≤ d.size) (h1 : r * (2 * s) + s < e) (h2 : e ≤ r * (2 * s) + 2 * s) : Mrg cf tg (r * (2 * s)) (r * (2 * s) + s) e d := by
  obtain ⟨e1, e2⟩ := twice r s
  refine ⟨by omega, h1, he, fun i j g1 g2 g3 => h.up (2 * r) i j g1 (by omega) g2 (by omega) (by omega), fun i j g1 g2 g3 => h.up (2 * r + 1) i j (by omega) (by omega) g2 (by omega) (by omega), fun i j g1 g2 g3 g4 => ?_⟩
  have a1 := h.own (2 * r) i g1 (by omega) (by omega) (by omega)
  have a2 := h.own (2 * r + 1) j (by omega) (by omega) (by omega) (by omega)
  omega
/-- Behind it. -/
theorem Blk2.next {s r e : Nat} {d d' : Array α} (h : Blk2 cf tg s (r * (2 * s)) d) (he : e ≤ d.size) (h1 : r * (2 * s) ≤ e) (h2 : e ≤ r * (2 * s) + 2 * s) (h3 : e = r * (2 * s) + 2 * s ∨ e = d.size) (hp : PermIn (r * (2 * s)) e d d') (hr : Rise cf tg (r * (2 * s)) e d') : Blk2 cf tg s e d' := by
  obtain ⟨e1, e2⟩ := twice r s
  have lo : ∀ i, i < r * (2 * s) → d'[i]! = d[i]! := fun i hi => hp.2.1 i (Or.inl hi)
  have up : ∀ i, e ≤ i → d'[i]! = d[i]! := fun i hi => hp.2.1 i (Or.inr hi)
  have mid : ∀ i, r * (2 * s) ≤ i → i < e → r * (2 * s) ≤ tg d'[i]! ∧ tg d'[i]! < r * (2 * s) + 2 * s := permIn_all d d' _ e (fun x => r * (2 * s) ≤ tg x ∧ tg x < r * (2 * s) + 2 * s) he hp (fun i k1 k2 => h.own2 r i k1 (by omega) (by omega))
  have hsz := hp.1
  refine ⟨fun q i k1 k2 k3 => ?_, fun q i k0 k1 k2 k3 => ?_, fun q i j k1 k2 k3 k4 => ?_, fun q i j k0 k1 k2 k3 k4 => ?_⟩
  · by_cases hi : i < r * (2 * s)
    · rw [lo i hi]; exact h.own2 q i k1 k2 (by omega)
    · by_cases hie : i < e
      · have hqr : q = r := by
          rcases Nat.lt_trichotomy q r with hh | hh | hh
          · have := blk_lt (s := 2 * s) hh; omega
          · exact hh
          · have := blk_lt (s := 2 * s) hh; omega
        subst hqr
        exact mid i (by omega) hie
      · rw [up i (by omega)]; exact h.own2 q i k1 k2 (by omega)
  · rw [up i k0]; exact h.own q i (by omega) k1 k2 (by omega)
  · by_cases hj : j < r * (2 * s)
    · rw [lo i (by omega), lo j hj]; exact h.up2 q i j k1 k2 k3 hj
    · have hqr : q = r := by
        rcases Nat.lt_trichotomy q r with hh | hh | hh
        · have := blk_lt (s := 2 * s) hh; omega
        · exact hh
        · have := blk_lt (s := 2 * s) hh; omega
      subst hqr
      exact hr i j k1 k2 k4
  · rw [up i k0, up j (by omega)]; exact h.up q i j (by omega) k1 k2 k3 (by omega)
/-- The last block may be none. -/
theorem Blk2.short {s r : Nat} {d : Array α} (h : Blk2 cf tg s (r * (2 * s)) d) (h1 : d.size ≤ r * (2 * s) + s) : Rise cf tg (r * (2 * s)) d.size d := by
  obtain ⟨e1, e2⟩ := twice r s
  exact fun i j g1 g2 g3 => h.up (2 * r) i j g1 (by omega) g2 (by omega) g3
theorem Blk2.whole {s a : Nat} {d : Array α} (h : Blk2 cf tg s a d) (ha : d.size ≤ a) : Blk cf tg (2 * s) d := ⟨h.own2, fun q i j h1 h2 h3 h4 => h.up2 q i j h1 h2 h3 (by omega)⟩
end Go.Proofs.Yteppgeiejknhoaa.Stb

/-
  The worlds of a sort in place: a row of the call's own, all else as it lay.
-/
namespace Go.Proofs.Yteppgeiejknhoaa
set_option maxRecDepth 20000
open Go.RowKit Go.Shelf Go.Sort Go.Lib
set_option linter.unusedSectionVars false

section
variable {α : Type} [Inhabited α]
/-- The row holds d; whatever else lay in w lies there still. -/
structure SW (enc : α → List Value) (k : Nat) (w : World) (blk off : Nat) (d : Array α) (W : World) : Prop where
  row : HoldsK enc k W blk off d
  rest : w.grownBy W (some blk)
  lt : blk < w.heap.size
theorem SW.refl {enc : α → List Value} {k : Nat} {w : World} {blk off : Nat} {d : Array α} (h : HoldsK enc k w blk off d) (hlt : blk < w.heap.size) : SW enc k w blk off d w := ⟨h, kg_refl w _, hlt⟩
theorem SW.drew {enc : α → List Value} {k : Nat} {w W : World} {blk off : Nat} {d : Array α} (h : SW enc k w blk off d W) : SW enc k w blk off d W.drew := ⟨h.row, kg_trans h.rest (kg_drew W _), h.lt⟩
theorem kg_below {W W' : World} (r : Option Nat) (hb : Below W.heap.size W W') : W.grownBy W' r := ⟨hb.os, hb.tape, hb.output, hb.size, fun k hk _ => hb.block k hk⟩
theorem SW.lt' {enc : α → List Value} {k : Nat} {w W : World} {blk off : Nat} {d : Array α} (h : SW enc k w blk off d W) : blk < W.heap.size := Nat.lt_of_lt_of_le h.lt h.rest.size
theorem SW.below {enc : α → List Value} {k : Nat} {w W W' : World} {blk off : Nat} {d : Array α} (h : SW enc k w blk off d W) (hb : Below W.heap.size W W') : SW enc k w blk off d W' := by
  refine ⟨fun j hj => ?_, kg_trans h.rest (kg_below _ hb), h.lt⟩
  have h1 := h.row j hj
  exact ⟨(hb.cell (p := ⟨blk, off + j, none⟩) h.lt').trans h1.1, (hb.frozen (p := ⟨blk, off + j, none⟩) h.lt').trans h1.2⟩
theorem SW.trans {enc : α → List Value} {k : Nat} {w W W' : World} {blk off : Nat} {d d' : Array α} (h : SW enc k w blk off d W) (g : SW enc k W blk off d' W') : SW enc k w blk off d' W' := ⟨g.row, kg_trans h.rest g.rest, h.lt⟩
theorem kg_setCells (blk : Nat) : ∀ (vs : List Value) (o : Nat) (w : World), w.grownBy (w.setCells blk o vs) (some blk)
  | [], _, w => kg_refl w _
  | v :: r, o, w => by
    rw [World.setCells]
    exact kg_trans (kgrown_set w blk o v) (kg_setCells blk r (o + 1) _)
/-- The exchange's two runs of stores. -/
theorem SW.swap {enc : α → List Value} {k : Nat} {w W : World} {blk off : Nat} {d : Array α} (hk : ∀ x, (enc x).length = k) (h : SW enc k w blk off d W) (i j : Nat) (hi : i < d.size) (hj : j < d.size) :
    SW enc k w blk off (swp d i j) ((W.setCells blk (off + i * k) (enc d[j]!)).setCells blk (off + j * k) (enc d[i]!)) := by
  refine ⟨?_, kg_trans (kg_trans h.rest (kg_setCells _ _ _ _)) (kg_setCells _ _ _ _), h.lt⟩
  have e : (W.setCells blk (off + i * k) (enc d[j]!)).setCells blk (off + j * k) (enc d[i]!) = putRowK enc k W blk off (swp d i j) := by
    conv => lhs; rw [← putRowK_self enc k W blk off d h.row]
    exact putRowK_swp enc k hk W blk off d i j hi hj
  rw [e]
  exact holdsK_putRowK enc k W blk off d _ h.row (by rw [size_swp])
theorem holds_setCells_c {W : World} {blk off : Nat} {F : Array Value} (h : Holds id W blk off F) (s : Nat) (vs : List Value) (hs : s + vs.length ≤ F.size) : Holds id (W.setCells blk (off + s) vs) blk off (setMany F s vs) := by
  have e : W.setCells blk (off + s) vs = putRow id W blk off (setMany F s vs) := by
    conv => lhs; rw [← putRow_self id W blk off F h]
    exact setCells_putRow _ _ _ _ _ _ hs
  rw [e]
  exact holds_putRow id W blk off F _ h (by rw [size_setMany])
/-- The loads and stores of an exchange. -/
theorem SW.load {enc : α → List Value} {k : Nat} {w W : World} {blk off : Nat} {d : Array α} (P : Program) (hk : ∀ x, (enc x).length = k) (h : SW enc k w blk off d W) (i : Nat) (hi : i < d.size) :
    Sem.run P (loadCellsFrom ⟨blk, off + i * k, none⟩ 0 k #[]) W = .ok (enc d[i]!).toArray W := run_loadCellsFrom_list P _ _ _ k (hk _) (HoldsK.cells h.row hk hi)
theorem bnd_k {n x k : Nat} (hx : x < n) : x * k + k ≤ n * k := by
  have := Nat.mul_le_mul_right k (show x + 1 ≤ n from hx); rwa [Nat.add_mul, Nat.one_mul] at this
theorem SW.store1 {enc : α → List Value} {k : Nat} {w W : World} {blk off : Nat} {d : Array α} (P : Program) (hk : ∀ x, (enc x).length = k) (h1 : ∀ x, ∀ v ∈ enc x, v.oneCell' = true) (h : SW enc k w blk off d W) (i : Nat) (hi : i < d.size) (x : α) :
    Sem.run P (storeCells ⟨blk, off + i * k, none⟩ (enc x) 0) W = .ok () (W.setCells blk (off + i * k) (enc x)) := stores_of_holds P h.row (i * k) _ (by rw [hk, size_flatK]; exact bnd_k hi) (h1 _)
theorem SW.store2 {enc : α → List Value} {k : Nat} {w W : World} {blk off : Nat} {d : Array α} (P : Program) (hk : ∀ x, (enc x).length = k) (h1 : ∀ x, ∀ v ∈ enc x, v.oneCell' = true) (h : SW enc k w blk off d W) (i j : Nat) (hi : i < d.size) (hj : j < d.size) (x y : α) :
    Sem.run P (storeCells ⟨blk, off + j * k, none⟩ (enc y) 0) (W.setCells blk (off + i * k) (enc x)) = .ok () ((W.setCells blk (off + i * k) (enc x)).setCells blk (off + j * k) (enc y)) :=
  stores_of_holds P (holds_setCells_c h.row (i * k) _ (by rw [hk, size_flatK]; exact bnd_k hi)) (j * k) _ (by rw [hk, size_setMany, size_flatK]; exact bnd_k hj) (h1 _)
end
end Go.Proofs.Yteppgeiejknhoaa

/-
  What the library's sort asks of a program at a struct of k cells: its types; swapRange.
-/
namespace Go.Proofs.Yteppgeiejknhoaa
set_option maxRecDepth 20000
open Go.RowKit Go.Shelf Go.Sort Go.Lib
set_option linter.unusedVariables false
set_option linter.unusedSimpArgs false
set_option linter.unusedSectionVars false

structure SLay (P : Program) (k : Nat) : Prop where
  mixed : P.follows .mixedOrders = true
  t0 : P.underlying 0 = some (.tuple #[])
  a0 : ∀ w, (isAgg 0).run P w = .ok false w
  z0 : ∀ w, (Go.sizeOf 0).run P w = .ok 1 w
  v0 : ∀ w, (zeroValue 0).run P w = .ok (.tuple #[]) w
  t3 : P.underlying 3 = some (.int .i64)
  a3 : ∀ w, (isAgg 3).run P w = .ok false w
  z3 : ∀ w, (Go.sizeOf 3).run P w = .ok 1 w
  v3 : ∀ w, (zeroValue 3).run P w = .ok (.int .i64 0) w
  t4 : P.underlying 4 = some (.bool)
  a4 : ∀ w, (isAgg 4).run P w = .ok false w
  z4 : ∀ w, (Go.sizeOf 4).run P w = .ok 1 w
  v4 : ∀ w, (zeroValue 4).run P w = .ok (.bool false) w
  t85 : P.underlying 138 = some (.int .u64)
  a85 : ∀ w, (isAgg 138).run P w = .ok false w
  z85 : ∀ w, (Go.sizeOf 138).run P w = .ok 1 w
  v85 : ∀ w, (zeroValue 138).run P w = .ok (.int .u64 0) w
  t43 : P.underlying 24 = some (.slice 50)
  a43 : ∀ w, (isAgg 24).run P w = .ok false w
  z43 : ∀ w, (Go.sizeOf 24).run P w = .ok 1 w
  v43 : ∀ w, (zeroValue 24).run P w = .ok (.slice none 0 0) w
  t69 : P.underlying 104 = some (.func #[50, 50] #[3] false)
  a69 : ∀ w, (isAgg 104).run P w = .ok false w
  z69 : ∀ w, (Go.sizeOf 104).run P w = .ok 1 w
  v69 : ∀ w, (zeroValue 104).run P w = .ok (.nilFunc) w
  aE : ∀ w, (isAgg 50).run P w = .ok true w
  zE : ∀ w, (Go.sizeOf 50).run P w = .ok k w
theorem slay_here : SLay Try.prog 7 where
  mixed := by kernel_rfl
  t0 := Try.underlying0
  a0 := Try.isAgg0
  z0 := Try.sizeOf0
  v0 := Try.zeroValue0
  t3 := Try.underlying3
  a3 := Try.isAgg3
  z3 := Try.sizeOf3
  v3 := Try.zeroValue3
  t4 := Try.underlying4
  a4 := Try.isAgg4
  z4 := Try.sizeOf4
  v4 := Try.zeroValue4
  t85 := Try.underlying138
  a85 := Try.isAgg138
  z85 := Try.sizeOf138
  v85 := Try.zeroValue138
  t43 := Try.underlying24
  a43 := Try.isAgg24
  z43 := Try.sizeOf24
  v43 := Try.zeroValue24
  t69 := Try.underlying104
  a69 := Try.isAgg104
  z69 := Try.sizeOf104
  v69 := Try.zeroValue104
  aE := Try.isAgg50
  zE := Try.sizeOf50

variable {P : Program} {α : Type} [Inhabited α]

/-- What an exchange of ranges leaves. -/
def SwrPost (enc : α → List Value) (k : Nat) (w : World) (blk off : Nat) (d : Array α) (a b n : Nat) (e : Ending) (w' : World) : Prop :=
  e = .returned (.tuple #[]) ∧ ∃ d' : Array α, d'.size = d.size ∧ (∀ x, x < d.size → d'[x]! = Stb.swr a b n (fun i => d[i]!) x) ∧ PermIn a (b + n) d d' ∧ SW enc k w blk off d' w'
structure SwrAt (enc : α → List Value) (k : Nat) (w : World) (blk off : Nat) (d : Array α) (a b i : Nat) (m : Nat) (dk : Array α) (W : World) : Prop where
  size : dk.size = d.size
  at_ : ∀ x, x < d.size → dk[x]! = Stb.swr a b i (fun i => d[i]!) x
  perm : PermIn a m d dk
  sw : SW enc k w blk off dk W

set_option maxHeartbeats 4000000 in
set_option maxRecDepth 1000000 in
theorem sort_swapRange {k : Nat} (L : SLay P k) (hF : P.funcs[117]? = some Try.f117) (enc : α → List Value) (hk : ∀ x, (enc x).length = k) (h1 : ∀ x, ∀ v ∈ enc x, v.oneCell' = true)
    (blk off cap a b n : Nat) (d : Array α) (fv : Value) (w : World) (hH : HoldsK enc k w blk off d) (hlt : blk < w.heap.size) (hab : a + n ≤ b) (hb : b + n ≤ d.size) (hsz : d.size < 4611686018427387904) :
    Calls P 117 #[.slice (some ⟨blk, off, none⟩) d.size cap, .int .i64 a, .int .i64 b, .int .i64 n, fv] w (SwrPost enc k w blk off d a b n) := by
  have mixed := L.mixed; have t0 := L.t0; have a0 := L.a0; have z0 := L.z0; have v0 := L.v0; have t3 := L.t3; have a3 := L.a3; have z3 := L.z3; have v3 := L.v3; have t4 := L.t4; have a4 := L.a4; have z4 := L.z4; have v4 := L.v4; have t85 := L.t85; have a85 := L.a85; have z85 := L.z85; have v85 := L.v85; have t43 := L.t43; have a43 := L.a43; have z43 := L.z43; have v43 := L.v43; have t69 := L.t69; have a69 := L.a69; have z69 := L.z69; have v69 := L.v69; have aE := L.aE; have zE := L.zE
  have u43 := run_underlying L.t43
  have HK := Lib.hid hk; have H1 := Lib.hid h1
  have HS0 : Hid (SwrAt enc k w blk off d a b 0 (b + n) d w) := Lib.hid ⟨rfl, fun x _ => (Stb.swr_zero a b _ x).symm, permIn_refl d a _, SW.refl hH hlt⟩
  clear hH hlt hk h1
  go_enter hF, Try.ntmps117
  go_wp2
  go_loopw [10] (fun vi wr => ∃ (i : Nat) (dk : Array α), vi = .int .i64 i ∧ i ≤ n ∧ Hid (SwrAt enc k w blk off d a b i (b + n) dk wr)) (fun vi _ => n - (intOf vi).toNat)
  case atStart => exact ⟨0, d, rfl, Nat.zero_le _, HS0⟩
  case round =>
    obtain ⟨i, dk, rfl, hi, HS⟩ := hrel
    by_cases hin : i < n
    · have hinz : (i : Int) < (n : Int) := by omega
      obtain ⟨xa, hxa⟩ : ∃ x, dk[a + i]! = x := ⟨_, rfl⟩
      obtain ⟨xb, hxb⟩ : ∃ x, dk[b + i]! = x := ⟨_, rfl⟩
      have hsk := HS.out.size
      have hD := HS.out.sw.drew
      have la := hD.load P HK.out (a + i) (by omega)
      have lb := hD.load P HK.out (b + i) (by omega)
      have s1 := hD.store1 P HK.out H1.out (a + i) (by omega) xb
      have s2 := hD.store2 P HK.out H1.out (a + i) (b + i) (by omega) (by omega) xb xa
      rw [hxa] at la
      rw [hxb] at lb
      have hsa : (enc xa).length = k := HK.out _
      have hsb : (enc xb).length = k := HK.out _
      have HN : Hid (SwrAt enc k w blk off d a b (i + 1) (b + n) (swp dk (a + i) (b + i)) ((wr.drew.setCells blk (off + (a + i) * k) (enc xb)).setCells blk (off + (b + i) * k) (enc xa))) := by
        have h := HS.out
        refine Lib.hid ⟨by rw [size_swp]; exact hsk, Stb.swr_step (by omega) (by omega) hsk h.at_, permIn_trans _ _ _ a (b + n) h.perm (swp_permIn dk a (b + n) (a + i) (b + i) (by omega) (by omega) (by omega) (by omega) (by omega)), ?_⟩
        have := hD.swap HK.out (a + i) (b + i) (by omega) (by omega)
        rwa [hxa, hxb] at this
      obtain ⟨ca, hca⟩ : ∃ c, c = enc xa := ⟨_, rfl⟩
      obtain ⟨cb, hcb⟩ : ∃ c, c = enc xb := ⟨_, rfl⟩
      rw [← hca] at la hsa
      rw [← hcb] at lb hsb s1
      rw [← hca, ← hcb] at s2 HN
      have ja : ((a : Int) + (i : Int)) < (d.size : Int) := by omega
      have jb : ((b : Int) + (i : Int)) < (d.size : Int) := by omega
      have pa : (0 : Int) ≤ (a : Int) + (i : Int) := by omega
      have pb : (0 : Int) ≤ (b : Int) + (i : Int) := by omega
      have ea : ((a : Int) + (i : Int)).toNat = a + i := by omega
      have eb : ((b : Int) + (i : Int)).toNat = b + i := by omega
      clear hca hcb hD hsk hxa hxb
      go_wp2_with fail
      go_big_region_o
      all_goals go_wp2
      go_roundw
      case measure => simp [intOf]; omega
      case rel => exact ⟨i + 1, _, by go_num, by omega, HN⟩
    · obtain rfl : i = n := by omega
      go_wp2
      go_end0
      have h := HS.out
      exact ⟨rfl, dk, h.size, h.at_, h.perm, h.sw⟩
end Go.Proofs.Yteppgeiejknhoaa

