/-
  A view's covers: (check.view).covered.
-/
import Derived.Test.YtckammgnmgkieaaMQ27
import Derived.Test.YtckammgnmgkieaaMQ20
import Derived.Test.YtckammgnmgkieaaMQ28
import Derived.Test.YtckammgnmgkieaaMQ38
import Derived.RangeFuncNested
namespace Go.Proofs.Ytckammgnmgkieaa
set_option maxRecDepth 20000
open Go.RowKit Go.Shelf
set_option maxRecDepth 20000
set_option linter.unusedVariables false
set_option linter.unusedSimpArgs false
/-- Is n covered by one of these names? -/
def coverM (cs : List Nm) (n : Nm) : Bool := cs.any fun c => decide (c.length < n.length) && underN n c
set_option maxRecDepth 100000 in
set_option maxHeartbeats 8000000 in
theorem view_covered {w : World} (sv ov rv : Value) (cv : Value) (cs : List Nm) (vn : Value) (n : Nm) (hs : sv.oneCell' = true ∧ ov.oneCell' = true ∧ rv.oneCell' = true) (hC : NmsAt w cv cs) (hCO : ∀ c ∈ cs, NmOK c) (hl : cs.length ≤ 1048576) (hO : NmAt w vn n) (hko : NmOK n) :
    Calls Try.prog 40 #[.agg #[sv, ov, rv, cv], vn] w fun e w' => e = .returned (.bool (coverM cs n)) ∧ Below w.heap.size w w' := by
  obtain ⟨vs, s1, s2, s3⟩ := hC
  obtain ⟨ac, cc, rfl, -⟩ := id s1
  obtain ⟨m, hm⟩ : ∃ m, vs.length = m := ⟨_, rfl⟩
  have HCN := Lib.hid (fun W (hb : Below w.heap.size w W) j (hj : j < vs.length) => s1.cell hb j hj)
  have HNM := Lib.hid (fun W (hb : Below w.heap.size w W) j (h1 : j < vs.length) (h2 : j < cs.length) => ((s3 j h1).below hb : NmAt W vs[j] cs[j]))
  have HSO := Lib.hid (show coverM cs n = cs.any fun c => decide (c.length < n.length) && underN n c from rfl)
  have HDL := Lib.hid (show cs.length = m by rw [← s2]; exact hm)
  have HVL := Lib.hid hm
  have hm20 : m ≤ 1048576 := by omega
  clear hl
  have HCO := Lib.hid hCO; have HKN := Lib.hid hko; have HNO := Lib.hid hO
  obtain ⟨ao, co, rfl, -⟩ := nmAt_sl.1 hO
  obtain ⟨qo, hqo⟩ : ∃ q, (List.map strV n).length = q := ⟨_, rfl⟩
  have HQO := Lib.hid (show n.length = qo by rw [← hqo, List.length_map])
  rw [hm]
  rw [hqo] at HNO ⊢
  generalize coverM cs n = res at *
  have X0 := knew w (.cells #[sv, ov, rv, .slice ac m cc] 57)
  have HB0 := Lib.hid ((Below.refl w.heap.size w).alloc (Nat.le_refl _) (.cells #[sv, ov, rv, .slice ac m cc] 57))
  have HHS := Lib.hid hs
  obtain ⟨h0, h1, h2⟩ := hs
  clear s1 s3 hCO hko hO hm hqo
  go_enter Try.func40, Try.ntmps40
  obtain ⟨w2, hw2⟩ : ∃ w2, w.alloc (.cells #[sv, ov, rv, .slice ac m cc] 57) = w2 := ⟨_, rfl⟩
  rw [hw2] at X0 HB0
  have y3 := kcell X0 3 _ rfl
  clear X0
  go_wp2
  clear hw2 y3
  go_loopw [10] (fun vi wr => ∃ k : Nat, vi = .int .i64 k ∧ k ≤ m ∧ Hid (((cs.take k).any fun c => decide (c.length < n.length) && underN n c) = false) ∧ Hid (Below w2.heap.size w2 wr)) (fun vi _ => m - (intOf vi).toNat)
  case atStart => exact ⟨0, rfl, Nat.zero_le _, Lib.hid (by simp), Lib.hid (Below.refl _ _)⟩
  case round =>
    obtain ⟨k, rfl, hk, HN, HB⟩ := hrel
    by_cases hlt : k < m
    · have hltz : (k : Int) < (m : Int) := by omega
      have hk1 : k < vs.length := by have := HVL.out; omega
      have hk2 : k < cs.length := by have := HDL.out; omega
      have hwr : Below w.heap.size w wr := HB0.out.trans (HB.out.mono HB0.out.size)
      obtain ⟨b, off, rfl, hb, hcell⟩ := HCN.out wr hwr k hk1
      have hnm := HNM.out wr hwr k hk1 hk2
      have hokr := HCO.out _ (List.getElem_mem hk2)
      have hany := any_succ (p := fun c => decide (c.length < n.length) && underN n c) hk2
      obtain ⟨d, hd⟩ : ∃ d, cs[k]'hk2 = d := ⟨_, rfl⟩
      have hdm : d ∈ cs := by rw [← hd]; exact List.getElem_mem _
      rw [hd] at hnm hokr hany
      rw [HN.out, Bool.false_or] at hany
      generalize vs[k] = sk at *
      obtain ⟨ad, cd, rfl, -⟩ := nmAt_sl.1 hnm
      obtain ⟨qd, hqd⟩ : ∃ q, (List.map strV d).length = q := ⟨_, rfl⟩
      have HQD := Lib.hid (show d.length = qd by rw [← hqd, List.length_map])
      rw [hqd] at hcell hnm
      have hn := kn_NUnder (.slice ao qo co) (.slice ad qd cd) n d _ rfl wr (HNO.out.below hwr) hnm HKN.out hokr
      have HANY := Lib.hid hany; have HDM := Lib.hid hdm
      clear hany hdm hokr hnm hd hk1 hk2 hwr hqd
      by_cases hq : qd < qo
      · have hqz : (qd : Int) < (qo : Int) := by omega
        have HLT := Lib.hid (show decide (d.length < n.length) = true by simp only [decide_eq_true_eq]; have := HQD.out; have := HQO.out; omega)
        go_wp2_with fail
        refine hn.mono ?_
        rintro e w3 ⟨rfl, hb3⟩
        have HB3 := Lib.hid (HB.out.trans (hb3.mono HB.out.size))
        clear hn hb3 hcell
        obtain ⟨q, hq2⟩ : ∃ q, underN n d = q := ⟨_, rfl⟩
        have HQ := Lib.hid hq2
        rw [hq2] at HANY ⊢
        clear hq2
        cases q
        · go_wp2
          go_roundw
          case measure => simp [intOf]; omega
          case rel => exact ⟨k + 1, by go_num, by omega, Lib.hid (by rw [HANY.out, Bool.and_false]), HB3⟩
        · have H1 : Hid (res = true) := Lib.hid (by rw [HSO.out, List.any_eq_true]; exact ⟨d, HDM.out, by rw [HLT.out, HQ.out]; rfl⟩)
          go_wp2
          go_ret
          exact ⟨by rw [H1.out]; rfl, HB0.out.trans (HB3.out.mono HB0.out.size)⟩
      · have hqz : ¬ (qd : Int) < (qo : Int) := by omega
        have HLT := Lib.hid (show decide (d.length < n.length) = false by simp only [decide_eq_false_iff_not]; have := HQD.out; have := HQO.out; omega)
        clear hn
        go_wp2
        go_roundw
        case measure => simp [intOf]; omega
        case rel => exact ⟨k + 1, by go_num, by omega, Lib.hid (by rw [HANY.out, HLT.out, Bool.false_and]), HB⟩
    · obtain rfl : k = m := by omega
      have hn := HN.out
      rw [List.take_of_length_le (by have := HDL.out; omega)] at hn
      have H1 : Hid (res = false) := Lib.hid (by rw [HSO.out]; exact hn)
      clear hn
      go_wp2
      go_ret
      exact ⟨by rw [H1.out]; rfl, HB0.out.trans (HB.out.mono HB0.out.size)⟩
end Go.Proofs.Ytckammgnmgkieaa

/-
  check.each: the iterator over a row of sets.
-/
namespace Go.Proofs.Ytckammgnmgkieaa
set_option maxRecDepth 20000
open Go.RowKit Go.Shelf
set_option maxRecDepth 20000
set_option linter.unusedVariables false
set_option linter.unusedSimpArgs false
/-- A set's four cells, each written out. -/
abbrev SV := (Option Addr × Nat × Nat) × Int × Int × (Option Addr × Nat × Nat)
def eV {m : Nat} (G : Fin m → SV) (x : Fin m) : Array Value := #[.agg #[.slice (G x).1.1 (G x).1.2.1 (G x).1.2.2, .int .i64 (G x).2.1, .int .u32 (G x).2.2.1, .slice (G x).2.2.2.1 (G x).2.2.2.2.1 (G x).2.2.2.2.2]]
def EAt (W : World) (b off : Nat) {m : Nat} (G : Fin m → SV) : Prop := ∀ x : Fin m, W.cell? ⟨b, off + x.val * 4, none⟩ = some (.slice (G x).1.1 (G x).1.2.1 (G x).1.2.2) ∧ W.cell? ⟨b, off + x.val * 4 + 1, none⟩ = some (.int .i64 (G x).2.1) ∧ W.cell? ⟨b, off + x.val * 4 + 2, none⟩ = some (.int .u32 (G x).2.2.1) ∧ W.cell? ⟨b, off + x.val * 4 + 3, none⟩ = some (.slice (G x).2.2.2.1 (G x).2.2.2.2.1 (G x).2.2.2.2.2)
theorem check_each (v : Value) (w : World) (hv : v.oneCell' = true) :
    Calls Try.prog 19 #[v] w fun e w' => e = .returned (.func (.func 38) #[] #[.pointer (some ⟨w.heap.size, 0, none⟩)]) ∧ w' = w.alloc (.cells #[v] 55) := by
  go_enter Try.func19, Try.ntmps19
  go_wp2
  go_ret
  exact ⟨rfl, rfl⟩
section
attribute [local go_sem] Oper.semAt_some
set_option maxRecDepth 100000 in
set_option maxHeartbeats 2000000 in
theorem each1_in (n : Nat) (hn : 1 ≤ n) (l b1 : Nat) (a : Option Addr) (b off m c B0 : Nat) (G : Fin m → SV) (ha : m = 0 ∨ a = some ⟨b, off, none⟩) (hm20 : m ≤ 1048576) (J Jx : List (Fin m) → World → Prop) (hAb : AbidesFrom B0 J)
    (hY : ∀ pre x W, J pre W → pre.length < m → YieldAt Fence.wide (n - 1) Try.prog l (eV G x) W fun e W' =>
      (e = .returned (.bool true) ∧ J (pre ++ [x]) W' ∧ KeepB b W W') ∨ (e = .returned (.bool false) ∧ Jx (pre ++ [x]) W'))
    (W : World) (hc1 : W.cell? ⟨b1, 0, none⟩ = some (.slice a m c)) (hG : EAt W b off G) (h0 : J [] W) :
    CallsIn Fence.wide n Try.prog 38 #[.func (.yield l) #[] #[], .pointer (some ⟨b1, 0, none⟩)] W fun e W' => (∃ v, e = .returned v) ∧
      ((∃ ys, ys = List.finRange m ∧ J ys W') ∨ (∃ pre, pre <+: List.finRange m ∧ Jx pre W')) := by
  have HAA := Lib.hid ha; have HG := Lib.hid hG
  clear ha hG
  refine callsIn_of_wp Try.func38 rfl trivial ?_ rfl
  simp only [Try.ntmps38, List.size_toArray, List.length_cons, List.length_nil, Nat.reduceAdd, Nat.reduceSub, Array.replicate_succ, Array.replicate_zero, List.push_toArray, List.append_toArray, List.nil_append, List.cons_append]
  gi_wp2
  gi_loopw [7] (fun i wr => ∃ k : Nat, k ≤ m ∧ i = .int .i64 (k : Int) ∧ J ((List.finRange m).take k) wr ∧ KeepB b W wr)
    (fun i _ => ((m : Int) - intOf i).toNat)
  case atStart => exact ⟨0, Nat.zero_le _, rfl, h0, KeepB.refl _ _⟩
  case round =>
    obtain ⟨k, hk, rfl, hJs, hnx⟩ := hrel
    by_cases hlt : k < m
    · have hsl : (k : Int) < (m : Int) := by omega
      obtain rfl : a = some ⟨b, off, none⟩ := by
        rcases HAA.out with h | h
        · omega
        · exact h
      obtain ⟨g0, g1, g2, g3⟩ := HG.out ⟨k, hlt⟩
      simp only at g0 g1 g2 g3
      have c0 := (hnx.cell (o := off + k * 4)).trans g0
      have c1 := (hnx.cell (o := off + k * 4 + 1)).trans g1
      have c2 := (hnx.cell (o := off + k * 4 + 2)).trans g2
      have c3 := (hnx.cell (o := off + k * 4 + 3)).trans g3
      have hv : eV G (⟨k, hlt⟩ : Fin m) = #[.agg #[.slice (G ⟨k, hlt⟩).1.1 (G ⟨k, hlt⟩).1.2.1 (G ⟨k, hlt⟩).1.2.2, .int .i64 (G ⟨k, hlt⟩).2.1, .int .u32 (G ⟨k, hlt⟩).2.2.1, .slice (G ⟨k, hlt⟩).2.2.2.1 (G ⟨k, hlt⟩).2.2.2.2.1 (G ⟨k, hlt⟩).2.2.2.2.2]] := rfl
      generalize (G ⟨k, hlt⟩).1.1 = p0 at *
      generalize (G ⟨k, hlt⟩).1.2.1 = q0 at *
      generalize (G ⟨k, hlt⟩).1.2.2 = r0 at *
      generalize (G ⟨k, hlt⟩).2.1 = ty at *
      generalize (G ⟨k, hlt⟩).2.2.1 = tl at *
      generalize (G ⟨k, hlt⟩).2.2.2.1 = p3 at *
      generalize (G ⟨k, hlt⟩).2.2.2.2.1 = q3 at *
      generalize (G ⟨k, hlt⟩).2.2.2.2.2 = r3 at *
      have hbl : b < wr.heap.size := World.block_lt_of_cell? wr _ c0
      have hJ2 := hAb _ wr (wr.alloc (.cells #[.slice p0 q0 r0, .int .i64 ty, .int .u32 tl, .slice p3 q3 r3] 64)) none hJs (World.grownBy_alloc wr _ none) (fun r e => by cases e)
      obtain ⟨fn, tmps, assign, body, hy, hR⟩ := hY _ ⟨k, hlt⟩ _ hJ2 (by simp; omega)
      rw [hv] at hy
      have hnx2 := hnx.trans (KeepB.alloc wr (.cells #[.slice p0 q0 r0, .int .i64 ty, .int .u32 tl, .slice p3 q3 r3] 64) hbl)
      clear hv g0 g1 g2 g3 hJ2
      gi_wp2
      refine hR.mono ?_
      rintro e W3 (⟨rfl, hJ3, hk3⟩ | ⟨rfl, hJx3⟩)
      · gi_wp2
        go_roundw
        case rel => exact ⟨k + 1, by omega, by go_num, by rw [finRange_take_succ hlt]; exact hJ3, hnx2.trans hk3⟩
        case measure => simp [intOf]; omega
      · gi_wp2
        refine bodyPost_ret (results_none rfl _ _ _) rfl ?_
        exact ⟨⟨_, rfl⟩, .inr ⟨_, by rw [← finRange_take_succ hlt]; exact List.take_prefix _ _, hJx3⟩⟩
    · obtain rfl : k = m := by omega
      have hsl : ¬ (k : Int) < (k : Int) := by omega
      rw [List.take_of_length_le (by simp)] at hJs
      gi_wp2
      go_end0
      first
        | exact ⟨⟨_, rfl⟩, .inl hJs⟩
        | exact ⟨⟨_, rfl⟩, .inl ⟨_, rfl, hJs⟩⟩
theorem each_stops (n : Nat) (hn : 1 ≤ n) (b1 : Nat) (a : Option Addr) (b off m c : Nat) (G : Fin m → SV) (ha : m = 0 ∨ a = some ⟨b, off, none⟩) (hm20 : m ≤ 1048576) (w : World) (h1 : b1 < w.heap.size) (hc1 : w.cell? ⟨b1, 0, none⟩ = some (.slice a m c)) (hG : ∀ W, Below w.heap.size w W → EAt W b off G) :
    SeqStopsK Fence.wide n Try.prog 38 #[.pointer (some ⟨b1, 0, none⟩)] (eV G) (KeepB b) (fun ys => ys = List.finRange m) (fun pre => pre <+: List.finRange m) m w := fun l J Jx W hW hJ _ hY h0 =>
  each1_in n hn l b1 a b off m c _ G ha hm20 J Jx hJ hY W ((hW.cell (p := ⟨b1, 0, none⟩) h1).trans hc1) (hG W hW) h0
end
end Go.Proofs.Ytckammgnmgkieaa

/-
  The check's view, plainly: a set's kinds, what is at the origin, all flaws; what a record more does to them (CheckGrows).
-/
namespace Go.Proofs.Ytckammgnmgkieaa
set_option maxRecDepth 20000
open Go.RowKit
set_option linter.unusedVariables false
set_option linter.unusedSimpArgs false
/-- Has the owner of a set one of another type? -/
def otherM (ss : List St) (s : St) : Bool := ss.any fun o => decide (¬ o.ty = s.ty) && sameN o.owner s.owner
/-- The records that make cuts. -/
def cutsM (rs : List Rc) : List Rc := (rs.filter fun r => decide (r.data.ty = 2)).map fun r => ⟨r.owner, 0, r.data⟩
/-- The names, Inside, that have a DNAME. -/
def coversM (o : Nm) (rs : List Rc) (ss : List St) : List Nm := (ss.filter fun s => decide (s.ty = 39) && decide (whereM o rs s.owner = 1)).map St.owner
def kind4 (o : Nm) (w : Int) (s : St) : Bool := decide (w = 0) || (decide (s.ty = 6) && !sameN s.owner o)
def kind5 (oth : Bool) (s : St) : Bool := decide (s.ty = 5) && oth
def kind6 (s : St) : Bool := (decide (s.ty = 5) || decide (s.ty = 39)) && decide (1 < s.data.length)
def kind7 (w : Int) (s : St) : Bool := !(decide (s.ty = 1) || decide (s.ty = 28)) && ((decide (w = 2) && !decide (s.ty = 2)) || decide (w = 3))
def kind8 (w : Int) (cov : Bool) : Bool := decide (w = 1) && cov
def kind9 (s : St) : Bool := decide (s.ty = 2) && wildN s.owner
def iff1 (b : Bool) (k : Int) : List Int := if b = true then [k] else []
def kindsW (o : Nm) (w : Int) (oth cov : Bool) (s : St) : List Int := iff1 (kind4 o w s) 4 ++ (iff1 (kind5 oth s) 5 ++ (iff1 (kind6 s) 6 ++ (iff1 (kind7 w s) 7 ++ (iff1 (kind8 w cov) 8 ++ iff1 (kind9 s) 9))))
def kindsM (o : Nm) (rs : List Rc) (ss : List St) (s : St) : List Int := kindsW o (whereM o rs s.owner) (otherM ss s) (coverM (coversM o rs ss) s.owner) s
def at0M (o : Nm) (rs : List Rc) : List Fl :=
  (match ofM rs o 6 with | none => [⟨1, o, 6⟩] | some s => if 1 < s.data.length then [⟨2, o, 6⟩] else []) ++ (match ofM rs o 2 with | none => [⟨3, o, 2⟩] | some _ => [])
/-- All flaws of a zone whose row is in its own order, ahead of the sort. -/
def allF (o : Nm) (c : List Rc) : List Fl := flawsM (at0M o c) (kindsM o c (setsM c)) (setsM c)
theorem mem_iff1 {b : Bool} {k x : Int} : x ∈ iff1 b k ↔ b = true ∧ x = k := by unfold iff1; split <;> simp_all
theorem mem_kinds {o : Nm} {w : Int} {oth cov : Bool} {s : St} {x : Int} : x ∈ kindsW o w oth cov s ↔ (kind4 o w s = true ∧ x = 4) ∨ (kind5 oth s = true ∧ x = 5) ∨ (kind6 s = true ∧ x = 6) ∨ (kind7 w s = true ∧ x = 7) ∨ (kind8 w cov = true ∧ x = 8) ∨ (kind9 s = true ∧ x = 9) := by
  unfold kindsW
  simp only [List.mem_append, mem_iff1]
theorem kinds_rise (o : Nm) (w : Int) (oth cov : Bool) (s : St) : (kindsW o w oth cov s).Pairwise (· < ·) ∧ ∀ k ∈ kindsW o w oth cov s, 4 ≤ k := by
  refine ⟨?_, fun k hk => ?_⟩
  · unfold kindsW iff1
    cases kind4 o w s <;> cases kind5 oth s <;> cases kind6 s <;> cases kind7 w s <;> cases kind8 w cov <;> cases kind9 s <;> decide
  · rcases mem_kinds.1 hk with h | h | h | h | h | h <;> omega
theorem kinds_few (o : Nm) (w : Int) (oth cov : Bool) (s : St) : (kindsW o w oth cov s).length ≤ 6 := by
  unfold kindsW iff1
  cases kind4 o w s <;> cases kind5 oth s <;> cases kind6 s <;> cases kind7 w s <;> cases kind8 w cov <;> cases kind9 s <;> decide
theorem kinds_word {o : Nm} {w : Int} {oth cov : Bool} {s : St} : ∀ k ∈ kindsW o w oth cov s, 4 ≤ k ∧ k ≤ 9 := fun k hk => by
  rcases mem_kinds.1 hk with h | h | h | h | h | h <;> omega
theorem at0_apart (o : Nm) (rs : List Rc) : ((at0M o rs).Pairwise fun a b => compareF a b ≠ 0) ∧ (∀ a ∈ at0M o rs, 1 ≤ a.kind ∧ a.kind < 4) ∧ (at0M o rs).length ≤ 2 ∧ ∀ a ∈ at0M o rs, a.owner = o := by
  have key : ∀ a b : Fl, a.kind ≠ b.kind → compareF a b ≠ 0 := fun a b h e => h (compareF_zero.1 e).2.1
  unfold at0M
  split
  · split
    · refine ⟨?_, ?_, by simp, ?_⟩
      · simp only [List.cons_append, List.nil_append, List.pairwise_cons, List.mem_singleton, forall_eq, List.not_mem_nil, false_implies, implies_true, List.Pairwise.nil, and_true]
        exact key _ _ (by simp)
      · intro a ha; simp at ha; rcases ha with rfl | rfl <;> simp
      · intro a ha; simp at ha; rcases ha with rfl | rfl <;> rfl
    · refine ⟨by simp, ?_, by simp, ?_⟩
      · intro a ha; simp at ha; subst ha; simp
      · intro a ha; simp at ha; subst ha; rfl
  · split
    · split
      · refine ⟨?_, ?_, by simp, ?_⟩
        · simp only [List.cons_append, List.nil_append, List.pairwise_cons, List.mem_singleton, forall_eq, List.not_mem_nil, false_implies, implies_true, List.Pairwise.nil, and_true]
          exact key _ _ (by simp)
        · intro a ha; simp at ha; rcases ha with rfl | rfl <;> simp
        · intro a ha; simp at ha; rcases ha with rfl | rfl <;> rfl
      · refine ⟨by simp, ?_, by simp, ?_⟩
        · intro a ha; simp at ha; subst ha; simp
        · intro a ha; simp at ha; subst ha; rfl
    · split
      · refine ⟨by simp, ?_, by simp, ?_⟩
        · intro a ha; simp at ha; subst ha; simp
        · intro a ha; simp at ha; subst ha; rfl
      · simp
theorem allF_apart (o : Nm) {c : List Rc} (hc : StrictR c) : (allF o c).Pairwise fun a b => compareF a b ≠ 0 :=
  flaws_apart (at0_apart o c).1 (fun a ha => ((at0_apart o c).2.1 a ha).2) (fun s _ => kinds_rise _ _ _ _ _) (sets_rise _ _ (Nat.le_refl _) hc)
theorem allF_kind {o : Nm} {c : List Rc} : ∀ f ∈ allF o c, 1 ≤ f.kind ∧ f.kind ≤ 9 := fun f hf => by
  unfold allF flawsM at hf
  rcases List.mem_append.1 hf with h | h
  · have := (at0_apart o c).2.1 f h; omega
  · obtain ⟨s, _, h⟩ := List.mem_flatMap.1 h
    obtain ⟨k, hk, rfl⟩ := List.mem_map.1 h
    have := kinds_word k hk
    simp only; omega
theorem point_cuts (rs : List Rc) (n : Nm) : pointM (cutsM rs) n = pointM rs n := by
  unfold pointM cutsM
  rw [List.filter_map, List.map_map, List.filter_filter]
  congr 1
  apply List.filter_congr
  intro r _
  simp only [Function.comp]
  cases decide (r.data.ty = 2) <;> cases underN n r.owner <;> rfl
theorem where_cuts (o : Nm) (rs : List Rc) (n : Nm) : whereM o (cutsM rs) n = whereM o rs n := by
  have : cutM o (cutsM rs) n = cutM o rs n := by unfold cutM; rw [point_cuts]
  unfold whereM; rw [this]
end Go.Proofs.Ytckammgnmgkieaa

/-
  A view: (check.view).hasOther.
-/
namespace Go.Proofs.Ytckammgnmgkieaa
set_option maxRecDepth 20000
open Go.RowKit Go.Shelf
set_option maxRecDepth 20000
set_option linter.unusedVariables false
set_option linter.unusedSimpArgs false
/-- A row of sets, as check.each goes over it. -/
theorem RowS.vals {W : World} {a : Option Addr} {n c : Nat} {l : List St} (h : RowS W (.slice a n c) l) : ∃ (b off : Nat) (G : Fin l.length → SV), (l.length = 0 ∨ a = some ⟨b, off, none⟩) ∧ b < W.heap.size + 1 ∧ n = l.length ∧ (∀ W', Below W.heap.size W W' → EAt W' b off G) ∧
    ∀ x : Fin l.length, (G x).2.1 = l[x].ty ∧ (G x).2.2.2.2.1 = l[x].data.length ∧ SetR W [.slice (G x).1.1 (G x).1.2.1 (G x).1.2.2, .int .i64 (G x).2.1, .int .u32 (G x).2.2.1, .slice (G x).2.2.2.1 (G x).2.2.2.2.1 (G x).2.2.2.2.2] l[x] := by
  have hn : n = l.length := by obtain ⟨a', c', e⟩ := h.shape; injection e
  by_cases h0 : 0 < l.length
  · obtain ⟨b, off, e, hb, hel⟩ := h.elem h0
    have hc : ∀ x : Fin l.length, ∃ v : SV, v.2.1 = l[x].ty ∧ v.2.2.2.2.1 = l[x].data.length ∧ SetR W [.slice v.1.1 v.1.2.1 v.1.2.2, .int .i64 v.2.1, .int .u32 v.2.2.1, .slice v.2.2.2.1 v.2.2.2.2.1 v.2.2.2.2.2] l[x] ∧
        ∀ W', Below W.heap.size W W' → W'.cell? ⟨b, off + x.val * 4, none⟩ = some (.slice v.1.1 v.1.2.1 v.1.2.2) ∧ W'.cell? ⟨b, off + x.val * 4 + 1, none⟩ = some (.int .i64 v.2.1) ∧ W'.cell? ⟨b, off + x.val * 4 + 2, none⟩ = some (.int .u32 v.2.2.1) ∧ W'.cell? ⟨b, off + x.val * 4 + 3, none⟩ = some (.slice v.2.2.2.1 v.2.2.2.2.1 v.2.2.2.2.2) := fun x => by
      obtain ⟨x0, x3, q1, q2⟩ := hel x.val x.isLt
      exact ⟨(x0, l[x].ty, (l[x].ttl : Int), (x3.1, l[x].data.length, x3.2.2)), rfl, rfl, q1, q2⟩
    refine ⟨b, off, fun x => Classical.choose (hc x), .inr e, by omega, hn, fun W' hB x => (Classical.choose_spec (hc x)).2.2.2 W' hB, fun x => ?_⟩
    have := Classical.choose_spec (hc x)
    exact ⟨this.1, this.2.1, this.2.2.1⟩
  · have hz : l.length = 0 := by omega
    refine ⟨0, 0, fun x => absurd x.isLt (by omega), .inl hz, by omega, hn, fun W' _ x => absurd x.isLt (by omega), fun x => absurd x.isLt (by omega)⟩
/-- A set's cells, written out: its owner. -/
theorem SetR.own {W : World} {p0 q0 k0 p3 q3 k3} {y t : Int} {s : St} (h : SetR W [.slice p0 q0 k0, .int .i64 y, .int .u32 t, .slice p3 q3 k3] s) : NmAt W (.slice p0 q0 k0) s.owner ∧ y = s.ty ∧ q3 = s.data.length := by
  obtain ⟨z0, z3, ds, e, q1, q2, q3', q4⟩ := h
  simp only [List.cons.injEq, and_true] at e
  obtain ⟨e0, e1, _, e3⟩ := e
  rw [e0]
  injection e1 with _ e1
  obtain ⟨_, _, e4, _⟩ := id q2
  injection e3 with _ e3 _
  injection e4 with _ e4 _
  exact ⟨q1, e1, by rw [e3, e4, q3']⟩
def oneT (s o : St) : Bool := decide (¬ o.ty = s.ty) && sameN o.owner s.owner
/-- A round has said: here. -/
def OthX (w : World) (b4 : Nat) (ss : List St) (s : St) (c : Code) (pre : List (Fin ss.length)) (W : World) : Prop :=
  c = .ret ∧ ∃ p x, pre = p ++ [x] ∧ oneT s ss[x] = true ∧ Boxed W b4 4 (.bool true) ∧ Below w.heap.size w W
theorem othX_own {w W2 : World} {b4 : Nat} {ss : List St} {s : St} (c : Code) (h1 : b4 < W2.heap.size) (hw : w.heap.size ≤ W2.heap.size) : OwnFrom W2.heap.size (OthX w b4 ss s c) := by
  rintro pre W W' row ⟨k1, p, x, k2, k3, k4, k5⟩ hg hr
  exact ⟨k1, p, x, k2, k3, k4.kept hg (fun e => by have := (hr b4 e.symm).1; omega), k5.grown hg k5.size (fun r e => by have := (hr r e).1; omega)⟩
section
attribute [local go_sem] Oper.semAt_some
set_option maxRecDepth 100000 in
set_option maxHeartbeats 16000000 in
theorem view_hasOther (sa : Option Addr) (sn sc : Nat) (ov rv cv : Value) (ss : List St) (p0 : Option Addr) (q0 k0 : Nat) (ty tl : Int) (p3 : Option Addr) (q3 k3 : Nat) (s : St) (w : World) (hone : ov.oneCell' = true ∧ rv.oneCell' = true ∧ cv.oneCell' = true) (hS : RowS w (.slice sa sn sc) ss) (hOK : ∀ o ∈ ss, NmOK o.owner) (hl : ss.length ≤ 1048576) (hs : SetR w [.slice p0 q0 k0, .int .i64 ty, .int .u32 tl, .slice p3 q3 k3] s) (hko : NmOK s.owner) :
    Calls Try.prog 39 #[.agg #[.slice sa sn sc, ov, rv, cv], .agg #[.slice p0 q0 k0, .int .i64 ty, .int .u32 tl, .slice p3 q3 k3]] w fun e w' => e = .returned (.bool (otherM ss s)) ∧ Below w.heap.size w w' := by
  obtain ⟨b, off, G, ha, hbl, hn, hG, hGS⟩ := hS.vals
  subst hn
  obtain ⟨hown, hty, -⟩ := hs.own
  subst hty
  have HN := Lib.hid (fun (x : Fin ss.length) (W : World) (hb : Below w.heap.size w W) => kn_NSame (.slice (G x).1.1 (G x).1.2.1 (G x).1.2.2) (.slice p0 q0 k0) ss[x].owner s.owner _ rfl W (((hGS x).2.2.own.1).below hb) (hown.below hb) (hOK _ (List.getElem_mem _)) hko)
  have HGT := Lib.hid (fun x => (hGS x).1)
  obtain ⟨h1o, h2o, h3o⟩ := hone
  have HA := Lib.hid ha; have HG := Lib.hid hG; have HBL := Lib.hid hbl
  have HRS := Lib.hid (show otherM ss s = ss.any (oneT s) from rfl)
  generalize otherM ss s = res at *
  obtain ⟨ty, hty⟩ : ∃ y, s.ty = y := ⟨_, rfl⟩
  rw [hty]
  have HTY := Lib.hid hty
  clear hty
  clear ha hG hGS hbl hs hown hS hOK hko
  obtain ⟨W0, hW0⟩ : ∃ W0, ((w.alloc (.cells #[.slice sa ss.length sc, ov, rv, cv] 57)).alloc (.cells #[.slice p0 q0 k0, .int .i64 ty, .int .u32 tl, .slice p3 q3 k3] 64)).alloc (.cells #[.bool false] 4) = W0 := ⟨_, rfl⟩
  have HB0 : Hid (Below w.heap.size w W0) := Lib.hid (by rw [← hW0]; exact (((Below.refl w.heap.size w).alloc (Nat.le_refl _) _).alloc (by simp) _).alloc (by simp; omega) _)
  have HZ0 : Hid (W0.heap.size = w.heap.size + 3) := Lib.hid (by rw [← hW0]; simp)
  have x0 : W0.heap[w.heap.size]? = some (.cells #[.slice sa ss.length sc, ov, rv, cv] 57) := by
    rw [← hW0]; exact (Below.heap_alloc _ _ _ (by simp; omega)).trans ((Below.heap_alloc _ _ _ (by simp)).trans (knew w _))
  have x1 : W0.heap[w.heap.size + 1]? = some (.cells #[.slice p0 q0 k0, .int .i64 ty, .int .u32 tl, .slice p3 q3 k3] 64) := by
    have h := knew (w.alloc (.cells #[.slice sa ss.length sc, ov, rv, cv] 57)) (.cells #[.slice p0 q0 k0, .int .i64 ty, .int .u32 tl, .slice p3 q3 k3] 64)
    rw [World.size_alloc] at h
    rw [← hW0]; exact (Below.heap_alloc _ _ _ (by simp)).trans h
  have x2 : Boxed W0 (w.heap.size + 1 + 1) 4 (.bool false) := by
    have h := Boxed.new ((w.alloc (.cells #[.slice sa ss.length sc, ov, rv, cv] 57)).alloc (.cells #[.slice p0 q0 k0, .int .i64 ty, .int .u32 tl, .slice p3 q3 k3] 64)) 4 (.bool false)
    rw [World.size_alloc, World.size_alloc] at h
    rw [← hW0]; exact h
  have X0 := Lib.hid x0; have X1 := Lib.hid x1; have X2 := Lib.hid x2
  have y0 := kcell x0 0 _ rfl
  clear x0 x1 x2
  refine (callsIn_wide (n := 8)).1 ?_
  refine callsIn_of_wp_marks Try.func39 rfl trivial ?_ rfl
  simp only [Try.ntmps39, List.size_toArray, List.length_cons, List.length_nil, Nat.reduceAdd, Nat.reduceSub, Array.replicate_succ, Array.replicate_zero, List.push_toArray, List.append_toArray, List.nil_append, List.cons_append]
  refine wpIn_wide.2 ?_
  go_wp2_with fail
  clear hW0
  refine (check_each _ _ rfl).mono ?_
  rintro e w' ⟨rfl, rfl⟩
  obtain ⟨W2, hW2⟩ : ∃ W2, W0.alloc (.cells #[.slice sa ss.length sc] 55) = W2 := ⟨_, rfl⟩
  have hB2 : Below W0.heap.size W0 W2 := by rw [← hW2]; exact (Below.refl W0.heap.size W0).alloc (Nat.le_refl _) _
  have HWW := Lib.hid (HB0.out.trans (hB2.mono HB0.out.size))
  have HZ2 : Hid (W2.heap.size = w.heap.size + 4) := Lib.hid (by rw [← hW2, World.size_alloc, HZ0.out])
  have hxe : W2.cell? ⟨W0.heap.size, 0, none⟩ = some (.slice sa ss.length sc) := by rw [← hW2]; exact kcell (knew W0 _) 0 _ rfl
  have X1b := Lib.hid ((hB2.block _ (kblock_lt X1.out)).trans X1.out)
  have X2b : Hid (Boxed W2 (w.heap.size + 1 + 1) 4 (.bool false)) := Lib.hid ((hB2.block _ X2.out.lt).trans X2.out)
  have HXE := Lib.hid hxe
  clear hB2 hxe X1 X2 X0 y0
  go_wp2_with fail
  refine (wpIn_wide (n := 8)).1 ?_
  clear hW2
  refine wpIn_rangeFunc_ownH rfl (by omega) (gf := 38) (lb := #[.pointer (some ⟨W0.heap.size, 0, none⟩)]) rfl trivial (enters_of Try.func38 (by kernel_rfl) rfl)
    (each_stops _ (by omega) W0.heap.size sa b off ss.length sc G HA.out hl W2 (by rw [HZ2.out, HZ0.out]; omega) HXE.out (fun W hW => HG.out W (HWW.out.trans (hW.mono HWW.out.size)))) keepB_t
    (keepB_b (by have := HBL.out; rw [HZ2.out]; omega)) (Below.refl _ _) (fun _ => rfl)
    (fun pre W => Below W2.heap.size W2 W ∧ ∀ x ∈ pre, oneT s ss[x] = false)
    (OthX w (w.heap.size + 1 + 1) ss s)
    (OwnFrom.and (ownFrom_below (Nat.le_refl _) (Nat.le_refl _)) (ownFrom_pure _ _))
    (fun k => othX_own k (by have := HZ2.out; omega) (by have := HZ2.out; omega))
    ⟨Below.refl _ _, by simp⟩
    (fun x a' W => ∃ B5, a' = { tmps := #[.agg #[.slice sa ss.length sc, ov, rv, cv], .agg #[.slice p0 q0 k0, .int .i64 ty, .int .u32 tl, .slice p3 q3 k3], .pointer (some ⟨w.heap.size, 0, none⟩), .pointer (some ⟨w.heap.size + 1, 0, none⟩), .pointer (some ⟨w.heap.size + 1 + 1, 0, none⟩), .pointer (some ⟨B5, 0, none⟩), .pointer (some ⟨w.heap.size, 0, none⟩), .slice sa ss.length sc, .func (.func 38) #[] #[.pointer (some ⟨W0.heap.size, 0, none⟩)], .agg #[.slice (G x).1.1 (G x).1.2.1 (G x).1.2.2, .int .i64 (G x).2.1, .int .u32 (G x).2.2.1, .slice (G x).2.2.2.1 (G x).2.2.2.2.1 (G x).2.2.2.2.2], undef, undef, undef, undef, undef, undef, undef, undef, undef, undef, undef, undef], defers := [] } ∧ W2.heap.size ≤ B5 ∧ W.heap[B5]? = some (.cells #[.slice (G x).1.1 (G x).1.2.1 (G x).1.2.2, .int .i64 (G x).2.1, .int .u32 (G x).2.2.1, .slice (G x).2.2.2.1 (G x).2.2.2.2.1 (G x).2.2.2.2.2] 64)) (fun x a' u W W' row ⟨B5, ha, hb, hx⟩ hg hr => ⟨B5, ha, hb, (hg.block B5 (kblock_lt hx) (fun e => by obtain ⟨_, o, ho, hcell⟩ := hr B5 e.symm; rw [hx] at ho; cases ho; cases hcell)).trans hx⟩) ?assign ?body ?done ?stop
  case assign =>
    intro l pre x W K hi hK
    have hbA : ∀ o, Below W.heap.size W (W.alloc o) := fun o => (Below.refl _ W).alloc (Nat.le_refl _) o
    have hbw : b < W.heap.size := by have h1 := hi.1.size; have := HBL.out; rw [HZ2.out] at h1; omega
    unfold eV
    gi_wp2
    exact hK _ _ ((KeepsOthers.of_below (hbA _)).from _) (KeepB.alloc W _ hbw) ⟨hi.1.alloc hi.1.size _, hi.2⟩ ⟨W.heap.size, rfl, hi.1.size, knew W _⟩
  case body =>
    rintro l pre x a' W hl2 hlp ⟨hB, hno⟩ ⟨B5, rfl, hB5, hx5⟩ hlt
    have hww : Below w.heap.size w W := HWW.out.trans (hB.mono HWW.out.size)
    have hn5 : Below w.heap.size w W := hww
    have hgt := HGT.out x
    have x3 := (hB.block _ (kblock_lt X1b.out)).trans X1b.out
    have x4 : Boxed W (w.heap.size + 1 + 1) 4 (.bool false) := (hB.block _ X2b.out.lt).trans X2b.out
    have hcn := HN.out x W hww
    have HBW : Hid (b < W.heap.size) := Lib.hid (by have h1 := hB.size; have := HBL.out; rw [HZ2.out] at h1; omega)
    have hone : oneT s ss[x] = (decide (¬ (G x).2.1 = ty) && sameN ss[x].owner s.owner) := by unfold oneT; rw [hgt]; exact congrArg (fun z => decide (¬ ss[x].ty = z) && sameN ss[x].owner s.owner) HTY.out
    have y0 := kcell hx5 0 _ rfl; have y1 := kcell hx5 1 _ rfl
    have z0 := kcell x3 0 _ rfl; have z1 := kcell x3 1 _ rfl
    have f4 := x4.frozen; have c4 := x4.cell
    have HONE := Lib.hid hone; have HNO := Lib.hid hno; have HBB := Lib.hid hB; have HW := Lib.hid hww; have HX4 := Lib.hid x4
    generalize (G x).1.1 = g0 at *
    generalize (G x).1.2.1 = g1 at *
    generalize (G x).1.2.2 = g2 at *
    generalize (G x).2.1 = tx at *
    generalize sameN ss[x].owner s.owner = sm at *
    clear hone hno hB hww hn5 hgt x3 x4 hlp hlt hB5 hx5
    by_cases ht : tx = ty
    · have htb : (!(tx == ty)) = false := by simp [ht]
      have HF : Hid (oneT s ss[x] = false) := Lib.hid (by rw [HONE.out, ht]; simp)
      subst ht
      clear htb hcn HONE
      gi_wp2
      refine ⟨trivial, ?_⟩
      gi_wp2
      refine ⟨(KeepsOthers.refl _).from _, KeepB.refl _ _, HBB.out, fun y hy => ?_⟩
      rcases List.mem_append.1 hy with hy | hy
      · exact HNO.out y hy
      · obtain rfl := List.mem_singleton.1 hy; exact HF.out
    · have htb : (tx == ty) = false := by simpa using ht
      have htn : (tx != ty) = true := by simpa using ht
      have htd : (!(tx == ty)) = true := by simp [htb]
      have HT : Hid (oneT s ss[x] = sm) := Lib.hid (by rw [HONE.out, decide_eq_true ht, Bool.true_and])
      clear ht HONE
      cases sm with
      | false =>
        gi_wp2_with (refine ⟨trivial, ?_⟩; gi_at_call 12; refine (CallsIn.inRound l (callsIn_wide.2 hcn)).mono ?_; rintro e w9 ⟨rfl, hb9⟩)
        refine ⟨(KeepsOthers.of_below hb9).from _, hb9.block b HBW.out, HBB.out.trans (hb9.mono HBB.out.size), fun y hy => ?_⟩
        rcases List.mem_append.1 hy with hy | hy
        · exact HNO.out y hy
        · obtain rfl := List.mem_singleton.1 hy; exact HT.out
      | true =>
        gi_wp2_with (refine ⟨trivial, ?_⟩; gi_at_call 12; refine (CallsIn.inRound l (callsIn_wide.2 hcn)).mono ?_; rintro e w9 ⟨rfl, hb9⟩; have e1 : Boxed w9 (w.heap.size + 1 + 1) 4 (.bool false) := (hb9.block _ HX4.out.lt).trans HX4.out; have q1 := e1.cell; have q2 := e1.frozen; have E1 := Lib.hid e1; clear e1)
        exact ⟨((KeepsOthers.of_below hb9).trans (KeepsOthers.setCell _ _ _)).from _, rfl, pre, x, rfl, HT.out, E1.out.set _, (HW.out.trans (hb9.mono HW.out.size)).setCell (p := ⟨w.heap.size + 1 + 1, 0, none⟩) (by simp; omega) _⟩
  case done =>
    rintro D xs W hD rfl ⟨hB, hno⟩ hK
    have H1 : Hid (res = false) := Lib.hid (by
      rw [HRS.out, List.any_eq_false]
      intro z hz
      obtain ⟨i, hi, rfl⟩ := List.mem_iff_getElem.1 hz
      have := hno ⟨i, hi⟩ (List.mem_finRange _)
      simpa using this)
    have c2 : Boxed W (w.heap.size + 1 + 1) 4 (.bool false) := (hB.block _ X2b.out.lt).trans X2b.out
    have q1 := c2.cell; have q2 := c2.frozen
    have hww : Below w.heap.size w W := HWW.out.trans (hB.mono HWW.out.size)
    have HC2 := Lib.hid c2; have HW := Lib.hid hww; have HKD := Lib.hid hK
    have hd2 : D ≠ w.heap.size + 1 + 1 := by have := HZ2.out; omega
    have hd3 : w.heap.size ≤ D := by have := HZ2.out; omega
    clear hB hno c2 hww hK
    go_wp2
    refine ⟨by simp, .inl ⟨_, _, rfl, run_takeDeferred (heap_setOther HKD.out hd2 _), ?_⟩⟩
    refine ⟨_, results_cellB rfl Try.underlying4 _ _ rfl (out_cell (HC2.out.set _) hd2.symm _), ?_⟩
    rw [H1.out]
    exact ⟨rfl, below_putO (HW.out.setCell (p := ⟨w.heap.size + 1 + 1, 0, none⟩) (by simp; omega) _) hd3 (Nat.le_refl _)⟩
  case stop =>
    rintro D k pre W hD hp ⟨rfl, p, x, rfl, hyes, c2, hww⟩ hK
    have H1 : Hid (res = true) := Lib.hid (by
      rw [HRS.out, List.any_eq_true]
      exact ⟨ss[x], List.getElem_mem _, hyes⟩)
    have HC2 := Lib.hid c2; have HW := Lib.hid hww; have HKD := Lib.hid hK
    have hd2 : D ≠ w.heap.size + 1 + 1 := by have := HZ2.out; omega
    have hd3 : w.heap.size ≤ D := by have := HZ2.out; omega
    clear hyes c2 hww hK hp
    gi_wp2
    refine ⟨by simp, .inl ⟨_, _, rfl, run_takeDeferred HKD.out, ?_⟩⟩
    refine ⟨_, results_cellB rfl Try.underlying4 _ _ rfl (out_cell HC2.out hd2.symm _), ?_⟩
    rw [H1.out]
    exact ⟨rfl, below_putO HW.out hd3 (Nat.le_refl _)⟩
end
end Go.Proofs.Ytckammgnmgkieaa

