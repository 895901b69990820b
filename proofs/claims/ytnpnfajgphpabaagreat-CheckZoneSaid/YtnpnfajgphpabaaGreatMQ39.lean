import Derived.Test.YtnpnfajgphpabaaGreatMQ19
import Derived.Test.YtnpnfajgphpabaaGreatMQ10
import Derived.Test.YtnpnfajgphpabaaGreatMQ34
namespace Go.Proofs.YtnpnfajgphpabaaGreat
set_option linter.unusedVariables false
set_option linter.unusedSimpArgs false
set_option linter.unusedVariables false
set_option linter.unusedSimpArgs false
set_option maxRecDepth 100000
set_option maxHeartbeats 8000000
open Go.RowKit Go.Shelf
def coverM (cs : List Nm) (n : Nm) : Bool := cs.any fun c => decide (c.length < n.length) && underN n c
theorem qgN {w : World} (sv ov rv : Value) (cv : Value) (cs : List Nm) (vn : Value) (n : Nm) (hs : sv.oneCell' = true ∧ ov.oneCell' = true ∧ rv.oneCell' = true) (hC : NmsAt w cv cs) (hCO : ∀ c ∈ cs, NmOK c) (hl : cs.length ≤ 1048576) (hO : NmAt w vn n) (hko : NmOK n) :
 Calls Tryz.prog 51 #[.agg #[sv, ov, rv, cv], vn] w fun e w' => e = .returned (.bool (coverM cs n)) ∧ Below w.heap.size w w' := by
 obtain ⟨vs, s1, s2, s3⟩ := hC
 obtain ⟨ac, cc, rfl, -⟩ := id s1
 obtain ⟨m, hm⟩ : ∃ m, vs.length = m := ⟨_, rfl⟩
 have HCN := qH0 (fun W (hb : Below w.heap.size w W) j (hj : j < vs.length) => s1.cell hb j hj)
 have HNM := qH0 (fun W (hb : Below w.heap.size w W) j (h1 : j < vs.length) (h2 : j < cs.length) => ((s3 j h1).below hb : NmAt W vs[j] cs[j]))
 have HSO := qH0 (show coverM cs n = cs.any fun c => decide (c.length < n.length) && underN n c from rfl)
 have HDL := qH0 (show cs.length = m by rw [← s2]; exact hm)
 have HVL := qH0 hm
 have hm20 : m ≤ 1048576 := by omega
 clear hl
 have HCO := qH0 hCO; have HKN := qH0 hko; have HNO := qH0 hO
 obtain ⟨ao, co, rfl, -⟩ := nmAt_sl.1 hO
 obtain ⟨qo, hqo⟩ : ∃ q, (List.map strV n).length = q := ⟨_, rfl⟩
 have HQO := qH0 (show n.length = qo by rw [← hqo, List.length_map])
 rw [hm]
 rw [hqo] at HNO ⊢
 generalize coverM cs n = res at *
 have X0 := knew w (.cells #[sv, ov, rv, .slice ac m cc] 60)
 have HB0 := qH0 ((Below.refl w.heap.size w).alloc (qN0) (.cells #[sv, ov, rv, .slice ac m cc] 60))
 have HHS := qH0 hs
 obtain ⟨h0, h1, h2⟩ := hs
 clear s1 s3 hCO hko hO hm hqo
 go_enter Tryz.func51, Tryz.ntmps51
 obtain ⟨w2, hw2⟩ : ∃ w2, w.alloc (.cells #[sv, ov, rv, .slice ac m cc] 60) = w2 := ⟨_, rfl⟩
 rw [hw2] at X0 HB0
 have y3 := kcell X0 3 _ rfl
 clear X0
 go_wp2
 clear hw2 y3
 go_loopw [10] (fun vi wr => ∃ k : Nat, vi = .int .i64 k ∧ k ≤ m ∧ Hid (((cs.take k).any fun c => decide (c.length < n.length) && underN n c) = false) ∧ Hid (Below w2.heap.size w2 wr)) (fun vi _ => m - (intOf vi).toNat)
 case atStart => exact ⟨0, rfl, Nat.zero_le _, qH0 (by simp), qH0 (qL0)⟩
 case round =>
  obtain ⟨k, rfl, hk, HN, HB⟩ := hrel
  by_cases hlt : k < m
  ·have hltz : (k : Int) < (m : Int) := by omega
   have hk1 : k < vs.length := by have := HVL.out; omega
   have hk2 : k < cs.length := by have := HDL.out; omega
   have hwr : Below w.heap.size w wr := qB0 HB0.out HB.out
   obtain ⟨b, off, rfl, hb, hcell⟩ := HCN.out wr hwr k hk1
   have hnm := HNM.out wr hwr k hk1 hk2
   have hokr := HCO.out _ (List.getElem_mem hk2)
   have hany := qgl (p := fun c => decide (c.length < n.length) && underN n c) hk2
   obtain ⟨d, hd⟩ : ∃ d, cs[k]'hk2 = d := ⟨_, rfl⟩
   have hdm : d ∈ cs := by rw [← hd]; exact List.getElem_mem _
   rw [hd] at hnm hokr hany
   rw [HN.out, Bool.false_or] at hany
   generalize vs[k] = sk at *
   obtain ⟨ad, cd, rfl, -⟩ := nmAt_sl.1 hnm
   obtain ⟨qd, hqd⟩ : ∃ q, (List.map strV d).length = q := ⟨_, rfl⟩
   have HQD := qH0 (show d.length = qd by rw [← hqd, List.length_map])
   rw [hqd] at hcell hnm
   have hn := qcu (.slice ao qo co) (.slice ad qd cd) n d _ rfl wr (HNO.out.below hwr) hnm HKN.out hokr
   have HANY := qH0 hany; have HDM := qH0 hdm
   clear hany hdm hokr hnm hd hk1 hk2 hwr hqd
   by_cases hq : qd < qo
   ·have hqz : (qd : Int) < (qo : Int) := by omega
    have HLT := qH0 (show decide (d.length < n.length) = true by simp only [decide_eq_true_eq]; have := HQD.out; have := HQO.out; omega)
    go_wp2_with fail
    refine hn.mono ?_
    rintro e w3 ⟨rfl, hb3⟩
    have HB3 := qH0 (qB0 HB.out hb3)
    clear hn hb3 hcell
    obtain ⟨q, hq2⟩ : ∃ q, underN n d = q := ⟨_, rfl⟩
    have HQ := qH0 hq2
    rw [hq2] at HANY ⊢
    clear hq2
    cases q
    ·go_wp2
     go_roundw
     case measure => simp [intOf]; omega
     case rel => exact ⟨k + 1, by go_num, by omega, qH0 (by rw [HANY.out, Bool.and_false]), HB3⟩
    ·have H1 : Hid (res = true) := qH0 (by rw [HSO.out, List.any_eq_true]; exact ⟨d, HDM.out, by rw [HLT.out, HQ.out]; rfl⟩)
     go_wp2
     go_ret
     exact ⟨by rw [H1.out]; rfl, qB0 HB0.out HB3.out⟩
   ·have hqz : ¬ (qd : Int) < (qo : Int) := by omega
    have HLT := qH0 (show decide (d.length < n.length) = false by simp only [decide_eq_false_iff_not]; have := HQD.out; have := HQO.out; omega)
    clear hn
    go_wp2
    go_roundw
    case measure => simp [intOf]; omega
    case rel => exact ⟨k + 1, by go_num, by omega, qH0 (by rw [HANY.out, HLT.out, Bool.false_and]), HB⟩
  ·obtain rfl : k = m := by omega
   have hn := HN.out
   rw [List.take_of_length_le (by have := HDL.out; omega)] at hn
   have H1 : Hid (res = false) := qH0 (by rw [HSO.out]; exact hn)
   clear hn
   go_wp2
   go_ret
   exact ⟨by rw [H1.out]; rfl, qB0 HB0.out HB.out⟩
end Go.Proofs.YtnpnfajgphpabaaGreat
namespace Go.Proofs.YtnpnfajgphpabaaGreat
set_option linter.unusedVariables false
set_option linter.unusedSimpArgs false
set_option maxRecDepth 100000
set_option maxHeartbeats 2000000
open Go.RowKit Go.Shelf
abbrev SV := (Option Addr × Nat × Nat) × Int × Int × (Option Addr × Nat × Nat)
def eV {m : Nat} (G : Fin m → SV) (x : Fin m) : Array Value := #[.agg #[.slice (G x).1.1 (G x).1.2.1 (G x).1.2.2, .int .i64 (G x).2.1, .int .u32 (G x).2.2.1, .slice (G x).2.2.2.1 (G x).2.2.2.2.1 (G x).2.2.2.2.2]]
def EAt (W : World) (b off : Nat) {m : Nat} (G : Fin m → SV) : Prop := ∀ x : Fin m, W.cell? ⟨b, off + x.val * 4, none⟩ = some (.slice (G x).1.1 (G x).1.2.1 (G x).1.2.2) ∧ W.cell? ⟨b, off + x.val * 4 + 1, none⟩ = some (.int .i64 (G x).2.1) ∧ W.cell? ⟨b, off + x.val * 4 + 2, none⟩ = some (.int .u32 (G x).2.2.1) ∧ W.cell? ⟨b, off + x.val * 4 + 3, none⟩ = some (.slice (G x).2.2.2.1 (G x).2.2.2.2.1 (G x).2.2.2.2.2)
theorem qc2 (v : Value) (w : World) (hv : v.oneCell' = true) :
 Calls Tryz.prog 20 #[v] w fun e w' => e = .returned (.func (.func 49) #[] #[.pointer (some ⟨w.heap.size, 0, none⟩)]) ∧ w' = w.alloc (.cells #[v] 58) := by
 go_enter Tryz.func20, Tryz.ntmps20
 go_wp2
 go_ret
 exact ⟨rfl, rfl⟩
section
attribute [local go_sem] Oper.semAt_some
theorem qkx (n : Nat) (hn : 1 ≤ n) (l b1 : Nat) (a : Option Addr) (b off m c B0 : Nat) (G : Fin m → SV) (ha : m = 0 ∨ a = some ⟨b, off, none⟩) (hm20 : m ≤ 1048576) (J Jx : List (Fin m) → World → Prop) (hAb : AbidesFrom B0 J)
 (hY : ∀ pre x W, J pre W → pre.length < m → YieldAt Fence.wide (n - 1) Tryz.prog l (eV G x) W fun e W' =>
   (e = .returned (.bool true) ∧ J (pre ++ [x]) W' ∧ KeepB b W W') ∨ (e = .returned (.bool false) ∧ Jx (pre ++ [x]) W'))
 (W : World) (hc1 : W.cell? ⟨b1, 0, none⟩ = some (.slice a m c)) (hG : EAt W b off G) (h0 : J [] W) :
 CallsIn Fence.wide n Tryz.prog 49 #[.func (.yield l) #[] #[], .pointer (some ⟨b1, 0, none⟩)] W fun e W' => (∃ v, e = .returned v) ∧
  ((∃ ys, ys = List.finRange m ∧ J ys W') ∨ (∃ pre, pre <+: List.finRange m ∧ Jx pre W')) := by
 have HAA := qH0 ha; have HG := qH0 hG
 clear ha hG
 refine callsIn_of_wp Tryz.func49 rfl trivial ?_ rfl
 simp only [Tryz.ntmps49, List.size_toArray, List.length_cons, List.length_nil, Nat.reduceAdd, Nat.reduceSub, Array.replicate_succ, Array.replicate_zero, List.push_toArray, List.append_toArray, List.nil_append, List.cons_append]
 gi_wp2
 gi_loopw [7] (fun i wr => ∃ k : Nat, k ≤ m ∧ i = .int .i64 (k : Int) ∧ J ((List.finRange m).take k) wr ∧ KeepB b W wr)
  (fun i _ => ((m : Int) - intOf i).toNat)
 case atStart => exact ⟨0, Nat.zero_le _, rfl, h0, KeepB.refl _ _⟩
 case round =>
  obtain ⟨k, hk, rfl, hJs, hnx⟩ := hrel
  by_cases hlt : k < m
  ·have hsl : (k : Int) < (m : Int) := by omega
   obtain rfl : a = some ⟨b, off, none⟩ := by
    rcases HAA.out with h | h
    ·omega
    ·exact h
   obtain ⟨g0, g1, g2, g3⟩ := HG.out ⟨k, hlt⟩
   simp only at g0 g1 g2 g3
   have c0 := (hnx.cell (o := off + k * 4)).trans g0
   have c1 := (hnx.cell (o := off + k * 4 + 1)).trans g1
   have c2 := (hnx.cell (o := off + k * 4 + 2)).trans g2
   have c3 := (hnx.cell (o := off + k * 4 + 3)).trans g3
   have hv : eV G (⟨k, hlt⟩ : Fin m) = #[.agg #[.slice (G ⟨k, hlt⟩).1.1 (G ⟨k, hlt⟩).1.2.1 (G ⟨k, hlt⟩).1.2.2, .int .i64 (G ⟨k, hlt⟩).2.1, .int .u32 (G ⟨k, hlt⟩).2.2.1, .slice (G ⟨k, hlt⟩).2.2.2.1 (G ⟨k, hlt⟩).2.2.2.2.1 (G ⟨k, hlt⟩).2.2.2.2.2]] := rfl
   generalize (G ⟨k, hlt⟩).1.1 = p0 at *
   generalize (G ⟨k, hlt⟩).1.2.1 = q0 at *
   generalize (G ⟨k, hlt⟩).1.2.2 = r0 at *
   generalize (G ⟨k, hlt⟩).2.1 = ty at *
   generalize (G ⟨k, hlt⟩).2.2.1 = tl at *
   generalize (G ⟨k, hlt⟩).2.2.2.1 = p3 at *
   generalize (G ⟨k, hlt⟩).2.2.2.2.1 = q3 at *
   generalize (G ⟨k, hlt⟩).2.2.2.2.2 = r3 at *
   have hbl : b < wr.heap.size := World.block_lt_of_cell? wr _ c0
   have hJ2 := hAb _ wr (wr.alloc (.cells #[.slice p0 q0 r0, .int .i64 ty, .int .u32 tl, .slice p3 q3 r3] 67)) none hJs (World.grownBy_alloc wr _ none) (fun r e => by cases e)
   obtain ⟨fn, tmps, assign, body, hy, hR⟩ := hY _ ⟨k, hlt⟩ _ hJ2 (by simp; omega)
   rw [hv] at hy
   have hnx2 := hnx.trans (KeepB.alloc wr (.cells #[.slice p0 q0 r0, .int .i64 ty, .int .u32 tl, .slice p3 q3 r3] 67) hbl)
   clear hv g0 g1 g2 g3 hJ2
   gi_wp2
   refine hR.mono ?_
   rintro e W3 (⟨rfl, hJ3, hk3⟩ | ⟨rfl, hJx3⟩)
   ·gi_wp2
    go_roundw
    case rel => exact ⟨k + 1, by omega, by go_num, by rw [qan hlt]; exact hJ3, hnx2.trans hk3⟩
    case measure => simp [intOf]; omega
   ·gi_wp2
    refine bodyPost_ret (results_none rfl _ _ _) rfl ?_
    exact ⟨⟨_, rfl⟩, .inr ⟨_, by rw [← qan hlt]; exact List.take_prefix _ _, hJx3⟩⟩
  ·obtain rfl : k = m := by omega
   have hsl : ¬ (k : Int) < (k : Int) := by omega
   rw [List.take_of_length_le (by simp)] at hJs
   gi_wp2
   go_end0
   first
    | exact ⟨⟨_, rfl⟩, .inl hJs⟩
    | exact ⟨⟨_, rfl⟩, .inl ⟨_, rfl, hJs⟩⟩
theorem qcW (n : Nat) (hn : 1 ≤ n) (b1 : Nat) (a : Option Addr) (b off m c : Nat) (G : Fin m → SV) (ha : m = 0 ∨ a = some ⟨b, off, none⟩) (hm20 : m ≤ 1048576) (w : World) (h1 : b1 < w.heap.size) (hc1 : w.cell? ⟨b1, 0, none⟩ = some (.slice a m c)) (hG : ∀ W, Below w.heap.size w W → EAt W b off G) :
 SeqStopsK Fence.wide n Tryz.prog 49 #[.pointer (some ⟨b1, 0, none⟩)] (eV G) (KeepB b) (fun ys => ys = List.finRange m) (fun pre => pre <+: List.finRange m) m w := fun l J Jx W hW hJ _ hY h0 =>
 qkx n hn l b1 a b off m c _ G ha hm20 J Jx hJ hY W ((hW.cell (p := ⟨b1, 0, none⟩) h1).trans hc1) (hG W hW) h0
end
end Go.Proofs.YtnpnfajgphpabaaGreat
namespace Go.Proofs.YtnpnfajgphpabaaGreat
set_option linter.unusedVariables false
set_option linter.unusedSimpArgs false
set_option maxRecDepth 20000
open Go.RowKit
def otherM (ss : List St) (s : St) : Bool := ss.any fun o => decide (¬ o.ty = s.ty) && sameN o.owner s.owner
def cutsM (rs : List Rc) : List Rc := (rs.filter fun r => decide (r.data.ty = 2)).map fun r => ⟨r.owner, 0, r.data⟩
def qaB (o : Nm) (rs : List Rc) (ss : List St) : List Nm := (ss.filter fun s => decide (s.ty = 39) && decide (whereM o rs s.owner = 1)).map St.owner
def kind4 (o : Nm) (w : Int) (s : St) : Bool := decide (w = 0) || (decide (s.ty = 6) && !sameN s.owner o)
def kind5 (oth : Bool) (s : St) : Bool := decide (s.ty = 5) && oth
def kind6 (s : St) : Bool := (decide (s.ty = 5) || decide (s.ty = 39)) && decide (1 < s.data.length)
def kind7 (w : Int) (s : St) : Bool := !(decide (s.ty = 1) || decide (s.ty = 28)) && ((decide (w = 2) && !decide (s.ty = 2)) || decide (w = 3))
def kind8 (w : Int) (cov : Bool) : Bool := decide (w = 1) && cov
def kind9 (s : St) : Bool := decide (s.ty = 2) && wildN s.owner
def iff1 (b : Bool) (k : Int) : List Int := if b = true then [k] else []
def kindsW (o : Nm) (w : Int) (oth cov : Bool) (s : St) : List Int := iff1 (kind4 o w s) 4 ++ (iff1 (kind5 oth s) 5 ++ (iff1 (kind6 s) 6 ++ (iff1 (kind7 w s) 7 ++ (iff1 (kind8 w cov) 8 ++ iff1 (kind9 s) 9))))
def kindsM (o : Nm) (rs : List Rc) (ss : List St) (s : St) : List Int := kindsW o (whereM o rs s.owner) (otherM ss s) (coverM (qaB o rs ss) s.owner) s
def at0M (o : Nm) (rs : List Rc) : List Fl :=
 (match ofM rs o 6 with | none => [⟨1, o, 6⟩] | some s => if 1 < s.data.length then [⟨2, o, 6⟩] else []) ++ (match ofM rs o 2 with | none => [⟨3, o, 2⟩] | some _ => [])
def allF (o : Nm) (c : List Rc) : List Fl := flawsM (at0M o c) (kindsM o c (setsM c)) (setsM c)
theorem qkr {b : Bool} {k x : Int} : x ∈ iff1 b k ↔ b = true ∧ x = k := by unfold iff1; split <;> simp_all
theorem mem_kinds {o : Nm} {w : Int} {oth cov : Bool} {s : St} {x : Int} : x ∈ kindsW o w oth cov s ↔ (kind4 o w s = true ∧ x = 4) ∨ (kind5 oth s = true ∧ x = 5) ∨ (kind6 s = true ∧ x = 6) ∨ (kind7 w s = true ∧ x = 7) ∨ (kind8 w cov = true ∧ x = 8) ∨ (kind9 s = true ∧ x = 9) := by
 unfold kindsW
 simp only [List.mem_append, qkr]
theorem qiB (o : Nm) (w : Int) (oth cov : Bool) (s : St) : (kindsW o w oth cov s).Pairwise (· < ·) ∧ ∀ k ∈ kindsW o w oth cov s, 4 ≤ k := by
 refine ⟨?_, fun k hk => ?_⟩
 ·unfold kindsW iff1
  cases kind4 o w s <;> cases kind5 oth s <;> cases kind6 s <;> cases kind7 w s <;> cases kind8 w cov <;> cases kind9 s <;> decide
 ·rcases mem_kinds.1 hk with h | h | h | h | h | h <;> omega
theorem qfX (o : Nm) (w : Int) (oth cov : Bool) (s : St) : (kindsW o w oth cov s).length ≤ 6 := by
 unfold kindsW iff1
 cases kind4 o w s <;> cases kind5 oth s <;> cases kind6 s <;> cases kind7 w s <;> cases kind8 w cov <;> cases kind9 s <;> decide
theorem qbE (o : Nm) (rs : List Rc) : ((at0M o rs).Pairwise fun a b => qaj a b ≠ 0) ∧ (∀ a ∈ at0M o rs, 1 ≤ a.kind ∧ a.kind < 4) ∧ (at0M o rs).length ≤ 2 ∧ ∀ a ∈ at0M o rs, a.owner = o := by
 have key : ∀ a b : Fl, a.kind ≠ b.kind → qaj a b ≠ 0 := fun a b h e => h (compareF_zero.1 e).2.1
 unfold at0M
 split
 ·split
  ·refine ⟨?_, ?_, by simp, ?_⟩
   ·simp only [List.cons_append, List.nil_append, List.pairwise_cons, List.mem_singleton, forall_eq, List.not_mem_nil, false_implies, implies_true, List.Pairwise.nil, and_true]
    exact key _ _ (by simp)
   ·intro a ha; simp at ha; rcases ha with rfl | rfl <;> simp
   ·intro a ha; simp at ha; rcases ha with rfl | rfl <;> rfl
  ·refine ⟨by simp, ?_, by simp, ?_⟩
   ·intro a ha; simp at ha; subst ha; simp
   ·intro a ha; simp at ha; subst ha; rfl
 ·split
  ·split
   ·refine ⟨?_, ?_, by simp, ?_⟩
    ·simp only [List.cons_append, List.nil_append, List.pairwise_cons, List.mem_singleton, forall_eq, List.not_mem_nil, false_implies, implies_true, List.Pairwise.nil, and_true]
     exact key _ _ (by simp)
    ·intro a ha; simp at ha; rcases ha with rfl | rfl <;> simp
    ·intro a ha; simp at ha; rcases ha with rfl | rfl <;> rfl
   ·refine ⟨by simp, ?_, by simp, ?_⟩
    ·intro a ha; simp at ha; subst ha; simp
    ·intro a ha; simp at ha; subst ha; rfl
  ·split
   ·refine ⟨by simp, ?_, by simp, ?_⟩
    ·intro a ha; simp at ha; subst ha; simp
    ·intro a ha; simp at ha; subst ha; rfl
   ·simp
theorem qiv (o : Nm) {c : List Rc} (hc : StrictR c) : (allF o c).Pairwise fun a b => qaj a b ≠ 0 :=
 qhu (qbE o c).1 (fun a ha => ((qbE o c).2.1 a ha).2) (fun s _ => qiB _ _ _ _ _) (qdG _ _ (qN0) hc)
theorem qin (rs : List Rc) (n : Nm) : pointM (cutsM rs) n = pointM rs n := by
 unfold pointM cutsM
 rw [List.filter_map, List.map_map, List.filter_filter]
 congr 1
 apply List.filter_congr
 intro r _
 simp only [Function.comp]
 cases decide (r.data.ty = 2) <;> cases underN n r.owner <;> rfl
theorem qez (o : Nm) (rs : List Rc) (n : Nm) : whereM o (cutsM rs) n = whereM o rs n := by
 have : cutM o (cutsM rs) n = cutM o rs n := by unfold cutM; rw [qin]
 unfold whereM; rw [this]
end Go.Proofs.YtnpnfajgphpabaaGreat
namespace Go.Proofs.YtnpnfajgphpabaaGreat
set_option linter.unusedVariables false
set_option linter.unusedSimpArgs false
set_option maxRecDepth 20000
open Go.RowKit
section
variable {c : List Rc} {x : Rc}
theorem qcU {a b : Nm} (h : sameN a b = true) : a.length = b.length := by
 have := congrArg List.length ((qap _ _).1 h)
 simpa [foldN] using this
theorem qkJ {a b : Nm} (h : sameN a b = true) (o : Nm) (rs : List Rc) : cutM o rs a = cutM o rs b := by
 have hu : ∀ z, underN a z = underN b z := fun z => qbX h z
 unfold cutM
 rw [hu, qcU h]
 have : pointM rs a = pointM rs b := by unfold pointM; simp only [hu]
 rw [this]
theorem qeC {a b : Nm} (h : sameN a b = true) (o : Nm) (rs : List Rc) : whereM o rs a = whereM o rs b := by
 unfold whereM
 rw [qkJ h, qbX h, qcU h]
end
end Go.Proofs.YtnpnfajgphpabaaGreat
namespace Go.Proofs.YtnpnfajgphpabaaGreat
set_option linter.unusedVariables false
set_option linter.unusedSimpArgs false
set_option maxRecDepth 20000
open Go.RowKit Go.Shelf
def OfD (w0 W : World) (base : Nat) (cs : List Value) (d : Dat) : Prop :=
 ∃ vn vu vt vr, ∃ ss : List SlV, cs = [.int .i64 d.ty, vn, vu, vt, vr] ∧ OwnG 22 slEnc W base vn ss ∧ ss.length = d.names.length ∧
  (∀ j (h1 : j < ss.length) (h2 : j < d.names.length), NmAt w0 (slEnc ss[j]) d.names[j]) ∧ SlAt w0 vu (d.nums.map u32V) ∧ NmAt w0 vt d.texts ∧ SlAt w0 vr (d.raw.map bv)
theorem OfD.datAt {w0 W : World} {base : Nat} {cs : List Value} {d : Dat} (h : OfD w0 W base cs d) (hb : Below w0.heap.size w0 W) : cs.length = 5 ∧ DatAt W (.agg cs.toArray) d := by
 obtain ⟨vn, vu, vt, vr, ss, rfl, h2, h3, h4, h5, h6, h7⟩ := h
 exact ⟨rfl, _, _, _, _, rfl, ⟨ss.map slEnc, SlAt.of_own h2, by rw [List.length_map]; exact h3, fun j hj => by rw [List.getElem_map]; exact (h4 j (by simpa using hj) (by rw [List.length_map] at hj; omega)).below hb⟩, h5.below hb, h6.below hb, h7.below hb⟩
theorem OfD.below {w0 W W' : World} {base : Nat} {cs : List Value} {d : Dat} (h : OfD w0 W base cs d) (hb : Below W.heap.size W W') : OfD w0 W' base cs d := by
 obtain ⟨vn, vu, vt, vr, ss, e, h2, h3⟩ := h
 exact ⟨vn, vu, vt, vr, ss, e, h2.below hb, h3⟩
theorem OfD.weaken {w0 W : World} {base b2 : Nat} {cs : List Value} {d : Dat} (h : OfD w0 W base cs d) (hb : b2 ≤ base) : OfD w0 W b2 cs d := by
 obtain ⟨vn, vu, vt, vr, ss, e, h2, h3⟩ := h
 exact ⟨vn, vu, vt, vr, ss, e, h2.weaken hb, h3⟩
theorem OfD.grown {w0 W W' : World} {base base' k : Nat} {T : TypeId} {cs : List Value} {d : Dat} {v' : Value} {yss : List (List Value)} (h : OfD w0 W base cs d) (h' : OwnC k T W base' v' yss) (hT : 22 ≠ T) (hg : W.grownBy W' v'.ownBlock) : OfD w0 W' base cs d := by
 obtain ⟨vn, vu, vt, vr, ss, e, h2, h3⟩ := h
 exact ⟨vn, vu, vt, vr, ss, e, h2.kept_c h' hT hg, h3⟩
def OfDs (w0 W : World) (base : Nat) (csd : List (List Value)) (l : List Dat) : Prop := csd.length = l.length ∧ ∀ j (h1 : j < csd.length) (h2 : j < l.length), OfD w0 W base csd[j] l[j]
theorem OfDs.below {w0 W W' : World} {base : Nat} {csd : List (List Value)} {l : List Dat} (h : OfDs w0 W base csd l) (hb : Below W.heap.size W W') : OfDs w0 W' base csd l := ⟨h.1, fun j a b => (h.2 j a b).below hb⟩
theorem qbH : ElemK 5 87 75 104 := ⟨Tryz.underlying75, _, _, rfl, rfl, rfl, rfl, rfl⟩
theorem OfDs.snoc {w0 W W' : World} {base : Nat} {v : Value} {csd : List (List Value)} {l : List Dat} {cs : List Value} {d : Dat} (h : OfDs w0 W base csd l) (ho : OwnC 5 87 W base v csd) (hc : OfD w0 W base cs d) (hg : W.grownBy W' v.ownBlock) : OfDs w0 W' base (csd ++ [cs]) (l ++ [d]) := by
 refine ⟨by simp [h.1], fun j a b => ?_⟩
 by_cases hj : j < csd.length
 ·rw [List.getElem_append_left hj, List.getElem_append_left (by have := h.1; omega)]
  exact (h.2 j hj (by have := h.1; omega)).grown ho (by decide) hg
 ·obtain rfl : j = csd.length := by simp at a; omega
  have e1 : (csd ++ [cs])[csd.length]'a = cs := by simp
  have e2 : (l ++ [d])[csd.length]'b = d := by simp [h.1]
  rw [e1, e2]
  exact hc.grown ho (by decide) hg
theorem OfPostS.cells {w0 w w' : World} {v : Value} {d : Dat} {e : Ending} (h : OfPostS w0 v d w e w') : ∃ cs, e = .returned (.agg cs.toArray) ∧ OfD w0 w' w.heap.size cs d ∧ Below w.heap.size w w' := by
 obtain ⟨vn, vn', vu, vt, vr, ss, rfl, rfl, h1, h2, h3, h4, h5, h6, h7⟩ := h
 exact ⟨[.int .i64 d.ty, vn', vu, vt, vr], rfl, ⟨vn', vu, vt, vr, ss, rfl, h1, h2, h3, h4, h5, h6⟩, h7⟩
theorem OfD.shape {w0 W : World} {base : Nat} {cs : List Value} {d : Dat} (h : OfD w0 W base cs d) : ∃ x3 x4 x5 x6 : Option Addr × Nat × Nat, cs = [.int .i64 d.ty, .slice x3.1 x3.2.1 x3.2.2, .slice x4.1 x4.2.1 x4.2.2, .slice x5.1 x5.2.1 x5.2.2, .slice x6.1 x6.2.1 x6.2.2] := by
 obtain ⟨vn, vu, vt, vr, ss, rfl, h2, h3, h4, h5, h6, h7⟩ := h
 obtain ⟨a3, c3, rfl⟩ := h2.shape
 obtain ⟨a4, c4, rfl, _⟩ := h5
 obtain ⟨a5, c5, rfl, _⟩ := nmAt_sl.1 h6
 obtain ⟨a6, c6, rfl, _⟩ := h7
 exact ⟨(a3, _, c3), (a4, _, c4), (a5, _, c5), (a6, _, c6), rfl⟩
end Go.Proofs.YtnpnfajgphpabaaGreat
