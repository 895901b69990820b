import Derived.Laws.AppendOwnNone
import Derived.Lib.Walk
import Derived.Lib.SliceRun
import Derived.RegionTactic
import Derived.ChangeAlike
import Derived.Lib.AppendStr
import Derived.Test.YtckammgnmgkieaaGreatMQ18
namespace Go.Proofs.YtckammgnmgkieaaGreat
set_option maxRecDepth 100000
set_option maxHeartbeats 2000000
open Go.RowKit Go.Shelf
theorem qhe {xs zs : Nm} {d : Nat} (h : xs.length = d + zs.length) (hs : ∀ j (h1 : d + j < xs.length) (h2 : j < zs.length), sameM xs[d + j] zs[j] = true) : underN xs zs = true := by
 unfold underN
 rw [decide_eq_true (by omega), Bool.true_and, show xs.length - zs.length = d by omega]
 refine qef (by simp; omega) (fun j h1 h2 => ?_)
 rw [List.getElem_drop]
 exact hs j _ h2
theorem qgh {xs zs : Nm} {d : Nat} (h : xs.length = d + zs.length) (j : Nat) (h1 : d + j < xs.length) (h2 : j < zs.length) (hs : sameM xs[d + j] zs[j] = false) : underN xs zs = false := by
 unfold underN
 rw [decide_eq_true (by omega), Bool.true_and, show xs.length - zs.length = d by omega]
 refine qdW j (by simp; omega) h2 ?_
 rw [List.getElem_drop]; exact hs
theorem qet {xs zs : Nm} (h : xs.length < zs.length) : underN xs zs = false := by
 unfold underN; rw [decide_eq_false (by omega), Bool.false_and]
section
attribute [local go_sem] Oper.semAt_some
theorem qfm (v u : Value) (xs zs : Nm) (w : World) (hA : StrsAt w v xs) (hU : StrsAt w u zs) (hk : NmOK xs) (hk2 : NmOK zs) :
 Calls Tryz.prog 56 #[v, u] w fun e w' => e = .returned (.bool (underN xs zs)) ∧ Below w.heap.size w w' := by
 obtain ⟨a, c, rfl, _⟩ := id hA
 obtain ⟨a2, c2, rfl, _⟩ := id hU
 have hl1 := hk.1
 have hl2 := hk2.1
 refine (callsIn_wide (n := 5)).1 ?_
 refine callsIn_of_wp_marks Tryz.func56 rfl trivial ?_ rfl
 simp only [Tryz.ntmps56, List.size_toArray, List.length_cons, List.length_nil, Nat.reduceAdd, Nat.reduceSub, Array.replicate_succ, Array.replicate_zero, List.push_toArray, List.append_toArray, List.nil_append, List.cons_append]
 by_cases hlt : xs.length < zs.length
 ·have h0 : underN xs zs = false := qet hlt
  have H0 := qH0 h0; clear h0
  have hlt' : (xs.length : Int) - (zs.length : Int) < 0 := by omega
  gi_wp2
  have hI : Boxed ((w.alloc (.cells #[.slice a xs.length c] 24)).alloc (.cells #[.bool false] 4)) (w.heap.size + 1) 4 (.bool false) := by
   have := Boxed.new (w.alloc (.cells #[.slice a xs.length c] 24)) 4 (.bool false)
   rwa [World.size_alloc] at this
  refine ⟨_, qa9 rfl Tryz.underlying4 _ _ rfl (hI.alloc _).cell, by rw [H0.out], ?_⟩
  exact (((Below.refl _ w).alloc (qN0) _).alloc (by simp) _).alloc (by simp; omega) _
 obtain ⟨d, hd⟩ : ∃ d, xs.length = d + zs.length := ⟨xs.length - zs.length, by omega⟩
 have hsub : (xs.length : Int) - (zs.length : Int) = (d : Int) := by omega
 have HD := qH0 hd; clear hd
 have HS := qH0 hsub; clear hsub
 have hge : ¬ (xs.length : Int) - (zs.length : Int) < 0 := by omega
 clear hlt
 gi_wp2_with (refine ⟨trivial, ?_⟩; gi_at_call 106; refine (callsIn_wide.2 (qeS _ _ _ _)).mono ?_; rintro e w' ⟨rfl, rfl⟩)
 rw [HS.out]
 obtain ⟨W0, hW0⟩ : ∃ W0, ((((w.alloc (.cells #[.slice a xs.length c] 24)).alloc (.cells #[.bool false] 4)).alloc (.cells #[.int .i64 d] 3)).alloc (.cells #[.slice a2 zs.length c2] 24)) = W0 := ⟨_, rfl⟩
 have bN : Boxed W0 w.heap.size 24 (.slice a xs.length c) := by rw [← hW0]; exact (((Boxed.new w _ _).alloc _).alloc _).alloc _
 have bI : Boxed W0 (w.heap.size + 1) 4 (.bool false) := by
  have := Boxed.new (w.alloc (.cells #[.slice a xs.length c] 24)) 4 (.bool false)
  rw [World.size_alloc] at this
  rw [← hW0]; exact (this.alloc _).alloc _
 have bD : Boxed W0 (w.heap.size + 1 + 1) 3 (.int .i64 d) := by
  have := Boxed.new ((w.alloc (.cells #[.slice a xs.length c] 24)).alloc (.cells #[.bool false] 4)) 3 (.int .i64 d)
  rw [World.size_alloc, World.size_alloc] at this
  rw [← hW0]; exact this.alloc _
 have bV : Boxed W0 (w.heap.size + 1 + 1 + 1) 24 (.slice a2 zs.length c2) := by
  have := Boxed.new (((w.alloc (.cells #[.slice a xs.length c] 24)).alloc (.cells #[.bool false] 4)).alloc (.cells #[.int .i64 d] 3)) 24 (.slice a2 zs.length c2)
  rw [World.size_alloc, World.size_alloc, World.size_alloc] at this
  rw [← hW0]; exact this
 have hsz : W0.heap.size = w.heap.size + 4 := by rw [← hW0]; simp
 have hB0 : Below w.heap.size w W0 := by rw [← hW0]; exact ((((Below.refl _ w).alloc (qN0) _).alloc (by simp) _).alloc (by simp; omega) _).alloc (by simp; omega) _
 have hrow := hU.row_lt
 rw [hW0]
 have HZ := qH0 hsz; clear hsz hW0
 refine wpIn_rangeFunc_ownG rfl (by omega) (gf := 146) (lb := #[.pointer (some ⟨w.heap.size + 1 + 1 + 1, 0, none⟩)]) rfl trivial (enters_of Tryz.func146 (by kernel_rfl) rfl)
  (qd5 _ (by omega) (w.heap.size + 1 + 1 + 1) (.slice a2 zs.length c2) zs (by unfold maxLen; omega) W0 (by rw [HZ.out]; omega) bV.cell (hU.below hB0)) qcJ (qaU (by rw [HZ.out]; omega) (fun g e => by have := hrow g e; rw [HZ.out]; omega)) (qL0) (fun _ => rfl)
  (fun pre W => Boxed W w.heap.size 24 (.slice a xs.length c) ∧ Boxed W (w.heap.size + 1) 4 (.bool false) ∧ Boxed W (w.heap.size + 1 + 1) 3 (.int .i64 d) ∧ Below w.heap.size w W ∧ ∀ j ∈ pre, ∀ h : d + j.val < xs.length, sameM xs[d + j.val] zs[j] = true)
  (fun k _ W => k = .ret ∧ Boxed W (w.heap.size + 1) 4 (.bool false) ∧ Below w.heap.size w W ∧ underN xs zs = false)
  (OwnFrom.and (Own.from (boxed_own _ _ _) _) (OwnFrom.and (Own.from (boxed_own _ _ _) _) (OwnFrom.and (Own.from (boxed_own _ _ _) _) (OwnFrom.and (ownFrom_below (qN0) (by rw [HZ.out]; omega)) (ownFrom_pure _ _)))))
  (fun _ => OwnFrom.and (ownFrom_pure _ _) (OwnFrom.and (Own.from (boxed_own _ _ _) _) (OwnFrom.and (ownFrom_below (qN0) (by rw [HZ.out]; omega)) (ownFrom_pure _ _))))
  ⟨bN, bI, bD, hB0, by simp⟩
  (fun j => { tmps := #[.slice a xs.length c, .slice a2 zs.length c2, .pointer (some ⟨w.heap.size, 0, none⟩), undef, .pointer (some ⟨w.heap.size + 1, 0, none⟩), .pointer (some ⟨w.heap.size + 1 + 1, 0, none⟩), .int .i64 (j.val : Int), .string ⟨zs[j].toArray⟩, .slice a xs.length c, .int .i64 xs.length, .slice a2 zs.length c2, .int .i64 zs.length, .int .i64 d, .int .i64 d, .bool false, .slice a2 zs.length c2, .func (.func 146) #[] #[.pointer (some ⟨w.heap.size + 1 + 1 + 1, 0, none⟩)], .int .i64 (j.val : Int), .string ⟨zs[j].toArray⟩, undef, undef, undef, undef, undef, undef, undef, undef, undef], defers := [] }) ?assign ?body ?done ?stop
 case assign =>
  intro l x W K hK
  unfold idxV strV
  gi_wp2
  exact hK
 case body =>
  rintro l pre x W ⟨hN, hI, hD2, hB, hC⟩ hlt
  have cn := hN.cell
  have cd := hD2.cell
  have c0 := hI.cell; have f0 := hI.frozen
  have hzi : x.val < zs.length := x.isLt
  have hxi : d + x.val < xs.length := by have := HD.out; omega
  obtain ⟨g, off, rfl, hg, hcell⟩ := hA.cell hB (d + x.val) hxi
  have hz1 : zs[x].length ≤ 1048576 := hk2.get x.val x.isLt
  have hx1 : xs[d + x.val].length ≤ 1048576 := hk.get (d + x.val) hxi
  obtain ⟨sz, hsz0, hszz, hszv⟩ := str_of zs[x]
  obtain ⟨sx, hsx0, hsxz, hsxv⟩ := str_of xs[d + x.val]
  have hS := fun W => qfD sx sz W (by unfold maxLen; omega) (by unfold maxLen; omega)
  rw [hsz0, hsx0] at hS
  rw [str_at hszv]
  rw [hsxv] at hcell
  generalize hq : sameM xs[d + x.val] zs[x] = q at *
  have HQ := qH0 hq
  clear hsz0 hszz hszv hsx0 hsxz hsxv hx1 hz1 hq
  cases q with
  | true =>
   gi_wp2_with (refine ⟨trivial, ?_⟩; gi_at_call 107; refine (CallsIn.inRound l (callsIn_wide.2 (hS _))).mono ?_; rintro e w' ⟨rfl, n, rfl⟩)
   refine ⟨(qaP _ _).from _, KeepN.drewN _ _, hN, hI, hD2, qaz hB _, ?_⟩
   intro j hj h
   rcases List.mem_append.1 hj with hj | hj
   ·exact hC j hj h
   ·obtain rfl := List.mem_singleton.1 hj; exact HQ.out
  | false =>
   have H0 : Hid (underN xs zs = false) := qH0 (qgh HD.out x.val hxi hzi HQ.out)
   gi_wp2_with (refine ⟨trivial, ?_⟩; gi_at_call 107; refine (CallsIn.inRound l (callsIn_wide.2 (hS _))).mono ?_; rintro e w' ⟨rfl, n, rfl⟩)
   refine ⟨((qaP _ _).trans (KeepsOthers.setCell _ _ _)).from _, rfl, ?_, ?_, H0.out⟩
   ·exact Boxed.set (.bool false) (show Boxed (W.drewN n) (w.heap.size + 1) 4 (.bool false) from hI)
   ·exact (qaz hB _).setCell (p := ⟨w.heap.size + 1, 0, none⟩) (by simp) _
 case done =>
  rintro D ys W hD rfl ⟨hN, hI, hD2, hB, hC⟩ hK
  have c0 := hI.cell; have f0 := hI.frozen
  have hDn : w.heap.size + 1 ≠ D := by have := HZ.out; omega
  have hS : underN xs zs = true := qhe HD.out (fun j h1 h2 => hC ⟨j, h2⟩ (by simp) h1)
  have HT := qH0 hS; clear hS hC
  gi_wp2
  refine ⟨by simp, .inl ⟨_, _, rfl, run_takeDeferred (qaG hK hDn.symm _), ?_⟩⟩
  refine ⟨_, qa9 rfl Tryz.underlying4 _ _ rfl (qaA (hI.set _) hDn _), by rw [HT.out], ?_⟩
  exact qal (hB.setCell (p := ⟨w.heap.size + 1, 0, none⟩) (by simp) _) (by have := HZ.out; omega) (qN0)
 case stop =>
  rintro D c pre W hD hp ⟨rfl, hI, hB, hC⟩ hK
  have hDn : w.heap.size + 1 ≠ D := by have := HZ.out; omega
  have HC := qH0 hC; clear hC
  gi_wp2
  refine ⟨by simp, .inl ⟨_, _, rfl, run_takeDeferred hK, ?_⟩⟩
  refine ⟨_, qa9 rfl Tryz.underlying4 _ _ rfl (qaA hI hDn _), by rw [HC.out], ?_⟩
  exact qal hB (by have := HZ.out; omega) (qN0)
end
end Go.Proofs.YtckammgnmgkieaaGreat
namespace Go.Proofs.YtckammgnmgkieaaGreat
set_option maxRecDepth 20000
set_option maxHeartbeats 4000000
open Go.RowKit Go.Shelf
def SlOK (v : Value) : Prop := ∃ a n c, v = .slice a n c ∧ n ≤ c ∧ (a = none → c = 0)
theorem SlOK.nil : SlOK (.slice none 0 0) := ⟨_, _, _, rfl, qN0, fun _ => rfl⟩
theorem OwnG.slOK {α : Type} {T : TypeId} {enc : α → Value} {W : World} {base : Nat} {v : Value} {xs : List α} (h : OwnG T enc W base v xs) : SlOK v := by
 rcases h.2 with ⟨e, _⟩ | ⟨g', cap, cur, e, hb, hg, hc, hm, _⟩
 ·subst e; exact .nil
 ·exact ⟨_, _, _, e, hc, fun q => by cases q⟩
theorem elemNm : ElemT 9 24 16 := ⟨Tryz.underlying24, _, _, rfl, rfl, rfl, rfl, rfl⟩
theorem qio {W : World} {a : Option Addr} {c : Nat} {xs : Nm} (h : StrsAt W (.slice a xs.length c) xs) {ad : Addr} (ha : a = some ad) :
 ∀ j u, (xs.map strV)[j]? = some u → W.cell? (ad.add j) = some u := by
 obtain ⟨a', c', e, hx⟩ := h
 cases e
 intro j u hj
 obtain ⟨hlt, e2⟩ := List.getElem?_eq_some_iff.1 hj
 rw [List.length_map] at hlt
 rw [List.getElem_map] at e2
 rcases hx with e | ⟨g, off, rfl, _, hc⟩
 ·subst e; simp at hlt
 ·cases ha
  rw [← e2, Addr.add_lit]; exact hc j hlt
theorem qaF {S : TypeId} {ops : Array Oper} {rest : List Oper} {o : Oper} {a : Act} {Q : Exit → Act → World → Prop} (W : World) (hgd : o.guard = none) (s x : Operand) (hE : ElemT 9 S 16)
 (ho : o.op = .call { callee := .builtin .append, args := #[s, x], argTypes := #[S, S] })
 (base : Nat) (v : Value) (xs : Nm) (hs : a.eval s = v) (hown : OwnG 9 strV W base v xs)
 (src : Value) (ys : Nm) (hx : a.eval x = src) (hsrc : StrsAt W src ys) (hok : SlOK src)
 (hbase : base ≤ W.heap.size) (hk : xs.length + ys.length ≤ maxLen) (hk2 : (xs.length + ys.length) * 16 ≤ 140737488355328)
 (h : ∀ v' w', OwnG 9 strV w' base v' (xs ++ ys) → W.grownBy w' v.ownBlock → wpList Tryz.prog ops Q rest (a.put o.dst v') w') :
 wpList Tryz.prog ops Q (o :: rest) a W := by
 obtain ⟨ht, i, z, hi, hz, hz1, hz2, hzc⟩ := hE
 obtain ⟨a0, c0, rfl, _⟩ := id hsrc
 cases a0 with
 | none =>
  obtain ⟨a1, n1, c1, e1, _, e2⟩ := hok
  cases e1
  have e3 := e2 rfl
  subst e3
  obtain ⟨a2, c2, e4, h4⟩ := hsrc
  cases e4
  rcases h4 with e5 | ⟨_, _, e5, _⟩
  ·subst e5
   refine wpList_append_own_none hgd s x S ho base _ i 1 ht hi v _ _ hs hown hx ?_
   exact h v W (by rw [List.append_nil]; exact hown) ⟨rfl, rfl, rfl, qN0, fun _ _ _ => rfl⟩
  ·cases e5
 | some ad =>
  refine wpList_append_own _ hgd s x S ho base _ i z 1 16 ht hi hz hz1 hz2 hzc (by decide) v xs.length (xs.map strV) hs hown ad ys.length c0 (ys.map strV) hx (by simp) (qio hsrc rfl) (by intro u hu; obtain ⟨y, _, rfl⟩ := List.mem_map.1 hu; rfl) hk hk2 hbase ?_
  intro v' w' h1 h2 _
  refine h v' w' ?_ h2
  unfold OwnG
  rw [List.length_append, List.map_append]
  exact h1
theorem qaZ (v : Value) (xs : Nm) (w : World) (hA : StrsAt w v xs) (hO : SlOK v) (hk : xs.length ≤ 8796093022000) :
 Calls Tryz.prog 64 #[v] w fun e w' => ∃ v', e = .returned v' ∧ OwnG 9 strV w' w.heap.size v' xs ∧ Below w.heap.size w w' := by
 obtain ⟨a, c, rfl, hx⟩ := id hA
 cases a with
 | none =>
  have hnil : xs = [] := by
   rcases hx with e | ⟨_, _, e, _⟩
   ·exact e
   ·cases e
  subst hnil
  have q := fun w => Lib.run_eql_slice_nil (P := Tryz.prog) w 24 _ none 0 c 0 0 Tryz.underlying24
  go_enter Tryz.func64, Tryz.ntmps64
  go_wp2
  go_ret
  exact ⟨_, rfl, OwnG.nil _ _, qL0⟩
 | some ad =>
  have hlit : OwnG 9 strV (w.alloc (.cells #[] 9)) w.heap.size (.slice (some ⟨w.heap.size, 0, none⟩) 0 0) [] := OwnG.lit (enc := strV) w w.heap.size (qN0) [] (by simp)
  have q := fun w => Lib.run_eql_slice_nil (P := Tryz.prog) w 24 _ (some ad) xs.length c 0 0 Tryz.underlying24
  go_enter Tryz.func64, Tryz.ntmps64
  go_wp2_with (at_builtin; refine qaF (w.alloc (.cells #[] 9)) rfl (.tmp 5) (.tmp 6) elemNm rfl w.heap.size _ [] rfl hlit _ xs rfl (hA.below ((Below.refl _ w).alloc (qN0) _)) hO (by simp) (by unfold maxLen; simp; omega) (by simp; omega) ?_; intro v' w1 hown' hg')
  go_ret
  exact ⟨v', rfl, hown', ((Below.refl _ w).alloc (qN0) _).grown hg' (by simp) hlit.base_le⟩
theorem qcq {W : World} {g off c : Nat} {xs : Nm} (h : StrsAt W (.slice (some ⟨g, off, none⟩) xs.length c) xs) (hc : xs.length ≤ c) (k : Nat) (hk : k ≤ xs.length) (c' : Nat) :
 StrsAt W (.slice (if c = k then some ⟨g, off, none⟩ else some ⟨g, off + k, none⟩) (xs.length - k) c') (xs.drop k) := by
 obtain ⟨a', c', e, hx⟩ := h
 cases e
 refine ⟨_, _, by rw [List.length_drop], ?_⟩
 rcases hx with e | ⟨g, off, e, hg, hc⟩
 ·subst e; simp
 ·cases e
  by_cases hck : c = k
  ·exact .inl (List.drop_eq_nil_of_le (by omega))
  ·rw [if_neg hck]
   exact .inr ⟨_, _, rfl, hg, fun j hj => by rw [List.getElem_drop, Nat.add_assoc]; exact hc (k + j) (by simp at hj; omega)⟩
theorem qi9 {g off c k n : Nat} (h : n ≤ c) : SlOK (.slice (if c = k then some ⟨g, off, none⟩ else some ⟨g, off + k, none⟩) (n - k) (c - k)) :=
 ⟨_, _, _, rfl, by omega, fun e => by split at e <;> cases e⟩
theorem qgG {W : World} {a : Option Addr} {c : Nat} {xs : Nm} (h : StrsAt W (.slice a xs.length c) xs) (k : Nat) (hk : k ≤ xs.length) (c' : Nat) :
 StrsAt W (.slice a k c') (xs.take k) := by
 obtain ⟨a', c', e, hx⟩ := h
 cases e
 refine ⟨_, _, by rw [List.length_take, Nat.min_eq_left hk], ?_⟩
 rcases hx with e | ⟨g, off, rfl, hg, hc⟩
 ·subst e; simp
 ·exact .inr ⟨_, _, rfl, hg, fun j hj => by rw [List.getElem_take]; exact hc j (by simp at hj; omega)⟩
theorem qdI {α : Type} {T S : TypeId} {enc : α → Value} {ops : Array Oper} {rest : List Oper} {o : Oper} {a : Act} {Q : Exit → Act → World → Prop} (W : World) (hgd : o.guard = none) (l c : Operand) {bytes : Nat} (hE : ElemT T S bytes)
 (ho : o.op = Op.makeSlice S l c) (base : Nat) (kl kc : IntKind) (C : Int) (n : Nat) (hl : a.eval l = .int kl 0) (hc : a.eval c = .int kc C) (hC : C = (n : Int)) (b2 : bytes * n ≤ 281474976710656) (b3 : n ≤ maxLen) (b4 : base ≤ W.heap.size)
 (h : ∀ w', OwnG T enc w' base (.slice (some ⟨W.heap.size, 0, none⟩) 0 n) [] → W.grownBy w' none → wpList Tryz.prog ops Q rest (a.put o.dst (.slice (some ⟨W.heap.size, 0, none⟩) 0 n)) w') :
 wpList Tryz.prog ops Q (o :: rest) a W := by
 obtain ⟨ht, i, z, hi, hz, hz1, hz2, _⟩ := hE
 exact wpList_make_own W hgd l c S ho base T i z 1 ht hi hz hz1 kl kc C n hl hc hC (by rw [hz2]; exact b2) b3 b4 (fun w' h1 h2 => h w' h1 h2)
def qhC (xs : Nm) (w : World) (e : Ending) (w' : World) : Prop := ∃ v', e = .returned v' ∧ OwnG 9 strV w' w.heap.size v' xs ∧ Below w.heap.size w w'
theorem qj2 (s : ByteArray) (v : Value) (xs : Nm) (w : World) (hA : StrsAt w v xs) (hO : SlOK v) (hk : NmOK xs) :
 Calls Tryz.prog 75 #[.string s, v] w (qhC (s.data.toList :: xs) w) := by
 obtain ⟨a, c, rfl, hx⟩ := id hA
 have hl := hk.1
 have hcell : [Value.string s] = [s.data.toList].map strV := by simp only [List.map_cons, List.map_nil, qjb]
 have HC := qH0 hcell; clear hcell
 go_enter Tryz.func75, Tryz.ntmps75
 go_wp2_with (first | (at_make; refine qdI (α := List UInt8) (enc := strV) w rfl _ _ elemNm rfl w.heap.size .i64 .i64 _ (xs.length + 1) rfl rfl (by simp) (by omega) (by unfold maxLen; omega) (qN0) ?_; intro w0 hown0 hg0; have hA0 := hA.below ((Below.refl _ w).grown hg0 (qN0) (by simp))) | (at_builtin; refine qcM w0 rfl (.tmp 10) (.tmp 12) elemNm rfl qme w.heap.size (.slice (some ⟨w.heap.size, 0, none⟩) 0 (xs.length + 1)) [] rfl hown0 [.string s] [s.data.toList] HC.out 1 1 rfl rfl hg0.size (by unfold maxLen; simp) (by simp) ?_; intro v1 w1 hown1 hg1; have hB1 : Below w.heap.size w w1 := ((Below.refl _ w).grown hg0 (qN0) (by simp)).grown hg1 hg0.size hown0.base_le) | (at_builtin; refine qaF w1 rfl (.tmp 13) (.tmp 14) elemNm rfl w.heap.size v1 _ rfl hown1 (.slice a xs.length c) xs rfl (hA.below hB1) hO hB1.size (by unfold maxLen; simp; omega) (by simp; omega) ?_; intro v2 w2 hown2 hg2))
 go_ret
 exact ⟨v2, rfl, hown2, hB1.grown hg2 hB1.size hown1.base_le⟩
theorem OwnG.below {α : Type} {T : TypeId} {enc : α → Value} {W W' : World} {base : Nat} {v : Value} {xs : List α} (h : OwnG T enc W base v xs) (hb : Below W.heap.size W W') : OwnG T enc W' base v xs :=
 h.kept (row := none) ⟨hb.os, hb.tape, hb.output, hb.size, fun k hk _ => hb.block k hk⟩ (by cases v.ownBlock <;> simp)
def qcc (n f t : Nm) (w : World) (e : Ending) (w' : World) : Prop := ∃ v', e = .returned (.tuple #[v', .int .i64 (swapN n f t).2]) ∧ OwnG 9 strV w' w.heap.size v' (swapN n f t).1 ∧ Below w.heap.size w w'
theorem qca {n f t : Nm} {w w' : World} {e : Ending} {v : Value} (l : Nm) (er : Int) (h : swapN n f t = (l, er)) (he : e = .returned (.tuple #[v, .int .i64 er])) (ho : OwnG 9 strV w' w.heap.size v l) (hw : Below w.heap.size w w') : qcc n f t w e w' := by
 unfold qcc; rw [h]; exact ⟨v, he, ho, hw⟩
theorem qlq (v vf vt : Value) (n f t : Nm) (w : World) (hA : StrsAt w v n) (hF : StrsAt w vf f) (hT : StrsAt w vt t) (hO : SlOK v) (hO2 : SlOK vt) (hk : NmOK n) (hkf : NmOK f) (hkt : NmOK t) (hall : NmOK (n.take (n.length - f.length) ++ t)) :
 Calls Tryz.prog 140 #[v, vf, vt] w (qcc n f t w) := by
 obtain ⟨a, c, rfl, _⟩ := id hA
 obtain ⟨af, cf, rfl, _⟩ := id hF
 obtain ⟨at', ct, rfl, _⟩ := id hT
 have hl := hk.1; have hlf := hkf.1; have hlt := hkt.1
 obtain ⟨a0, n0, c0, e0, hcap, hno⟩ := id hO
 cases e0
 have hUn := fun W h1 h2 => qfm (.slice a n.length c) (.slice af f.length cf) n f W h1 h2 hk hkf
 by_cases hu : underN n f = true
 ·obtain ⟨d, hd⟩ : ∃ d, n.length = d + f.length := ⟨n.length - f.length, by have := qa1 hu; omega⟩
  have hsub : (n.length : Int) - (f.length : Int) = (d : Int) := by omega
  have hdf : n.length - f.length = d := by omega
  have hdn : d ≤ n.length := by omega
  have hres : swapN n f t = if checkN (n.take d ++ t) = 0 then (n.take d ++ t, 0) else ([], 7) := by unfold swapN; rw [if_pos hu, hdf]
  rw [hdf] at hall
  have htl : (n.take d).length = d := by simp; omega
  have hTk := fun W (h : StrsAt W (.slice a n.length c) n) => qgG h d hdn c
  generalize hps : n.take d = ps at *
  have HR := qH0 hres; have HU := qH0 hu
  have HTL := qH0 htl
  clear hres hdf hps hd htl
  have hq : ∃ q, checkN (ps ++ t) = q := ⟨_, rfl⟩
  obtain ⟨q, hq⟩ := hq
  have hCk := fun W v2 (h : OwnG 9 strV W w.heap.size v2 (ps ++ t)) => qkb v2 (ps ++ t) W (StrsAt.of_own h) hall
  rw [hq] at hCk HR
  have hpl : ps.length = d := HTL.out
  have HPL := qH0 hpl; clear hpl
  by_cases hq0 : (q != 0) = true
  ·have H0 : Hid (swapN n f t = ([], 7)) := qH0 (by rw [HR.out, if_neg (by simpa using hq0)])
   clear HR hq
   go_enter Tryz.func140, Tryz.ntmps140
   go_wp2_with (first | (go_at_call 56; refine (hUn _ hA hF).mono ?_; rintro e wu ⟨rfl, hbu⟩; rw [HU.out]) | (at_make; refine qdI (α := List UInt8) (enc := strV) wu rfl _ _ elemNm rfl w.heap.size .i64 .i64 _ (d + t.length) rfl rfl (by simp) (by omega) (by unfold maxLen; omega) hbu.size ?_; intro w0 hown0 hg0; have hB0 : Below w.heap.size w w0 := hbu.grown hg0 hbu.size (by simp)) | (at_builtin; refine qaF w0 rfl (.tmp 24) (.tmp 27) elemNm rfl w.heap.size (.slice (some ⟨wu.heap.size, 0, none⟩) 0 (d + t.length)) [] rfl hown0 (.slice a d c) ps rfl (hTk w0 (hA.below hB0)) ⟨_, _, _, rfl, by omega, hno⟩ hB0.size (by have := HPL.out; unfold maxLen; simp; omega) (by have := HPL.out; simp; omega) ?_; intro v1 w1 hown1 hg1; have hB1 : Below w.heap.size w w1 := hB0.grown hg1 hB0.size hown0.base_le) | (at_builtin; refine qaF w1 rfl (.tmp 28) (.tmp 29) elemNm rfl w.heap.size v1 ps rfl hown1 (.slice at' t.length ct) t rfl (hT.below hB1) hO2 hB1.size (by have := HPL.out; unfold maxLen; omega) (by have := HPL.out; omega) ?_; intro v2 w2 hown2 hg2; have hB2 : Below w.heap.size w w2 := hB1.grown hg2 hB1.size hown1.base_le) | (go_at_call 174; refine (hCk _ _ hown2).mono ?_; rintro e w3 ⟨rfl, hb3⟩))
   go_ret2
   exact qca [] 7 H0.out rfl (OwnG.nil _ _) (qB0 hB2 hb3)
  ·have hq1 : (q != 0) = false := by simpa using hq0
   have H0 : Hid (swapN n f t = (ps ++ t, 0)) := qH0 (by rw [HR.out, if_pos (by simpa using hq1)])
   clear HR hq hq0
   go_enter Tryz.func140, Tryz.ntmps140
   go_wp2_with (first | (go_at_call 56; refine (hUn _ hA hF).mono ?_; rintro e wu ⟨rfl, hbu⟩; rw [HU.out]) | (at_make; refine qdI (α := List UInt8) (enc := strV) wu rfl _ _ elemNm rfl w.heap.size .i64 .i64 _ (d + t.length) rfl rfl (by simp) (by omega) (by unfold maxLen; omega) hbu.size ?_; intro w0 hown0 hg0; have hB0 : Below w.heap.size w w0 := hbu.grown hg0 hbu.size (by simp)) | (at_builtin; refine qaF w0 rfl (.tmp 24) (.tmp 27) elemNm rfl w.heap.size (.slice (some ⟨wu.heap.size, 0, none⟩) 0 (d + t.length)) [] rfl hown0 (.slice a d c) ps rfl (hTk w0 (hA.below hB0)) ⟨_, _, _, rfl, by omega, hno⟩ hB0.size (by have := HPL.out; unfold maxLen; simp; omega) (by have := HPL.out; simp; omega) ?_; intro v1 w1 hown1 hg1; have hB1 : Below w.heap.size w w1 := hB0.grown hg1 hB0.size hown0.base_le) | (at_builtin; refine qaF w1 rfl (.tmp 28) (.tmp 29) elemNm rfl w.heap.size v1 ps rfl hown1 (.slice at' t.length ct) t rfl (hT.below hB1) hO2 hB1.size (by have := HPL.out; unfold maxLen; omega) (by have := HPL.out; omega) ?_; intro v2 w2 hown2 hg2; have hB2 : Below w.heap.size w w2 := hB1.grown hg2 hB1.size hown1.base_le) | (go_at_call 174; refine (hCk _ _ hown2).mono ?_; rintro e w3 ⟨rfl, hb3⟩))
   go_ret2
   exact qca (ps ++ t) 0 H0.out rfl (hown2.below hb3) (qB0 hB2 hb3)
 ·have hu0 : underN n f = false := by simpa using hu
  have H0 : Hid (swapN n f t = ([], 12)) := qH0 (by unfold swapN; rw [if_neg hu])
  have HU := qH0 hu0; clear hu hu0
  go_enter Tryz.func140, Tryz.ntmps140
  go_wp2_with (go_at_call 56; refine (hUn _ hA hF).mono ?_; rintro e wu ⟨rfl, hbu⟩; rw [HU.out])
  go_ret2
  exact qca [] 12 H0.out rfl (OwnG.nil _ _) hbu
end Go.Proofs.YtckammgnmgkieaaGreat
namespace Go.Proofs.YtckammgnmgkieaaGreat
set_option maxRecDepth 20000
open Go.RowKit Go.Shelf
theorem qfQ (xs : Nm) (y : List UInt8) : foldN (xs ++ [y]) = foldN xs ++ [foldL y] := by simp [foldN]
section
attribute [local go_sem] Oper.semAt_some
end
end Go.Proofs.YtckammgnmgkieaaGreat
namespace Go.Proofs.YtckammgnmgkieaaGreat
set_option maxRecDepth 20000
set_option maxHeartbeats 4000000
open Go.RowKit Go.Shelf
theorem qh8 {xs : Nm} (h : NmOK xs) (k : Nat) (hk : k ≤ xs.length) : lenN (xs.take k) ≤ 1 + k * 1048577 := by
 induction k with
 | zero => simp [lenN]
 | succ k ih =>
  have h1 := h.get k (by omega)
  rw [List.take_succ_eq_append_getElem (by omega), qen]
  have := ih (by omega)
  omega
theorem qm2 (v : Value) (xs : Nm) (w : World) (hA : StrsAt w v xs) (hk : NmOK xs) :
 Calls Tryz.prog 125 #[v] w fun e w' => e = .returned (.int .i64 (lenN xs : Int)) ∧ w' = w := by
 obtain ⟨a, c, rfl, _⟩ := id hA
 have hl := hk.1
 obtain ⟨n, hn⟩ : ∃ n, xs.length = n := ⟨_, rfl⟩
 have hcell := fun j hj => hA.cell (Below.refl _ w) j hj
 rw [hn] at hl ⊢
 have HN := qH0 hn
 clear hA hn
 go_enter Tryz.func125, Tryz.ntmps125
 go_wp2
 go_loopw [3, 4] (fun u i wr => ∃ k : Nat, i = .int .i64 k ∧ k ≤ n ∧ u = .int .i64 (lenN (xs.take k) : Int) ∧ wr = w) (fun _ i _ => n - (intOf i).toNat)
 case atStart => exact ⟨0, rfl, Nat.zero_le _, rfl, rfl⟩
 case round =>
  obtain ⟨k, rfl, hkn, rfl, rfl⟩ := hrel
  by_cases hlt : k < n
  ·have hkp : k < xs.length := by rw [HN.out]; exact hlt
   obtain ⟨g, off, rfl, hg, hc⟩ := hcell k hkp
   obtain ⟨s, hs0, hsz, hsv⟩ := str_of xs[k]
   rw [hsv] at hc
   have hxk := hk.get k hkp
   have hb := qh8 hk k (by omega)
   have hr : lenN (xs.take (k + 1)) = lenN (xs.take k) + 1 + s.size := by rw [List.take_succ_eq_append_getElem hkp, qen, hsz]
   have HR := qH0 hr
   rw [← hsz] at hxk
   clear hs0 hsz hsv hr
   generalize lenN (xs.take k) = q at *
   go_wp2
   go_roundw
   case rel => exact ⟨k + 1, by go_num, by omega, by rw [HR.out]; simp, trivial⟩
   case measure => simp [intOf]; omega
  ·obtain rfl : k = n := by omega
   have hr : lenN (xs.take k) = lenN xs := by rw [List.take_of_length_le (by rw [HN.out]; exact qN0)]
   rw [hr]
   go_wp2
   go_ret
   exact ⟨rfl, rfl⟩
theorem qbJ (v : Value) (xs : Nm) (w : World) (hA : StrsAt w v xs) (hk : NmOK xs) :
 Calls Tryz.prog 68 #[v] w fun e w' => e = .returned (.int .i64 (checkN xs)) ∧ w' = w := by
 obtain ⟨a, c, rfl, _⟩ := id hA
 have hL := qm2 _ xs w hA hk
 have hl := hk.1
 obtain ⟨n, hn⟩ : ∃ n, xs.length = n := ⟨_, rfl⟩
 have hcell := fun j hj => hA.cell (Below.refl _ w) j hj
 rw [hn] at hl hL ⊢
 have HN := qH0 hn
 clear hA hn
 go_enter Tryz.func68, Tryz.ntmps68
 go_wp2
 go_loopw [3] (fun i wr => ∃ k : Nat, i = .int .i64 k ∧ k ≤ n ∧ Hid (checkL (xs.take k) = 0) ∧ wr = w) (fun i _ => n - (intOf i).toNat)
 case atStart => exact ⟨0, rfl, Nat.zero_le _, qH0 rfl, rfl⟩
 case round =>
  obtain ⟨k, rfl, hkn, HC, rfl⟩ := hrel
  by_cases hlt : k < n
  ·have hkp : k < xs.length := by rw [HN.out]; exact hlt
   obtain ⟨g, off, rfl, hg, hc⟩ := hcell k hkp
   obtain ⟨s, hs0, hsz, hsv⟩ := str_of xs[k]
   rw [hsv] at hc
   have hxk := hk.get k hkp
   have hCk := fun W => qf7 s W (by unfold maxLen; omega)
   rw [hs0] at hCk
   have hr : checkL (xs.take (k + 1)) = qam xs[k] := by rw [List.take_succ_eq_append_getElem hkp, qeT, if_pos HC.out]
   clear hs0 hsz hsv hxk
   generalize qam xs[k] = q at *
   by_cases hq : (q != 0) = true
   ·have H0 : Hid (checkN xs = q) := qH0 (by rw [← hr]; exact qdr (List.take_prefix _ _) (by rw [hr]; simpa using hq))
    clear hr
    go_wp2_with (go_at_call 124; refine (hCk _).mono ?_; rintro e w2 ⟨rfl, rfl⟩)
    go_ret
    exact ⟨by rw [H0.out]; rfl, rfl⟩
   ·have hq1 : (q != 0) = false := by simpa using hq
    have HR := qH0 hr; have HQ := qH0 hq1
    clear hr hq
    go_wp2_with (go_at_call 124; refine (hCk _).mono ?_; rintro e w2 ⟨rfl, rfl⟩)
    go_roundw
    case rel => exact ⟨k + 1, by go_num, by omega, qH0 (by rw [HR.out]; simpa using HQ.out), trivial⟩
    case measure => simp [intOf]; omega
  ·obtain rfl : k = n := by omega
   have hr : xs.take k = xs := List.take_of_length_le (by rw [HN.out]; exact qN0)
   rw [hr] at HC
   have hd : checkN xs = if 255 < (lenN xs : Int) then 3 else 0 := by
    unfold checkN; rw [if_pos HC.out]
    by_cases h : 255 < lenN xs
    ·rw [if_pos h, if_pos (by omega)]
    ·rw [if_neg h, if_neg (by omega)]
   have HD := qH0 hd
   clear hr hd
   generalize lenN xs = q at *
   go_wp2_with (go_at_call 125; refine hL.mono ?_; rintro e w2 ⟨rfl, rfl⟩)
   ·go_ret
    exact ⟨by rw [HD.out, if_pos (by assumption)]; rfl, rfl⟩
   ·go_ret
    exact ⟨by rw [HD.out, if_neg (by omega)]; rfl, rfl⟩
def NmAt (W : World) (v : Value) (xs : Nm) : Prop := StrsAt W v xs ∧ SlOK v
theorem NmAt.below {W W' : World} {v : Value} {xs : Nm} (h : NmAt W v xs) (hb : Below W.heap.size W W') : NmAt W' v xs := ⟨h.1.below hb, h.2⟩
theorem OwnG.nmAt {W : World} {base : Nat} {v : Value} {xs : Nm} (h : OwnG 9 strV W base v xs) : NmAt W v xs := ⟨StrsAt.of_own h, h.slOK⟩
theorem qhJ (n : Int) (w : World) : Calls Tryz.prog 186 #[.int .i64 n] w fun e w' => e = .returned (.int .i64 (cmpI n 0)) ∧ w' = w := by
 unfold cmpI
 by_cases h1 : n < 0
 ·rw [if_pos h1]
  go_enter Tryz.func186, Tryz.ntmps186
  go_wp2
  go_ret
  exact ⟨rfl, rfl⟩
 ·rw [if_neg h1]
  by_cases h2 : 0 < n
  ·rw [if_pos h2]
   go_enter Tryz.func186, Tryz.ntmps186
   go_wp2
   go_ret
   exact ⟨rfl, rfl⟩
  ·rw [if_neg h2]
   go_enter Tryz.func186, Tryz.ntmps186
   go_wp2
   go_ret
   exact ⟨rfl, rfl⟩
theorem qkI (s : ByteArray) (v : Value) (xs : Nm) (w : World) (hA : NmAt w v xs) (hk : NmOK xs) :
 Calls Tryz.prog 76 #[.string s, v] w (qhC (s.data.toList :: xs) w) := by
 obtain ⟨hA, hO⟩ := hA
 obtain ⟨a, c, rfl, hx⟩ := id hA
 have hl := hk.1
 have hlit : OwnG 9 strV (w.alloc (.cells #[.string s] 9)) w.heap.size (.slice (some ⟨w.heap.size, 0, none⟩) 1 1) [s.data.toList] := by
  have := OwnG.lit (T := 9) (enc := strV) w w.heap.size (qN0) [s.data.toList] (by unfold maxLen; simp)
  simp only [List.map_cons, List.map_nil, qjb] at this
  exact this
 have hbl : Below w.heap.size w (w.alloc (.cells #[.string s] 9)) := (qL0).alloc (qN0) _
 go_enter Tryz.func76, Tryz.ntmps76
 go_wp2_with (at_builtin; refine qaF (w.alloc (.cells #[.string s] 9)) rfl (.tmp 6) (.tmp 7) qm6 rfl w.heap.size (.slice (some ⟨w.heap.size, 0, none⟩) 1 1) [s.data.toList] rfl hlit (.slice a xs.length c) xs rfl (hA.below hbl) hO hbl.size (by unfold maxLen; simp; omega) (by simp; omega) ?_; intro v2 w2 hown2 hg2)
 go_ret
 exact ⟨v2, rfl, hown2, hbl.grown hg2 hbl.size hlit.base_le⟩
end Go.Proofs.YtckammgnmgkieaaGreat
namespace Go.Proofs.YtckammgnmgkieaaGreat
set_option maxRecDepth 100000
set_option maxHeartbeats 4000000
open Go.RowKit Go.Shelf
theorem qff {F : Fence} {d : Nat} {ops : Array Oper} {rest : List Oper} {o : Oper} {a : Act} {Q : Exit → Act → World → Prop} (W : World) (hgd : o.guard = none) (sl x : Operand)
 (ho : o.op = .call { callee := .builtin .append, args := #[sl, x], argTypes := #[99, 9] })
 (base : Nat) (v : Value) (xs : List UInt8) (hs : a.eval sl = v) (hown : OwnG 5 bv W base v xs) (s : ByteArray) (hx : a.eval x = .string s)
 (hbase : base ≤ W.heap.size) (hk : xs.length + s.size ≤ 140737488355328)
 (h : ∀ v' w', OwnG 5 bv w' base v' (xs ++ s.data.toList) → W.grownBy w' v.ownBlock → wpListIn F d Tryz.prog ops Q rest (a.put o.dst v') w') : wpListIn F d Tryz.prog ops Q (o :: rest) a W := by
 obtain ⟨i0, hi, hz0, hz1, hz2⟩ := info_parts qeE
 refine wpListIn_plain hgd fun K hK => ?_
 obtain ⟨v', w', hr, h2, h3, h4⟩ := Lib.run_append_own_string (P := Tryz.prog) (w := W) base 99 9 o.type 5 i0 Tryz.underlying99 Tryz.underlying9 hi hz0 hz1 hz2 v xs.length (xs.map bv) hown s (by unfold maxLen; omega) hk hbase
 unfold Oper.wpIn
 refine ⟨?_, ?_⟩
 ·simp [Oper.about, ho, resolve, Target.leads, Sem.run_pure]
 ·rw [Oper.semAt_plain F _ _ (by rw [ho]; intro c hc'; cases hc')]
  simp [execOp, ho, resolve, invoke, builtin, hs, hx, hr, Result.andThen]
  refine hK _ _ (h v' w' ?_ h3)
  unfold OwnG
  rw [List.length_append, List.map_append, qbu]
  exact h2
def textF (n : Nm) : List UInt8 := n.flatMap fun x => textL x ++ [46]
theorem qfk (n : Nm) (x : List UInt8) : textF (n ++ [x]) = textF n ++ textL x ++ [46] := by simp [textF]
theorem qij {n : Nm} (h : n ≠ []) : textN n = textF n := by unfold textN; rw [if_neg h]; rfl
theorem qmp {xs : Nm} (h : NmOK xs) (pre : List (Fin xs.length)) : (textF (atN xs pre)).length ≤ pre.length * 4194305 := by
 induction pre with
 | nil => simp [textF, atN]
 | cons j r ih =>
  have h1 := h.get j.val j.isLt
  have h2 := qcd xs[j]
  simp only [textF, atN, List.map_cons, List.flatMap_cons, List.length_append, List.length_cons, List.length_nil, Fin.getElem_fin] at ih h2 ⊢
  omega
section
attribute [local go_sem] Oper.semAt_some
theorem qk5 (v : Value) (xs : Nm) (w : World) (hA : StrsAt w v xs) (hk : NmOK xs) :
 Calls Tryz.prog 139 #[v] w fun e w' => e = .returned (.string ⟨(textN xs).toArray⟩) ∧ Below w.heap.size w w' := by
 obtain ⟨a, c, rfl, hx⟩ := id hA
 have hl := hk.1
 have hrow := hA.row_lt
 refine (callsIn_wide (n := 5)).1 ?_
 refine callsIn_of_wp_marks Tryz.func139 rfl trivial ?_ rfl
 simp only [Tryz.ntmps139, List.size_toArray, List.length_cons, List.length_nil, Nat.reduceAdd, Nat.reduceSub, Array.replicate_succ, Array.replicate_zero, List.push_toArray, List.append_toArray, List.nil_append, List.cons_append]
 by_cases h0 : xs = []
 ·have h00 : xs.length = 0 := by rw [h0]; rfl
  have ht : textN xs = [46] := by unfold textN; rw [if_pos h0]
  have HT := qH0 ht
  rw [h00]
  clear h0 ht
  gi_wp2
  exact ⟨_, results_tmp rfl _ _ _, by rw [HT.out]; rfl, qL0⟩
 have HT := qH0 (qij h0)
 have hne : ((xs.length : Int) == 0) = false := by
  have : xs.length ≠ 0 := fun e => h0 (List.eq_nil_of_length_eq_zero e)
  simp; omega
 clear h0
 gi_wp2_with (refine ⟨trivial, ?_⟩; gi_at_call 103; refine (callsIn_wide.2 (qcl _ _ _ _)).mono ?_; rintro e w' ⟨rfl, rfl⟩)
 obtain ⟨W0, hW0⟩ : ∃ W0, ((w.alloc (.cells #[.slice none 0 0] 99)).alloc (.cells #[.slice a xs.length c] 24)) = W0 := ⟨_, rfl⟩
 have bS : Boxed W0 (w.heap.size + 1) 24 (.slice a xs.length c) := by
  have := Boxed.new (w.alloc (.cells #[.slice none 0 0] 99)) 24 (.slice a xs.length c)
  rw [World.size_alloc] at this
  rw [← hW0]; exact this
 have hsz : W0.heap.size = w.heap.size + 2 := by rw [← hW0]; simp
 have hB0 : Below w.heap.size w W0 := by rw [← hW0]; exact ((Below.refl _ w).alloc (qN0) _).alloc (by simp) _
 have hI0 : GBox 5 99 bv w.heap.size w.heap.size [] W0 := by rw [← hW0]; exact ⟨_, (Boxed.new w _ _).alloc _, OwnG.nil _ _⟩
 rw [hW0]
 have HZ := qH0 hsz; clear hsz hW0
 refine wpIn_rangeFunc_ownG rfl (by omega) (gf := 143) (lb := #[.pointer (some ⟨w.heap.size + 1, 0, none⟩)]) rfl trivial (enters_of Tryz.func143 (by kernel_rfl) rfl)
  (qb3 _ (by omega) (w.heap.size + 1) (.slice a xs.length c) xs (by unfold maxLen; omega) W0 (by rw [HZ.out]; omega) bS.cell (hA.below hB0)) qcJ (qaU (by rw [HZ.out]; omega) (fun g e => by have := hrow g e; rw [HZ.out]; omega)) (qL0) (fun _ => rfl)
  (fun pre W => GBox 5 99 bv w.heap.size w.heap.size (textF (atN xs pre)) W ∧ Below w.heap.size w W ∧ Boxed W (w.heap.size + 1) 24 (.slice a xs.length c))
  (fun _ _ _ => False)
  (OwnFrom.and (Own.from (qmg w.heap.size w.heap.size (fun pre => textF (atN xs pre))) _) (OwnFrom.and (ownFrom_below (qN0) (by rw [HZ.out]; omega)) (Own.from (boxed_own _ _ _) _)))
  (fun _ _ _ _ _ hs _ _ => hs)
  ⟨hI0, hB0, bS⟩
  (fun j => { tmps := #[.slice a xs.length c, undef, .string ⟨#[]⟩, .pointer (some ⟨w.heap.size, 0, none⟩), undef, .string ⟨xs[j].toArray⟩, .slice a xs.length c, .int .i64 xs.length, .bool false, .slice a xs.length c, .func (.func 143) #[] #[.pointer (some ⟨w.heap.size + 1, 0, none⟩)], .int .i64 (j.val : Int), .string ⟨xs[j].toArray⟩, undef, undef, undef, undef, undef, undef, undef, undef, undef], defers := [] }) ?assign ?body ?done ?stop
 case assign =>
  intro l x W K hK
  unfold idxV strV
  gi_wp2
  exact hK
 case body =>
  rintro l pre x W ⟨⟨u, hv, hown⟩, hB, hS⟩ hlt
  have hc := hv.cell
  have hple := qmp hk pre
  have hx1 : xs[x].length ≤ 1048576 := hk.get x.val x.isLt
  obtain ⟨sx, hsx0, hsxz, hsxv⟩ := str_of xs[x]
  have hF := fun W => qj3 sx W (by omega)
  rw [hsx0] at hF
  rw [str_at hsxv]
  have hsn : textF (atN xs (pre ++ [x])) = textF (atN xs pre) ++ textL xs[x] ++ [46] := by rw [qim, qfk]
  have HSN := qH0 hsn
  have htl := qcd xs[x]
  clear hsx0 hsxz hsxv hsn
  generalize textF (atN xs pre) = fs at *
  obtain ⟨sy, hsy0, hsyz, _⟩ := str_of (textL xs[x])
  rw [show (⟨(textL xs[x]).toArray⟩ : ByteArray) = sy from ba_ext (by rw [hsy0])] at hF
  rw [← hsy0] at HSN
  have hfb : fs.length + sy.size + 1 ≤ 140737488355328 := by omega
  clear hsy0 hsyz htl hple hx1
  gi_wp2
  have kd : KeepsOthers W W.drew := KeepsOthers.drew W
  have bd : Below w.heap.size W W.drew := (Below.refl _ W).drew
  have kbd : KeepN (w.heap.size + 1) (.slice a xs.length c) W W.drew := ⟨rfl, fun _ _ => rfl⟩
  have hvd : Boxed W.drew w.heap.size 99 u := hv
  have hownd : OwnG 5 bv W.drew w.heap.size u fs := hown
  have hSd : Boxed W.drew (w.heap.size + 1) 24 (.slice a xs.length c) := hS
  clear hc
  refine qem [[0, 1, 2, 3, 4], [1, 0, 2, 3, 4], [1, 2, 0, 3, 4]] qae (by kernel_rfl) ?_
  generalize W.drew = Wd at *
  have hc := hvd.cell
  have hbase : w.heap.size ≤ Wd.heap.size := by have := hB.size; have := bd.size; omega
  refine ⟨?_, ?_, ?_, trivial⟩
  all_goals
   simp only [List.filterMap_cons, List.filterMap_nil, List.getElem?_toArray, List.getElem?_cons_zero, List.getElem?_cons_succ]
   change wpListIn _ _ _ _ _ [_, _, _, _, _] _ _
   gi_wp2_with (first | (gi_at_builtin; refine qff w2 rfl (.tmp 13) (.tmp 15) rfl w.heap.size u fs rfl hown2 sy rfl hbase2 (by omega) ?_; intro v' w1 hown' hg'; obtain ⟨a', n', c', rfl⟩ : ∃ a n c, v' = .slice a n c := (by obtain ⟨a, c, e⟩ := hown'.shape; exact ⟨_, _, _, e⟩); obtain ⟨hv1, ho2, hk2, hbb2, hs2⟩ := qdp (by decide) hv2 hown2 (by omega) hown' hg'; have hc1 := hv1.cell; have hf1 := hv1.frozen; have hv3 := hv1.set (.slice a' n' c'); have hown3 : OwnU8 (w1.setCell ⟨w.heap.size, 0, none⟩ (.slice a' n' c')) w.heap.size (.slice a' n' c') (fs ++ sy.data.toList) := OwnG.kept hown' (grownBy_setCell' w1 _ _) (.inr (hv1.not_row (by decide) hown').symm); have hc3 := hv3.cell; have hbase3 := Nat.le_trans hbase2 hk2.size) | (gi_at_builtin; refine qfP (w1.setCell ⟨w.heap.size, 0, none⟩ (.slice a' n' c')) rfl (.tmp 17) (.tmp 18) rfl w.heap.size (.slice a' n' c') (fs ++ sy.data.toList) rfl hown3 [.int .u8 46] [46] rfl 1 1 (by simp [Act.eval]) rfl hbase3 (by rw [List.length_append, qbu]; simp; omega) ?_; intro v4 w4 hown4 hg4; obtain ⟨a4, n4, c4, rfl⟩ := hown4.shape; obtain ⟨hv5, ho5, hk5, hbb5, hs5⟩ := qdp (enc := bv) (by decide) hv3 hown3 (by omega) hown4 hg4; have hc5 := hv5.cell; have hf5 := hv5.frozen) | (refine ⟨trivial, ?_⟩; gi_at_call 173; refine (CallsIn.inRound l (callsIn_wide.2 (hF _))).mono ?_; rintro e w2 ⟨rfl, hb2⟩; have hv2 : Boxed w2 w.heap.size 99 u := (hb2.block _ hvd.lt).trans hvd; have hS2 : Boxed w2 (w.heap.size + 1) 24 (.slice a xs.length c) := (hb2.block _ hSd.lt).trans hSd; have hown2 := hownd.below hb2; have hc2 := hv2.cell; have hbase2 : w.heap.size ≤ w2.heap.size := Nat.le_trans hbase hb2.size))
   have kB := hs2 (w.heap.size + 1) 24 (by decide) hS2.lt (by omega) _ hS2
   have hS3 := qdC kB hS2
   have kB5 := hs5 (w.heap.size + 1) 24 (by decide) hS3.lt (by omega) _ hS3
   have ko : KeepsOthers Wd w2 := ⟨hb2.size, fun k o hk _ => (hb2.block k (Array.getElem?_eq_some_iff.1 hk).1).trans hk⟩
   refine ⟨((kd.trans (ko.trans hk2)).trans hk5).from _, kbd.trans ((KeepN.below hb2 hSd.lt (fun g e => by have := hrow g e; omega)).trans ⟨kB.trans kB5, fun g e => ?_⟩), by rw [HSN.out]; exact ho5, hB.trans (bd.trans (((hb2.mono hbase).trans hbb2).trans hbb5)), qdC kB5 hS3⟩
   have h1 := hrow g e
   have hz1 := hg'.size
   exact ((KeepB.of_grownBy hg' (by omega) (fun q => by have := hown2.base_le g q.symm; omega)).trans (KeepB.setCell _ _ (by omega))).trans ((KeepB.of_grownBy hg4 (by omega) (fun q => by have := hown3.base_le g q.symm; omega)).trans (KeepB.setCell _ _ (by omega)))
 case done =>
  rintro D ys W hD rfl ⟨⟨u, hv, hown⟩, hB, _⟩ hK
  have hc := hv.cell
  have hcv := OwnU8.string (show OwnU8 W w.heap.size u (textF (atN xs (List.finRange xs.length))) from hown)
  rw [qjd, ← HT.out] at hcv
  gi_wp2
  refine ⟨by simp, .inl ⟨_, _, rfl, run_takeDeferred hK, ?_⟩⟩
  exact ⟨_, results_tmp rfl _ _ _, rfl, hB.trans (belowK_b (w := w) (qN0) W D _ _ (by have := HZ.out; omega) hK rfl rfl)⟩
 case stop =>
  rintro D c pre W _ _ h _
  exact h.elim
end
end Go.Proofs.YtckammgnmgkieaaGreat
