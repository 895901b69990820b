/-
  What rec.Canon's loop keeps; the runs' row; an append of one record inside a fence.
-/
import Derived.Test.YtfcdajldpnomfaaGreatDoorMQ40
import Derived.Test.YtfcdajldpnomfaaGreatDoorMQ20
import Derived.RangeFuncKeeps
import Derived.RangeFuncNested
import Derived.RangeFuncWrites
import Derived.Test.YtfcdajldpnomfaaGreatDoorMQ42
import Derived.Test.YtfcdajldpnomfaaGreatDoorMQ21
import Derived.Test.YtfcdajldpnomfaaGreatDoorMQ16
import Derived.Deep.RegionHeld3
import Derived.Test.YtfcdajldpnomfaaGreatDoorMQ26
import Derived.Deep.RegionLaw
import Derived.Test.YtfcdajldpnomfaaGreatDoorMQ32
import Derived.Test.YtfcdajldpnomfaaGreatDoorMQ33
import Derived.Test.YtfcdajldpnomfaaGreatDoorMQ05
import Derived.Test.YtfcdajldpnomfaaGreatDoorMQ06
import Derived.Test.YtfcdajldpnomfaaGreatDoorMQ04
import Derived.Test.YtfcdajldpnomfaaGreatDoorMQ25
namespace Go.Proofs.YtfcdajldpnomfaaGreatDoor
open Go.RowKit Go.Shelf
set_option maxRecDepth 20000
set_option linter.unusedVariables false
set_option linter.unusedSimpArgs false

theorem wplIn_append_c {S T : TypeId} {k bytes : Nat} {F : Fence} {n : Nat} {ops : Array Oper} {rest : List Oper} {o : Oper} {a : Act} {Q : Exit → Act → World → Prop} (W : World) (hgd : o.guard = none) (s x : Operand) (hE : ElemK k T S bytes) (hk0 : 0 < k)
    (ho : o.op = .call { callee := .builtin .append, args := #[s, x], argTypes := #[S, S] })
    (base : Nat) (v : Value) (xs : List (List Value)) (hs : a.eval s = v) (hown : OwnC k T W base v xs)
    (cs : List Value) (hcl : cs.length = k) (hc1 : ∀ u ∈ cs, u.oneCell' = true) (c : Nat) (hx : a.eval x = .slice (some ⟨W.heap.size, 0, none⟩) 1 c)
    (hbase : base ≤ W.heap.size) (hk : xs.length + 1 ≤ maxLen) (hk2 : (xs.length + 1) * bytes ≤ 140737488355328)
    (h : ∀ v' w', OwnC k T w' base v' (xs ++ [cs]) → W.grownBy w' v.ownBlock → wpListIn F n Tryz.prog ops Q rest (a.put o.dst v') w') :
    wpListIn F n Tryz.prog ops Q (o :: rest) a (W.alloc (.cells cs.toArray T)) := by
  obtain ⟨ht, i, z, hi, hz, hz1, hz2, hzc⟩ := hE
  refine wpListIn_append_own _ hgd s x S ho base T i z k bytes ht hi hz hz1 hz2 hzc hk0 v xs.length (xs.flatMap fun cs => cs) hs (hown.alloc _) ⟨W.heap.size, 0, none⟩ 1 c cs hx (by omega) (cells_new W _ _) hc1 hk hk2 (by simp; omega) ?_
  intro v' w' h1 h2 _
  refine h v' w' ?_ (grownBy_of_alloc h2)
  unfold OwnC OwnK
  rw [List.length_append, List.flatMap_append]
  have e : [cs].flatMap (fun cs => cs) = cs := by simp
  rw [e]
  exact h1

set_option maxHeartbeats 400000 in
theorem rec_runs (a : Option Addr) (n c : Nat) (w : World) :
    Calls Tryz.prog 45 #[.slice a n c, .func (.func 15) #[] #[]] w fun e w' => e = .returned (.func (.func 96) #[] #[.pointer (some ⟨w.heap.size, 0, none⟩), .pointer (some ⟨w.heap.size + 1, 0, none⟩)]) ∧ w' = (w.alloc (.cells #[.slice a n c] 34)).alloc (.cells #[.func (.func 15) #[] #[]] 46) := by
  go_enter Tryz.func45, Tryz.ntmps45
  go_wp2
  go_ret
  exact ⟨rfl, rfl⟩

/-- All blocks below n0 but B lie as they lay. -/
structure KpX (n0 B : Nat) (W W' : World) : Prop where
  os : W'.os = W.os
  tape : W'.tape = W.tape
  output : W'.output = W.output
  size : W.heap.size ≤ W'.heap.size
  block : ∀ k, k < n0 → k ≠ B → W'.heap[k]? = W.heap[k]?
theorem KpX.refl (n0 B : Nat) (W : World) : KpX n0 B W W := ⟨rfl, rfl, rfl, Nat.le_refl _, fun _ _ _ => rfl⟩
theorem KpX.trans {n0 B : Nat} {W W' W'' : World} (h : KpX n0 B W W') (k : KpX n0 B W' W'') : KpX n0 B W W'' :=
  ⟨k.os.trans h.os, k.tape.trans h.tape, k.output.trans h.output, Nat.le_trans h.size k.size, fun i a b => (k.block i a b).trans (h.block i a b)⟩
theorem KpX.grown {n0 B : Nat} {W W' : World} {row : Option Nat} (hn : n0 ≤ W.heap.size) (hg : W.grownBy W' row) (hr : ∀ r, row = some r → n0 ≤ r ∨ r = B) : KpX n0 B W W' :=
  ⟨hg.os, hg.tape, hg.output, hg.size, fun i a b => hg.block i (by omega) (fun e => by rcases hr i e.symm with h | h <;> omega)⟩
theorem grown_of_below {W W' : World} (hb : Below W.heap.size W W') : W.grownBy W' none := ⟨hb.os, hb.tape, hb.output, hb.size, fun k hk _ => hb.block k hk⟩
theorem KpX.of_below {n0 B : Nat} {W W' : World} (hn : n0 ≤ W.heap.size) (hb : Below W.heap.size W W') : KpX n0 B W W' := KpX.grown hn (grown_of_below hb) (fun r e => by cases e)
theorem KpX.below {n0 B m : Nat} {W W' : World} (h : KpX n0 B W W') (h1 : m ≤ B) (h2 : m ≤ n0) : Below m W W' := ⟨h.os, h.tape, h.output, h.size, fun k hk => h.block k (by omega) (by omega)⟩

theorem OwnG.keptO {α : Type} {T : TypeId} {enc : α → Value} {W W' : World} {row : Option Nat} {base : Nat} {v : Value} {xs : List α} (h : OwnG T enc W base v xs) (hg : W.grownBy W' row) (hr : ∀ r, row = some r → ∃ o : Obj, W.heap[r]? = some o ∧ o.isCells = false) : OwnG T enc W' base v xs := by
  cases row with
  | none => exact h.kept hg (by cases v.ownBlock <;> simp)
  | some r =>
    obtain ⟨o, h1, h2⟩ := hr r rfl
    exact h.kept hg (.inr fun e => h.ne_of h1 h2 e.symm)
theorem FrAt.keptO {W W' : World} {row : Option Nat} {base : Nat} {cs : List Value} {r : Rc} (h : FrAt W base cs r) (hg : W.grownBy W' row) (hr : ∀ r, row = some r → ∃ o : Obj, W.heap[r]? = some o ∧ o.isCells = false) : FrAt W' base cs r := by
  obtain ⟨vo, vn, vu, vt, vr, e, h1, ⟨⟨vs, k1, k2, k3⟩, i1, i2, i3⟩⟩ := h
  exact ⟨vo, vn, vu, vt, vr, e, h1.keptO hg hr, ⟨⟨vs, k1.keptO hg hr, k2, fun i a b => (k3 i a b).keptO hg hr⟩, i1.keptO hg hr, i2.keptO hg hr, i3.keptO hg hr⟩⟩
theorem OwnC.blk {k : Nat} {T : TypeId} {W : World} {base : Nat} {v : Value} {xss : List (List Value)} (h : OwnC k T W base v xss) : ∀ b, v.ownBlock = some b → ∃ cs, W.heap[b]? = some (.cells cs T) := by
  intro b e
  rcases h.2 with ⟨rfl, _⟩ | ⟨g, cap, cur, rfl, _, hg, _⟩
  · cases e
  · simp only [Value.ownBlock] at e
    cases e
    exact ⟨_, hg⟩
theorem OwnC.keptO {k : Nat} {T : TypeId} {W W' : World} {row : Option Nat} {base : Nat} {v : Value} {xss : List (List Value)} (h : OwnC k T W base v xss) (hg : W.grownBy W' row) (hr : ∀ r, row = some r → ∃ o : Obj, W.heap[r]? = some o ∧ o.isCells = false) : OwnC k T W' base v xss := by
  refine OwnK.kept h hg ?_
  cases row with
  | none => cases v.ownBlock <;> simp
  | some r =>
    obtain ⟨o, h1, h2⟩ := hr r rfl
    right
    intro e
    obtain ⟨cs, h3⟩ := h.blk r e
    rw [h1] at h3; cases h3; cases h2

/-- The records made so far. -/
def OutAt (n0 B : Nat) (rs : List Rc) (xs : List (Nat × Nat)) (W : World) : Prop :=
  ∃ v css, Boxed W B 34 v ∧ OwnC 7 31 W n0 v css ∧ css.length = xs.length ∧ ∀ j (h1 : j < css.length) (h2 : j < xs.length), FrAt W n0 css[j] (runR rs xs[j])
def CanI (n0 B : Nat) (W0 : World) (rs : List Rc) {n : Nat} (pre : List (Seg n)) (W : World) : Prop := KpX n0 B W0 W ∧ OutAt n0 B rs (pre.map (·.1)) W
theorem OutAt.keptO {n0 B : Nat} {rs : List Rc} {xs : List (Nat × Nat)} {W W' : World} {row : Option Nat} (hB : B < n0) (h : OutAt n0 B rs xs W) (hg : W.grownBy W' row) (hr : ∀ r, row = some r → n0 ≤ r ∧ ∃ o : Obj, W.heap[r]? = some o ∧ o.isCells = false) : OutAt n0 B rs xs W' := by
  obtain ⟨v, css, h1, h2, h3, h4⟩ := h
  exact ⟨v, css, h1.kept hg (fun e => by have := (hr B e.symm).1; omega), h2.keptO hg (fun r e => (hr r e).2), h3, fun j a b => (h4 j a b).keptO hg (fun r e => (hr r e).2)⟩
theorem OutAt.below {n0 B : Nat} {rs : List Rc} {xs : List (Nat × Nat)} {W W' : World} (hB : B < n0) (h : OutAt n0 B rs xs W) (hb : Below W.heap.size W W') : OutAt n0 B rs xs W' := h.keptO hB (grown_of_below hb) (fun r e => by cases e)
theorem canI_own {n0 B : Nat} {W0 : World} {rs : List Rc} {n : Nat} (hB : B < n0) (hn : n0 ≤ W0.heap.size) : OwnFrom n0 (CanI (n := n) n0 B W0 rs) := by
  rintro pre W W' row ⟨h1, h2⟩ hg hr
  exact ⟨h1.trans (KpX.grown (Nat.le_trans hn h1.size) hg (fun r e => .inl (hr r e).1)), h2.keptO hB hg hr⟩
/-- One more. -/
theorem OutAt.snoc {n0 B : Nat} {rs : List Rc} {xs : List (Nat × Nat)} {x : Nat × Nat} {W W' : World} {v v' : Value} {css : List (List Value)} {cs : List Value} (hB : Boxed W B 34 v) (ho : OwnC 7 31 W n0 v css) (hl : css.length = xs.length) (hf : ∀ j (h1 : j < css.length) (h2 : j < xs.length), FrAt W n0 css[j] (runR rs xs[j]))
    (hc : FrAt W n0 cs (runR rs x)) (ho' : OwnC 7 31 W' n0 v' (css ++ [cs])) (hg : W.grownBy W' v.ownBlock) : OutAt n0 B rs (xs ++ [x]) (W'.setCell ⟨B, 0, none⟩ v') := by
  have hne : some B ≠ v.ownBlock := ho.ne_block hB (by decide)
  have hB' : Boxed W' B 34 v := hB.kept hg hne
  refine ⟨v', css ++ [cs], hB'.set v', OwnK.keptB ho' hB' (by decide) 0 v', by simp [hl], fun j a b => ?_⟩
  have hk : ∀ {cs : List Value} {r : Rc}, FrAt W n0 cs r → FrAt (W'.setCell ⟨B, 0, none⟩ v') n0 cs r := by
    intro cs r h
    have h' := h.grown ho hg
    obtain ⟨vo, vn, vu, vt, vr, e, h1, ⟨⟨vs, k1, k2, k3⟩, i1, i2, i3⟩⟩ := h'
    exact ⟨vo, vn, vu, vt, vr, e, h1.keptB hB' (by decide) 0 v', ⟨⟨vs, k1.keptB hB' (by decide) 0 v', k2, fun i a b => (k3 i a b).keptB hB' (by decide) 0 v'⟩, i1.keptB hB' (by decide) 0 v', i2.keptB hB' (by decide) 0 v', i3.keptB hB' (by decide) 0 v'⟩⟩
  by_cases hj : j < css.length
  · rw [List.getElem_append_left hj, List.getElem_append_left (by omega)]
    exact hk (hf j hj (by omega))
  · obtain rfl : j = css.length := by simp at a; omega
    have e1 : (css ++ [cs])[css.length]'a = cs := by simp
    have e2 : (xs ++ [x])[css.length]'b = x := by simp [hl]
    rw [e1, e2]
    exact hk hc
/-- A piece of a row of records. -/
theorem SlK.cut {W : World} {g off n c : Nat} {css : List (List Value)} (hk : ∀ cs ∈ css, cs.length = 7) (hn : css.length = n) (hnc : n ≤ c) (hg : g < W.heap.size)
    (hc : ∀ j u, css.flatten[j]? = some u → W.cell? ⟨g, off + j, none⟩ = some u) (s e : Nat) (h1 : s < e) (h2 : e ≤ n) :
    SlK W (.slice (some ⟨g, off + s * 7, none⟩) (e - s) (c - s)) ((css.drop s).take (e - s)) := by
  have hl : ((css.drop s).take (e - s)).length = e - s := by rw [List.length_take, List.length_drop]; omega
  refine ⟨some ⟨g, off + s * 7, none⟩, c - s, by rw [hl], by rw [hl]; omega, (fun e => by cases e), .inr ⟨g, off + s * 7, rfl, hg, fun j u hj => ?_⟩⟩
  have hsplit : css.flatten = (css.take s).flatten ++ (((css.drop s).take (e - s)).flatten ++ ((css.drop s).drop (e - s)).flatten) := by
    rw [← List.flatten_append, ← List.flatten_append, List.take_append_drop, List.take_append_drop]
  have hts : (css.take s).flatten.length = s * 7 := by
    rw [flat_len (k := 7) _ (fun x hx => hk x (List.mem_of_mem_take hx)), List.length_take]; congr 1; omega
  have := hc (s * 7 + j) u (by
    rw [hsplit, List.getElem?_append_right (by omega), hts, show s * 7 + j - s * 7 = j by omega]
    obtain ⟨hjl, _⟩ := List.getElem?_eq_some_iff.1 hj
    rw [List.getElem?_append_left hjl]; exact hj)
  rwa [← Nat.add_assoc] at this
theorem Rcs.cut {W : World} {css : List (List Value)} {rs : List Rc} (h : Rcs W css rs) (s m : Nat) : Rcs W ((css.drop s).take m) ((rs.drop s).take m) := by
  refine ⟨by simp [h.1], fun i h1 h2 => ?_⟩
  simp only [List.getElem_take, List.getElem_drop]
  rw [List.length_take, List.length_drop] at h1 h2
  exact h.2 _ (by omega) (by omega)
theorem runR_at {rs : List Rc} {s e : Nat} (h1 : s < e) (h2 : e ≤ rs.length) : ∃ y r, (rs.drop s).take (e - s) = y :: r ∧ y = rs[s] ∧ runR rs (s, e) = ⟨y.owner, leastM y.ttl r, y.data⟩ := by
  refine ⟨rs[s], (rs.drop (s + 1)).take (e - s - 1), ?_, rfl, ?_⟩
  · rw [List.drop_eq_getElem_cons (by omega)]
    obtain ⟨m, hm⟩ : ∃ m, e - s = m + 1 := ⟨e - s - 1, by omega⟩
    rw [hm, List.take_succ_cons]
    rfl
  · unfold runR
    rw [List.drop_eq_getElem_cons (show s < rs.length by omega)]
end Go.Proofs.YtfcdajldpnomfaaGreatDoor

/-
  rec.Check; the closure of rec.SameRow.
-/
namespace Go.Proofs.YtfcdajldpnomfaaGreatDoor
open Go.RowKit Go.Shelf
set_option maxRecDepth 20000
set_option linter.unusedVariables false
set_option linter.unusedSimpArgs false

/-- P501's Check. -/
def checkR (r : Rc) : Int := if checkN r.owner ≠ 0 then checkN r.owner else if 2147483647 < r.ttl then 7 else checkD r.data

set_option maxRecDepth 100000 in
set_option maxHeartbeats 4000000 in
theorem rec_Check (cs : List Value) (r : Rc) (w : World) (hA : RcAt w cs r) (hk : RcOK r) :
    Calls Tryz.prog 13 #[.agg cs.toArray] w fun e w' => e = .returned (.int .i64 (checkR r)) ∧ Below w.heap.size w w' := by
  obtain ⟨vo, vn, vu, vt, vr, rfl, a1, a2⟩ := hA
  have HN := Lib.hid (fun W (hb : Below w.heap.size w W) => kn_NCheck vo r.owner _ rfl W (a1.below hb) hk.1)
  have HD := Lib.hid (fun W (hb : Below w.heap.size w W) => rdata_Check _ r.data W (a2.below hb) hk.2.2)
  unfold CheckPost at HD
  have hR := Lib.hid (show checkR r = if checkN r.owner ≠ 0 then checkN r.owner else if 2147483647 < r.ttl then 7 else checkD r.data from rfl)
  generalize checkR r = res at *
  generalize checkN r.owner = q at *
  generalize checkD r.data = q2 at *
  generalize r.data.ty = x at *
  obtain ⟨t, ht⟩ : ∃ t, r.ttl = t := ⟨_, rfl⟩
  rw [ht] at hR ⊢
  have hb0 : Below w.heap.size w (w.alloc (.cells #[vo, .int .u32 (t : Int), .int .i64 x, vn, vu, vt, vr] 31)) := (Below.refl w.heap.size w).alloc (Nat.le_refl _) _
  have K1 := Lib.hid (knew w (.cells #[vo, .int .u32 (t : Int), .int .i64 x, vn, vu, vt, vr] 31))
  have HBB := Lib.hid hb0
  have hn := HN.out _ hb0
  clear a1 a2 hb0 hk ht HN
  by_cases hq : q = 0
  · subst hq
    by_cases hov : 2147483647 < t
    · have HR : Hid (res = 7) := Lib.hid (by rw [hR.out, if_neg (by simp), if_pos hov])
      have hovz : (2147483647 : Int) < (t : Int) := by omega
      clear hR
      go_enter Tryz.func13, Tryz.ntmps13
      go_wp2_with fail
      refine hn.mono ?_
      rintro e w1 ⟨rfl, hb1⟩
      have c1 := (hb1.block _ (kblock_lt K1.out)).trans K1.out
      have p1 := kcell c1 1 (.int .u32 (t : Int)) rfl
      have HB1 := Lib.hid (HBB.out.trans (hb1.mono HBB.out.size))
      clear hn hb1 c1
      go_wp2
      go_ret
      exact ⟨by rw [HR.out]; rfl, HB1.out⟩
    · have HR : Hid (res = q2) := Lib.hid (by rw [hR.out, if_neg (by simp), if_neg hov])
      have hovz : ¬ (2147483647 : Int) < (t : Int) := by omega
      clear hR
      go_enter Tryz.func13, Tryz.ntmps13
      go_wp2_with fail
      refine hn.mono ?_
      rintro e w1 ⟨rfl, hb1⟩
      have c1 := (hb1.block _ (kblock_lt K1.out)).trans K1.out
      have p1 := kcell c1 1 (.int .u32 (t : Int)) rfl; have p2 := kcell c1 2 _ rfl; have p3 := kcell c1 3 _ rfl; have p4 := kcell c1 4 _ rfl; have p5 := kcell c1 5 _ rfl; have p6 := kcell c1 6 _ rfl
      have HB1 := Lib.hid (HBB.out.trans (hb1.mono HBB.out.size))
      have hd := HD.out w1 HB1.out
      clear hn hb1 c1
      go_wp2_with fail
      refine hd.mono ?_
      rintro e w2 ⟨rfl, hb2⟩
      go_wp2
      go_ret
      exact ⟨by rw [HR.out]; rfl, HB1.out.trans (hb2.mono HB1.out.size)⟩
  · have HR : Hid (res = q) := Lib.hid (by rw [hR.out, if_pos hq])
    have hqz : (q == 0) = false := by simpa using hq
    have hqn : (q != 0) = true := by simpa using hq
    clear hR
    go_enter Tryz.func13, Tryz.ntmps13
    go_wp2_with fail
    refine hn.mono ?_
    rintro e w1 ⟨rfl, hb1⟩
    have HB1 := Lib.hid (HBB.out.trans (hb1.mono HBB.out.size))
    clear hn hb1
    go_wp2
    go_ret
    exact ⟨by rw [HR.out]; rfl, HB1.out⟩

/-- Alike with their TTLs. -/
def twinR (a b : Rc) : Bool := decide (a.ttl = b.ttl) && sameR a b
set_option maxRecDepth 100000 in
set_option maxHeartbeats 4000000 in
theorem rec_twin (cs cs' : List Value) (a b : Rc) (w : World) (hA : RcAt w cs a) (hU : RcAt w cs' b) (hk : RcOK a) (hk2 : RcOK b) :
    Calls Tryz.prog 54 #[.agg cs.toArray, .agg cs'.toArray] w fun e w' => e = .returned (.bool (twinR a b)) ∧ Below w.heap.size w w' := by
  have HS := Lib.hid (fun W (hb : Below w.heap.size w W) => rec_Same cs cs' a b W (hA.below hb) (hU.below hb) hk hk2)
  obtain ⟨vo, vn, vu, vt, vr, rfl, -⟩ := hA
  obtain ⟨uo, un, uu, ut, ur, rfl, -⟩ := hU
  have hR := Lib.hid (show twinR a b = (decide (a.ttl = b.ttl) && sameR a b) from rfl)
  generalize twinR a b = res at *
  generalize sameR a b = q at *
  generalize a.data.ty = x at *
  generalize b.data.ty = y at *
  obtain ⟨ta, hta⟩ : ∃ t, a.ttl = t := ⟨_, rfl⟩
  obtain ⟨tb, htb⟩ : ∃ t, b.ttl = t := ⟨_, rfl⟩
  rw [hta] at hR HS ⊢
  rw [htb] at hR HS ⊢
  obtain ⟨O1, hO1⟩ : ∃ O, O = Obj.cells #[vo, .int .u32 (ta : Int), .int .i64 x, vn, vu, vt, vr] 31 := ⟨_, rfl⟩
  obtain ⟨O2, hO2⟩ : ∃ O, O = Obj.cells #[uo, .int .u32 (tb : Int), .int .i64 y, un, uu, ut, ur] 31 := ⟨_, rfl⟩
  have hbb := ((Below.refl w.heap.size w).alloc (Nat.le_refl _) O1).alloc (o := O2) (by simp)
  have HBB := Lib.hid hbb
  have hn := HS.out _ hbb
  have k1 : ((w.alloc O1).alloc O2).heap[w.heap.size]? = some O1 := (Below.heap_alloc (w.alloc O1) O2 w.heap.size (by simp)).trans (knew w O1)
  have k2 : ((w.alloc O1).alloc O2).heap[w.heap.size + 1]? = some O2 := by have := knew (w.alloc O1) O2; simpa using this
  rw [hO1] at k1 k2 hn HBB
  rw [hO2] at k1 k2 hn HBB
  clear hbb hk hk2 hO1 hO2 hta htb HS
  by_cases ht : ta = tb
  · subst ht
    have HR : Hid (res = q) := Lib.hid (by rw [hR.out]; simp)
    clear hR k1 k2
    go_enter Tryz.func54, Tryz.ntmps54
    go_wp2_with fail
    refine hn.mono ?_
    rintro e w1 ⟨rfl, hb1⟩
    go_wp2
    go_ret
    exact ⟨by rw [HR.out]; rfl, HBB.out.trans (hb1.mono HBB.out.size)⟩
  · have HR : Hid (res = false) := Lib.hid (by rw [hR.out]; simp [ht])
    have hz : ¬ (ta : Int) = (tb : Int) := by omega
    have hz2 : ((ta : Int) == (tb : Int)) = false := by simpa using hz
    clear hR k1 k2 hn
    go_enter Tryz.func54, Tryz.ntmps54
    go_wp2
    go_ret
    exact ⟨by rw [HR.out]; rfl, HBB.out⟩
end Go.Proofs.YtfcdajldpnomfaaGreatDoor

/-
  rec.Text.
-/
namespace Go.Proofs.YtfcdajldpnomfaaGreatDoor
open Go.RowKit Go.Shelf
set_option maxRecDepth 20000
set_option linter.unusedVariables false
set_option linter.unusedSimpArgs false

/-- P501's Text. -/
def textR (r : Rc) : List UInt8 := textN r.owner ++ [32] ++ Lib.decDigits r.ttl ++ [32, 73, 78, 32] ++ typeTextM r.data.ty ++ [32] ++ textD r.data
/-- The box, and what lies below it. -/
structure TxB (w : World) (v0 v1 v2 v3 v4 v5 v6 : Value) (W : World) : Prop where
  p : W.heap[w.heap.size]? = some (.cells #[v0, v1, v2, v3, v4, v5, v6] 31)
  below : Below w.heap.size w W
theorem TxB.keep {w W W' : World} {v0 v1 v2 v3 v4 v5 v6 : Value} (h : TxB w v0 v1 v2 v3 v4 v5 v6 W) (hb : Below W.heap.size W W') : TxB w v0 v1 v2 v3 v4 v5 v6 W' :=
  ⟨(hb.block _ (kblock_lt h.p)).trans h.p, h.below.trans (hb.mono h.below.size)⟩
theorem add_lists (x y z : List UInt8) (h : z = x ++ y) (hz : z.length ≤ 1000000000000) (W : World) : (Op.stringOp .add (⟨x.toArray⟩ : ByteArray) ⟨y.toArray⟩).run Tryz.prog W = .ok (.string ⟨z.toArray⟩) W := by
  subst h
  have := run_string_add_sum (P := Tryz.prog) W (⟨x.toArray⟩ : ByteArray) ⟨y.toArray⟩ (by rw [mk_size, mk_size]; rw [List.length_append] at hz; omega)
  rw [mk_append] at this
  exact this
def TxS (w : World) (v0 v1 v2 v3 v4 v5 v6 : Value) (W : World) : Prop :=
  W.cell? ⟨w.heap.size, 0, none⟩ = some v0 ∧ W.cell? ⟨w.heap.size, 2, none⟩ = some v2 ∧ W.cell? ⟨w.heap.size, 3, none⟩ = some v3 ∧ W.cell? ⟨w.heap.size, 4, none⟩ = some v4 ∧ W.cell? ⟨w.heap.size, 5, none⟩ = some v5 ∧ W.cell? ⟨w.heap.size, 6, none⟩ = some v6 ∧ TxB w v0 v1 v2 v3 v4 v5 v6 W
theorem TxB.ss {w W : World} {v0 v1 v2 v3 v4 v5 v6 : Value} (h : TxB w v0 v1 v2 v3 v4 v5 v6 W) : TxS w v0 v1 v2 v3 v4 v5 v6 W :=
  ⟨kcell h.p 0 _ rfl, kcell h.p 2 _ rfl, kcell h.p 3 _ rfl, kcell h.p 4 _ rfl, kcell h.p 5 _ rfl, kcell h.p 6 _ rfl, h⟩
theorem TxS.b {w W : World} {v0 v1 v2 v3 v4 v5 v6 : Value} (h : TxS w v0 v1 v2 v3 v4 v5 v6 W) : TxB w v0 v1 v2 v3 v4 v5 v6 W := h.2.2.2.2.2.2

set_option maxRecDepth 100000 in
set_option maxHeartbeats 8000000 in
theorem rec_Text (cs : List Value) (r : Rc) (w : World) (hA : RcAt w cs r) (hk : RcOK r) (hF : DatFew r.data) (hT : Tab w) (hZ : TabZ w) (hL : (textR r).length ≤ 1000000000000) :
    Calls Tryz.prog 16 #[.agg cs.toArray] w fun e w' => e = .returned (.string ⟨(textR r).toArray⟩) ∧ Below w.heap.size w w' := by
  obtain ⟨vo, vn, vu, vt, vr, rfl, a1, a2⟩ := hA
  obtain ⟨t, ht⟩ : ∃ t, r.ttl = t := ⟨_, rfl⟩
  have ht32 : t < 2 ^ 32 := by rw [← ht]; exact hk.2.1
  have hNum := fun W (hb : Below w.heap.size w W) => strconv_FormatUint10 t (by omega) W (hT.below hb)
  have hNm := fun W (hb : Below w.heap.size w W) => kn_NText vo r.owner _ rfl W (a1.below hb) hk.1
  have hTy := fun W (hb : Below w.heap.size w W) => rtype_Text r.data.ty (by have := hk.2.2.1.1; omega) (by have := hk.2.2.1.2; omega) W (hT.below hb)
  have hTx := fun W (hb : Below w.heap.size w W) => rdata_TextZ _ r.data W (a2.below hb) hF (hT.below hb) (hZ.below hb)
  have hR : textR r = textN r.owner ++ [32] ++ Lib.decDigits r.ttl ++ [32, 73, 78, 32] ++ typeTextM r.data.ty ++ [32] ++ textD r.data := rfl
  rw [ht] at hR ⊢
  generalize textR r = res at *
  generalize textN r.owner = x1 at *
  generalize Lib.decDigits t = x2 at *
  generalize typeTextM r.data.ty = x3 at *
  generalize textD r.data = x4 at *
  generalize r.data.ty = x at *
  have hz := hL
  rw [hR] at hz
  simp only [List.length_append] at hz
  have A1 := add_lists x1 [32] (x1 ++ [32]) rfl (by simp only [List.length_append]; omega)
  have A2 := add_lists (x1 ++ [32]) x2 (x1 ++ [32] ++ x2) rfl (by simp only [List.length_append]; omega)
  have A3 := add_lists (x1 ++ [32] ++ x2) [32, 73, 78, 32] (x1 ++ [32] ++ x2 ++ [32, 73, 78, 32]) rfl (by simp only [List.length_append]; omega)
  have A4 := add_lists (x1 ++ [32] ++ x2 ++ [32, 73, 78, 32]) x3 (x1 ++ [32] ++ x2 ++ [32, 73, 78, 32] ++ x3) rfl (by simp only [List.length_append]; omega)
  have A5 := add_lists (x1 ++ [32] ++ x2 ++ [32, 73, 78, 32] ++ x3) [32] (x1 ++ [32] ++ x2 ++ [32, 73, 78, 32] ++ x3 ++ [32]) rfl (by simp only [List.length_append]; omega)
  have A6 := add_lists (x1 ++ [32] ++ x2 ++ [32, 73, 78, 32] ++ x3 ++ [32]) x4 res hR hL
  generalize (⟨res.toArray⟩ : ByteArray) = b6 at *
  generalize (⟨(x1 ++ [32] ++ x2 ++ [32, 73, 78, 32] ++ x3 ++ [32]).toArray⟩ : ByteArray) = b5 at *
  generalize (⟨(x1 ++ [32] ++ x2 ++ [32, 73, 78, 32] ++ x3).toArray⟩ : ByteArray) = b4 at *
  generalize (⟨(x1 ++ [32] ++ x2 ++ [32, 73, 78, 32]).toArray⟩ : ByteArray) = b3 at *
  generalize (⟨(x1 ++ [32] ++ x2).toArray⟩ : ByteArray) = b2 at *
  generalize (⟨(x1 ++ [32]).toArray⟩ : ByteArray) = b1 at *
  generalize (⟨x1.toArray⟩ : ByteArray) = c1 at *
  generalize (⟨x2.toArray⟩ : ByteArray) = c2 at *
  generalize (⟨x3.toArray⟩ : ByteArray) = c3 at *
  generalize (⟨x4.toArray⟩ : ByteArray) = c4 at *
  have B1 : ∀ W, (Op.stringOp .add c1 (⟨#[32]⟩ : ByteArray)).run Tryz.prog W = .ok (.string b1) W := A1
  have B3 : ∀ W, (Op.stringOp .add b2 (⟨#[32, 73, 78, 32]⟩ : ByteArray)).run Tryz.prog W = .ok (.string b3) W := A3
  have B5 : ∀ W, (Op.stringOp .add b4 (⟨#[32]⟩ : ByteArray)).run Tryz.prog W = .ok (.string b5) W := A5
  clear A1 A3 A5 hz hL
  have hb0 : Below w.heap.size w (w.alloc (.cells #[vo, .int .u32 (t : Int), .int .i64 x, vn, vu, vt, vr] 31)) := (Below.refl w.heap.size w).alloc (Nat.le_refl _) _
  have hX0 : TxB w vo (.int .u32 (t : Int)) (.int .i64 x) vn vu vt vr (w.alloc (.cells #[vo, .int .u32 (t : Int), .int .i64 x, vn, vu, vt, vr] 31)) := ⟨knew _ _, hb0⟩
  have hn := hNum _ hb0
  have HX0 := Lib.hid hX0
  have HNm := Lib.hid (fun (W : World) (h : TxS w vo (.int .u32 (t : Int)) (.int .i64 x) vn vu vt vr W) => hNm W h.b.below)
  have HTy := Lib.hid (fun (W : World) (h : TxS w vo (.int .u32 (t : Int)) (.int .i64 x) vn vu vt vr W) => hTy W h.b.below)
  have HTx := Lib.hid (fun (W : World) (h : TxS w vo (.int .u32 (t : Int)) (.int .i64 x) vn vu vt vr W) => hTx W h.b.below)
  have KS := Lib.hid (fun (W W' : World) (h : TxS w vo (.int .u32 (t : Int)) (.int .i64 x) vn vu vt vr W) (hb : Below W.heap.size W W') => (h.b.keep hb).ss)
  have KD := Lib.hid (fun (W : World) (h : TxS w vo (.int .u32 (t : Int)) (.int .i64 x) vn vu vt vr W) => (h.b.keep (W' := W.drew) ⟨rfl, rfl, rfl, Nat.le_refl _, fun _ _ => rfl⟩).ss)
  have hw : IntKind.u64.wrap (t : Int) = (t : Int) := by
    have := ht32
    simp [IntKind.wrap, IntKind.bits, IntKind.signed]
    omega
  clear hNum hNm hTy hTx hR hb0 hX0 a1 a2 hk hF hT hZ ht
  go_enter Tryz.func16, Tryz.ntmps16
  go_wp2_with fail
  refine hn.mono ?_
  rintro e w1 ⟨rfl, hb1⟩
  have hS0 := (HX0.out.keep hb1).ss
  clear hn hb1 HX0
  unfold TxS at hS0 HNm HTy HTx KS KD
  go_wp2_with fail
  go_region_held3 (fun W => W.cell? ⟨w.heap.size, 0, none⟩ = some vo ∧ W.cell? ⟨w.heap.size, 2, none⟩ = some (.int .i64 x) ∧ W.cell? ⟨w.heap.size, 3, none⟩ = some vn ∧ W.cell? ⟨w.heap.size, 4, none⟩ = some vu ∧ W.cell? ⟨w.heap.size, 5, none⟩ = some vt ∧ W.cell? ⟨w.heap.size, 6, none⟩ = some vr ∧ TxB w vo (.int .u32 (t : Int)) (.int .i64 x) vn vu vt vr W)
    (first | with_reducible assumption | (with_reducible exact KD.out _ (by with_reducible assumption)))
    (first | ((with_reducible refine (HNm.out _ (by with_reducible assumption)).mono ?_); rintro e w2 ⟨rfl, hb2⟩; have hS2 := KS.out _ _ (by with_reducible assumption) hb2) | ((with_reducible refine (HTy.out _ (by with_reducible assumption)).mono ?_); rintro e w3 ⟨rfl, hb3⟩; have hS3 := KS.out _ _ (by with_reducible assumption) hb3) | ((with_reducible refine (HTx.out _ (by with_reducible assumption)).mono ?_); rintro e w4 ⟨rfl, hb4⟩; have hS4 := KS.out _ _ (by with_reducible assumption) hb4))
  all_goals
    rename_i hSe
    go_wp2_with fail
    go_ret
    exact ⟨rfl, hSe.2.2.2.2.2.2.below⟩
end Go.Proofs.YtfcdajldpnomfaaGreatDoor

/-
  law4.Of: what its answer is made of. (Written by wip/tools/genofs.py from XDatN2.)
-/
namespace Go.Proofs.YtfcdajldpnomfaaGreatDoor
open Go.RowKit Go.Shelf
set_option maxRecDepth 20000
set_option linter.unusedVariables false
set_option linter.unusedSimpArgs false

def OfPostS (w0 : World) (v : Value) (d : Dat) (w : World) (e : Ending) (w' : World) : Prop :=
  ∃ vn vn' vu vt vr, ∃ ss : List SlV, v = .agg #[.int .i64 d.ty, vn, vu, vt, vr] ∧ e = .returned (.agg #[.int .i64 d.ty, vn', vu, vt, vr]) ∧ OwnG 22 slEnc w' w.heap.size vn' ss ∧ ss.length = d.names.length ∧
    (∀ j (h1 : j < ss.length) (h2 : j < d.names.length), NmAt w0 (slEnc ss[j]) d.names[j]) ∧ SlAt w0 vu (d.nums.map u32V) ∧ NmAt w0 vt d.texts ∧ SlAt w0 vr (d.raw.map bv) ∧ Below w.heap.size w w'
set_option maxRecDepth 100000 in
set_option maxHeartbeats 8000000 in
theorem law4_OfS (w0 : World) (v : Value) (d : Dat) (w : World) (hA : DatAt w0 v d) (hwz : Below w0.heap.size w0 w) (hk : d.names.length ≤ 1048576) :
    Calls Tryz.prog 28 #[v] w (OfPostS w0 v d w) := by
  obtain ⟨vn, vu, vt, vr, rfl, ⟨vs, s1, sl, s2⟩, a2, a3, a4⟩ := hA
  obtain ⟨an, ca, rfl, _⟩ := id s1
  obtain ⟨bn, cb, rfl, _⟩ := id a2
  obtain ⟨tn, ct, rfl, _⟩ := id a3.1
  obtain ⟨rn, cr, rfl, _⟩ := id a4
  obtain ⟨ss, hss⟩ := sl_list vs (fun x hx => by obtain ⟨j, hj, rfl⟩ := List.mem_iff_getElem.1 hx; exact (s2 j hj).sl)
  subst hss
  have HA2 := Lib.hid a2; have HA3 := Lib.hid a3; have HA4 := Lib.hid a4
  have hNA : ∀ j (_ : j < (ss.map slEnc).length) (h2 : j < d.names.length), NmAt w0 (ss.map slEnc)[j] d.names[j] := fun j h1 _ => s2 j h1
  have HNA := Lib.hid hNA
  have HCA := Lib.hid (fun W (hb : Below w.heap.size w W) j (hj : j < (ss.map slEnc).length) => (s1.below hwz).cell hb j hj)
  clear s1 s2 a2 a3 a4 hNA hwz
  rw [List.length_map] at sl
  rw [List.length_map, List.length_map, List.length_map]
  obtain ⟨n1, e1⟩ : ∃ n, ss.length = n := ⟨_, rfl⟩
  obtain ⟨n2, e2⟩ : ∃ n, d.nums.length = n := ⟨_, rfl⟩
  obtain ⟨n3, e3⟩ : ∃ n, d.texts.length = n := ⟨_, rfl⟩
  obtain ⟨n4, e4⟩ : ∃ n, d.raw.length = n := ⟨_, rfl⟩
  rw [List.length_map, e2] at HA2
  rw [e3] at HA3
  rw [List.length_map, e4] at HA4
  rw [e1, e2, e3, e4]
  have hn1 : n1 ≤ 1048576 := by omega
  have E1 := Lib.hid e1; have SL := Lib.hid sl
  clear e1 e2 e3 e4 sl hk
  go_enter Tryz.func28, Tryz.ntmps28
  go_upto_block 0 with fail
  have hW : ∀ W0, (((w.alloc (.cells #[.int .i64 d.ty, .slice an n1 ca, .slice bn n2 cb, .slice tn n3 ct, .slice rn n4 cr] 29)).alloc (.cells #[.int .i64 0, .slice none 0 0, .slice none 0 0, .slice none 0 0, .slice none 0 0] 38)).alloc (.cells #[.int .i64 d.ty, .slice none 0 0, .slice bn n2 cb, .slice tn n3 ct, .slice rn n4 cr] 38)) = W0 → Below w.heap.size w W0 ∧ (∀ (j : Nat) (z : Value), [Value.int .i64 d.ty, .slice an n1 ca, .slice bn n2 cb, .slice tn n3 ct, .slice rn n4 cr][j]? = some z → W0.cell? ⟨w.heap.size, j, none⟩ = some z) ∧ W0.heap[w.heap.size + 1]? = some (.cells #[.int .i64 0, .slice none 0 0, .slice none 0 0, .slice none 0 0, .slice none 0 0] 38) ∧ W0.heap[w.heap.size + 1 + 1]? = some (.cells #[.int .i64 d.ty, .slice none 0 0, .slice bn n2 cb, .slice tn n3 ct, .slice rn n4 cr] 38) := by
    rintro W0 rfl
    have hz1 : (w.alloc (.cells #[.int .i64 d.ty, .slice an n1 ca, .slice bn n2 cb, .slice tn n3 ct, .slice rn n4 cr] 29)).heap.size = w.heap.size + 1 := by simp
    have hz2 : ((w.alloc (.cells #[.int .i64 d.ty, .slice an n1 ca, .slice bn n2 cb, .slice tn n3 ct, .slice rn n4 cr] 29)).alloc (.cells #[.int .i64 0, .slice none 0 0, .slice none 0 0, .slice none 0 0, .slice none 0 0] 38)).heap.size = w.heap.size + 1 + 1 := by simp
    have e0 := new_at w [.int .i64 d.ty, .slice an n1 ca, .slice bn n2 cb, .slice tn n3 ct, .slice rn n4 cr] 29
    have e1 := block_new (w.alloc (.cells #[.int .i64 d.ty, .slice an n1 ca, .slice bn n2 cb, .slice tn n3 ct, .slice rn n4 cr] 29)) (.cells #[.int .i64 0, .slice none 0 0, .slice none 0 0, .slice none 0 0, .slice none 0 0] 38)
    have e2 := block_new ((w.alloc (.cells #[.int .i64 d.ty, .slice an n1 ca, .slice bn n2 cb, .slice tn n3 ct, .slice rn n4 cr] 29)).alloc (.cells #[.int .i64 0, .slice none 0 0, .slice none 0 0, .slice none 0 0, .slice none 0 0] 38)) (.cells #[.int .i64 d.ty, .slice none 0 0, .slice bn n2 cb, .slice tn n3 ct, .slice rn n4 cr] 38)
    rw [hz1] at e1
    rw [hz2] at e2
    have b1 : Below (w.heap.size + 1) (w.alloc (.cells #[.int .i64 d.ty, .slice an n1 ca, .slice bn n2 cb, .slice tn n3 ct, .slice rn n4 cr] 29)) (((w.alloc (.cells #[.int .i64 d.ty, .slice an n1 ca, .slice bn n2 cb, .slice tn n3 ct, .slice rn n4 cr] 29)).alloc (.cells #[.int .i64 0, .slice none 0 0, .slice none 0 0, .slice none 0 0, .slice none 0 0] 38)).alloc (.cells #[.int .i64 d.ty, .slice none 0 0, .slice bn n2 cb, .slice tn n3 ct, .slice rn n4 cr] 38)) := ((Below.refl _ _).alloc (by simp) _).alloc (by simp) _
    have b2 : Below (w.heap.size + 1 + 1) ((w.alloc (.cells #[.int .i64 d.ty, .slice an n1 ca, .slice bn n2 cb, .slice tn n3 ct, .slice rn n4 cr] 29)).alloc (.cells #[.int .i64 0, .slice none 0 0, .slice none 0 0, .slice none 0 0, .slice none 0 0] 38)) (((w.alloc (.cells #[.int .i64 d.ty, .slice an n1 ca, .slice bn n2 cb, .slice tn n3 ct, .slice rn n4 cr] 29)).alloc (.cells #[.int .i64 0, .slice none 0 0, .slice none 0 0, .slice none 0 0, .slice none 0 0] 38)).alloc (.cells #[.int .i64 d.ty, .slice none 0 0, .slice bn n2 cb, .slice tn n3 ct, .slice rn n4 cr] 38)) := (Below.refl _ _).alloc (by simp) _
    refine ⟨(((Below.refl _ w).alloc (Nat.le_refl _) _).alloc (by simp) _).alloc (by simp; omega) _, fun j z h => (b1.cell (p := ⟨w.heap.size, j, none⟩) (Nat.lt_succ_self _)).trans (e0 j z h), (b2.block _ (Nat.lt_succ_self _)).trans e1, e2⟩
  generalize hW0 : (((w.alloc (.cells #[.int .i64 d.ty, .slice an n1 ca, .slice bn n2 cb, .slice tn n3 ct, .slice rn n4 cr] 29)).alloc (.cells #[.int .i64 0, .slice none 0 0, .slice none 0 0, .slice none 0 0, .slice none 0 0] 38)).alloc (.cells #[.int .i64 d.ty, .slice none 0 0, .slice bn n2 cb, .slice tn n3 ct, .slice rn n4 cr] 38)) = W0
  obtain ⟨k1, k2, k3, k4⟩ := hW W0 hW0
  clear hW hW0
  have K1 := Lib.hid k1; have K2 := Lib.hid k2; have K3 := Lib.hid k3; have K4 := Lib.hid k4
  clear k1 k2 k3 k4
  go_wp2_with fail
  go_loopw [4] (fun i wr => ∃ (k : Nat) (a : Option Addr) (c : Nat), i = .int .i64 k ∧ k ≤ n1 ∧ Hid (OwnG 22 slEnc wr (w.heap.size + 3) (.slice a k c) (ss.take k)) ∧ Hid (wr.heap[w.heap.size + 1 + 1]? = some (.cells #[.int .i64 d.ty, .slice a k c, .slice bn n2 cb, .slice tn n3 ct, .slice rn n4 cr] 38)) ∧ Hid (Below (w.heap.size + 2) W0 wr)) (fun i _ => n1 - (intOf i).toNat)
  case atStart => exact ⟨0, none, 0, rfl, Nat.zero_le _, Lib.hid (OwnG.nil _ _), K4, Lib.hid (Below.refl _ _)⟩
  case round =>
    obtain ⟨k, a, c, rfl, hkn, HOW, HBX, HB⟩ := hrel
    have hx1 := (HB.out.cell (p := ⟨w.heap.size, 1, none⟩) (by show w.heap.size < _; omega)).trans (K2.out 1 _ rfl)
    have hx3 := cell_of_block HBX.out 1 _ rfl
    have hB0 := K1.out.trans (HB.out.mono (by omega))
    have hsz := block_lt HBX.out
    by_cases hlt : k < n1
    · have hks : k < ss.length := by rw [E1.out]; exact hlt
      obtain ⟨g, off, rfl, hg, hc⟩ := HCA.out wr hB0 k (by rw [List.length_map]; exact hks)
      rw [List.getElem_map] at hc
      have HTK := Lib.hid (show ss.take (k + 1) = ss.take k ++ [ss[k]] from List.take_succ_eq_append_getElem hks)
      obtain ⟨⟨pa, pn, pc⟩, hp⟩ : ∃ s, ss[k] = s := ⟨_, rfl⟩
      rw [hp] at hc HTK
      unfold slEnc at hc
      simp only at hc
      have hkn1 : (0 : Int) ≤ (k : Int) := by omega
      have hkn2 : (k : Int) < (n1 : Int) := by omega
      have HH := Lib.hid (And.intro hg (And.intro hsz hlt))
      obtain ⟨ht0, i0, zz, hi, hz0, hz1, hz2, hzc⟩ := elemStrs
      have hown2 : wr.ownsRow (w.heap.size + 3) 22 1 (.slice a k c) k ((ss.take k).map slEnc) := by
        have h := HOW.out
        unfold OwnG at h
        rw [List.length_take, Nat.min_eq_left (by omega)] at h
        exact h
      have HOB := Lib.hid HOW.out.base_le
      have hAw : ∀ W, Below wr.heap.size wr W → W.cell? ⟨w.heap.size, 1, none⟩ = some (.slice (some ⟨g, off, none⟩) n1 ca) ∧ W.cell? ⟨g, off + k, none⟩ = some (.slice pa pn pc) ∧ W.cell? ⟨w.heap.size + 1 + 1, 1, none⟩ = some (.slice a k c) := fun W hb =>
        ⟨(hb.cell (p := ⟨w.heap.size, 1, none⟩) (by show w.heap.size < _; omega)).trans hx1, (hb.cell (p := ⟨g, off + k, none⟩) (by show g < _; omega)).trans hc, (hb.cell (p := ⟨w.heap.size + 1 + 1, 1, none⟩) hsz).trans hx3⟩
      obtain ⟨da1, da2, da3⟩ := hAw wr.drew (below_drew1 (Below.refl _ _))
      obtain ⟨db1, db2, db3⟩ := hAw (wr.drew.alloc (.cells #[.slice pa pn pc] 22)) ((below_drew1 (Below.refl _ _)).alloc (Nat.le_refl _) _)
      have HBY : Hid ((wr.drew.alloc (.cells #[.slice pa pn pc] 22)).heap[w.heap.size + 1 + 1]? = some (.cells #[.int .i64 d.ty, .slice a k c, .slice bn n2 cb, .slice tn n3 ct, .slice rn n4 cr] 38)) := Lib.hid ((((below_drew1 (Below.refl wr.heap.size wr)).alloc (Nat.le_refl _) _).block _ hsz).trans HBX.out)
      have HOY : Hid (OwnG 22 slEnc (wr.drew.alloc (.cells #[.slice pa pn pc] 22)) (w.heap.size + 3) (.slice a k c) (ss.take k)) := Lib.hid (HOW.out.drew.alloc _)
      have HH := Lib.hid (And.intro hg (And.intro hsz hlt))
      clear hp hks hB0 hg hlt hAw
      go_wp2_with fail
      go_region_law (first
        | (refine step_append_lies _ (by rfl) _ _ _ (by rfl) (w.heap.size + 3) 22 i0 zz 1 24 ht0 hi hz0 hz1 hz2 hzc (by omega) (.slice a k c) k ((ss.take k).map slEnc) (by rfl) ((hown2.drew).alloc _)
            ⟨wr.heap.size, 0, none⟩ 1 1 [.slice pa pn pc] (by rfl) (by rfl) (World.news_of_block (cs := #[.slice pa pn pc]) (t := 22) (fr := (0, 0)) (heap_alloc_new wr _)) (by simp [Value.oneCell'])
            (by omega) (by unfold maxLen; omega) (by omega) (by simp; omega) (wr.heap.size + 1) (by simp) ?_; intro gg cap w6 hown6 hgrow hat hlt6; have hbx6 := Lib.hid ((hgrow.block (w.heap.size + 1 + 1) (block_lt HBY.out) (HOY.out.ne_block HBY.out (by decide))).trans HBY.out); have hc6 := cell_of_block hbx6.out 1 _ rfl; have hf6 := frozen_block hbx6.out 1))
      all_goals
        have HO6 := Lib.hid (show OwnG 22 slEnc (w6.setCell ⟨w.heap.size + 1 + 1, 1, none⟩ (.slice (some ⟨gg, 0, none⟩) (k + 1) cap)) (w.heap.size + 3) (.slice (some ⟨gg, 0, none⟩) (k + 1) cap) (ss.take (k + 1)) from by
          refine OwnG.keptB (cs := #[.int .i64 d.ty, .slice a k c, .slice bn n2 cb, .slice tn n3 ct, .slice rn n4 cr]) (t := 38) ?_ hbx6.out (by decide) 1 _
          unfold OwnG
          rw [HTK.out, List.length_append, List.map_append, List.length_take, Nat.min_eq_left (by have := HH.out.2.2; have := E1.out; omega)]
          exact hown6)
        have HX6 := Lib.hid (show (w6.setCell ⟨w.heap.size + 1 + 1, 1, none⟩ (.slice (some ⟨gg, 0, none⟩) (k + 1) cap)).heap[w.heap.size + 1 + 1]? = some (.cells #[.int .i64 d.ty, .slice (some ⟨gg, 0, none⟩) (k + 1) cap, .slice bn n2 cb, .slice tn n3 ct, .slice rn n4 cr] 38) from block_set hbx6.out 1 _)
        have HB6 := Lib.hid (show Below (w.heap.size + 2) W0 (w6.setCell ⟨w.heap.size + 1 + 1, 1, none⟩ (.slice (some ⟨gg, 0, none⟩) (k + 1) cap)) from
          HB.out.trans ((((below_drew1 (Below.refl (w.heap.size + 2) wr)).alloc (by show w.heap.size + 2 ≤ wr.heap.size; omega) _).grown hgrow (by simp; omega) (fun x e => by have := HOB.out x e; omega)).setCell (p := ⟨w.heap.size + 1 + 1, 1, none⟩) (by show w.heap.size + 2 ≤ w.heap.size + 1 + 1; omega) _))
        have hltk := HH.out.2.2
        clear hown6 hgrow hat hlt6 hc6 hf6 hown2 da1 da2 da3 db1 db2 db3 hx1 hx3 hc
        go_wp2_with fail
        go_roundw
        case rel => exact ⟨k + 1, some ⟨gg, 0, none⟩, cap, by go_num, by omega, HO6, HX6, HB6⟩
        case measure => simp [intOf]; omega
    · obtain rfl : k = n1 := by omega
      have hkn3 : ¬ (k : Int) < (k : Int) := by omega
      have hR := (HB.out.block (w.heap.size + 1) (by omega)).trans K3.out
      obtain ⟨r0, r1, r2, r3, r4⟩ := cells5' HBX.out
      obtain ⟨f0, f1, f2, f3, f4⟩ := frozen5' hR
      obtain ⟨s0, s1, s2, s3, s4⟩ := cells5' hR
      have HR := Lib.hid hR
      have HB0 := Lib.hid hB0
      obtain ⟨q0, q1, q2, q3, q4⟩ := cells5' (set5_block' hR (.int .i64 d.ty) (.slice a k c) (.slice bn n2 cb) (.slice tn n3 ct) (.slice rn n4 cr))
      unfold set5 at q0 q1 q2 q3 q4
      clear hR hB0 hx3 hsz
      go_wp2_with fail
      refine bodyPost_ret (v := .agg #[.int .i64 d.ty, .slice a k c, .slice bn n2 cb, .slice tn n3 ct, .slice rn n4 cr]) (by simp [results, Tryz.results28, go_sem, q0, q1, q2, q3, q4]) rfl ?_
      have ho := ownG_set5 HR.out (.int .i64 d.ty) (.slice a k c) (.slice bn n2 cb) (.slice tn n3 ct) (.slice rn n4 cr) (by decide) HOW.out
      have ht : ss.take k = ss := List.take_of_length_le (by rw [E1.out]; exact Nat.le_refl _)
      rw [ht] at ho
      exact ⟨_, _, _, _, _, ss, rfl, rfl, ho.weaken (by omega), SL.out, fun j h1 h2 => (by have h := HNA.out j (by rw [List.length_map]; exact h1) h2; rw [List.getElem_map] at h; exact h), HA2.out, HA3.out, HA4.out, HB0.out.trans ((set5_below (Below.refl (w.heap.size + 1) wr) _ _ _ _ _).mono (by omega))⟩
end Go.Proofs.YtfcdajldpnomfaaGreatDoor

/-
  law5.Of: a record as the document's.
-/
namespace Go.Proofs.YtfcdajldpnomfaaGreatDoor
open Go.RowKit Go.Shelf
set_option maxRecDepth 20000
set_option linter.unusedVariables false
set_option linter.unusedSimpArgs false

/-- A record as the document's: its names' row is its own, all else lies where it lay at w0. -/
def OfR (w0 W : World) (base : Nat) (cs : List Value) (r : Rc) : Prop :=
  ∃ vo vn vu vt vr, ∃ ss : List SlV, cs = [vo, .int .u32 (r.ttl : Int), .int .i64 r.data.ty, vn, vu, vt, vr] ∧ NmAt w0 vo r.owner ∧ OwnG 22 slEnc W base vn ss ∧ ss.length = r.data.names.length ∧
    (∀ j (h1 : j < ss.length) (h2 : j < r.data.names.length), NmAt w0 (slEnc ss[j]) r.data.names[j]) ∧ SlAt w0 vu (r.data.nums.map u32V) ∧ NmAt w0 vt r.data.texts ∧ SlAt w0 vr (r.data.raw.map bv)
theorem OfR.rcAt {w0 W : World} {base : Nat} {cs : List Value} {r : Rc} (h : OfR w0 W base cs r) (hb : Below w0.heap.size w0 W) : RcAt W cs r := by
  obtain ⟨vo, vn, vu, vt, vr, ss, e, h1, h2, h3, h4, h5, h6, h7⟩ := h
  exact ⟨vo, vn, vu, vt, vr, e, h1.below hb, _, _, _, _, rfl, ⟨ss.map slEnc, SlAt.of_own h2, by rw [List.length_map]; exact h3, fun j hj => by rw [List.getElem_map]; exact (h4 j (by simpa using hj) (by rw [List.length_map] at hj; omega)).below hb⟩, h5.below hb, h6.below hb, h7.below hb⟩
theorem OfR.below {w0 W W' : World} {base : Nat} {cs : List Value} {r : Rc} (h : OfR w0 W base cs r) (hb : Below W.heap.size W W') : OfR w0 W' base cs r := by
  obtain ⟨vo, vn, vu, vt, vr, ss, e, h1, h2, h3⟩ := h
  exact ⟨vo, vn, vu, vt, vr, ss, e, h1, h2.below hb, h3⟩
theorem OfR.weaken {w0 W : World} {base b2 : Nat} {cs : List Value} {r : Rc} (h : OfR w0 W base cs r) (hb : b2 ≤ base) : OfR w0 W b2 cs r := by
  obtain ⟨vo, vn, vu, vt, vr, ss, e, h1, h2, h3⟩ := h
  exact ⟨vo, vn, vu, vt, vr, ss, e, h1, h2.weaken hb, h3⟩
theorem OfR.keptB {w0 W : World} {base : Nat} {cs : List Value} {r : Rc} (h : OfR w0 W base cs r) {B : Nat} {xs : Array Value} {T : TypeId} (hB : W.heap[B]? = some (.cells xs T)) (hT : T ≠ 22) (j : Nat) (u : Value) : OfR w0 (W.setCell ⟨B, j, none⟩ u) base cs r := by
  obtain ⟨vo, vn, vu, vt, vr, ss, e, h1, h2, h3⟩ := h
  exact ⟨vo, vn, vu, vt, vr, ss, e, h1, h2.keptB hB hT j u, h3⟩
theorem OfR.grown {w0 W W' : World} {base base' k : Nat} {T : TypeId} {cs : List Value} {r : Rc} {v' : Value} {yss : List (List Value)} (h : OfR w0 W base cs r) (h' : OwnC k T W base' v' yss) (hT : 22 ≠ T) (hg : W.grownBy W' v'.ownBlock) : OfR w0 W' base cs r := by
  obtain ⟨vo, vn, vu, vt, vr, ss, e, h1, h2, h3⟩ := h
  exact ⟨vo, vn, vu, vt, vr, ss, e, h1, h2.kept_c h' hT hg, h3⟩
theorem results_ref {fn : Func} {t : Tmp} (h : fn.results = #[.cell t 40]) (tmps : Array Value) (W : World) {a : Nat} {x0 x1 x2 x3 x4 x5 x6 : Value}
    (ht : tmps.getD t undef = .pointer (some ⟨a, 0, none⟩)) (hb : W.heap[a]? = some (.cells #[x0, x1, x2, x3, x4, x5, x6] 40)) : (results fn tmps).run Tryz.prog W = .ok (.agg #[x0, x1, x2, x3, x4, x5, x6]) W := by
  have ht' : tmps[t]?.getD undef = .pointer (some ⟨a, 0, none⟩) := by rw [← ht]; simp
  have hu : ∀ w, Sem.run Tryz.prog (underlying 40) w = .ok _ w := run_underlying Tryz.underlying40
  have y0 := kcell hb 0 _ rfl; have y1 := kcell hb 1 _ rfl; have y2 := kcell hb 2 _ rfl; have y3 := kcell hb 3 _ rfl; have y4 := kcell hb 4 _ rfl; have y5 := kcell hb 5 _ rfl; have y6 := kcell hb 6 _ rfl
  simp [results, h, ht', loadVar, asAddr, go_sem, hu, y0, y1, y2, y3, y4, y5, y6, isAgg]

/-- The two boxes. -/
structure OfB (w : World) (v0 v1 v2 v3 v4 v5 v6 : Value) (W : World) : Prop where
  p : W.heap[w.heap.size]? = some (.cells #[v0, v1, v2, v3, v4, v5, v6] 31)
  q : ∃ cs, W.heap[w.heap.size + 1]? = some (.cells cs 40) ∧ cs.size = 7
  below : Below w.heap.size w W
theorem OfB.keep {w W W' : World} {v0 v1 v2 v3 v4 v5 v6 : Value} (h : OfB w v0 v1 v2 v3 v4 v5 v6 W) (hb : Below W.heap.size W W') : OfB w v0 v1 v2 v3 v4 v5 v6 W' := by
  obtain ⟨cs, hq, hs⟩ := h.q
  exact ⟨(hb.block _ (kblock_lt h.p)).trans h.p, ⟨cs, (hb.block _ (kblock_lt hq)).trans hq, hs⟩, h.below.trans (hb.mono h.below.size)⟩
theorem OfB.put {w W : World} {v0 v1 v2 v3 v4 v5 v6 : Value} (h : OfB w v0 v1 v2 v3 v4 v5 v6 W) (j : Nat) (u : Value) : OfB w v0 v1 v2 v3 v4 v5 v6 (W.setCell ⟨w.heap.size + 1, j, none⟩ u) := by
  obtain ⟨cs, hq, hs⟩ := h.q
  exact ⟨((grownBy_set W _ j u).block _ (kblock_lt h.p) (by simp)).trans h.p, ⟨_, block_set hq j u, by simp [hs]⟩, h.below.setCell (p := ⟨w.heap.size + 1, j, none⟩) (by simp) u⟩
def OfSS (w : World) (v0 v1 v2 v3 v4 v5 v6 : Value) (W : World) : Prop :=
  W.cell? ⟨w.heap.size, 0, none⟩ = some v0 ∧ W.cell? ⟨w.heap.size, 1, none⟩ = some v1 ∧ W.cell? ⟨w.heap.size, 2, none⟩ = some v2 ∧ W.cell? ⟨w.heap.size, 3, none⟩ = some v3 ∧ W.cell? ⟨w.heap.size, 4, none⟩ = some v4 ∧ W.cell? ⟨w.heap.size, 5, none⟩ = some v5 ∧ W.cell? ⟨w.heap.size, 6, none⟩ = some v6 ∧ OfB w v0 v1 v2 v3 v4 v5 v6 W
theorem OfB.ss {w W : World} {v0 v1 v2 v3 v4 v5 v6 : Value} (h : OfB w v0 v1 v2 v3 v4 v5 v6 W) : OfSS w v0 v1 v2 v3 v4 v5 v6 W :=
  ⟨kcell h.p 0 _ rfl, kcell h.p 1 _ rfl, kcell h.p 2 _ rfl, kcell h.p 3 _ rfl, kcell h.p 4 _ rfl, kcell h.p 5 _ rfl, kcell h.p 6 _ rfl, h⟩
theorem OfSS.b {w W : World} {v0 v1 v2 v3 v4 v5 v6 : Value} (h : OfSS w v0 v1 v2 v3 v4 v5 v6 W) : OfB w v0 v1 v2 v3 v4 v5 v6 W := h.2.2.2.2.2.2.2

def Of5Post (w0 w : World) (r : Rc) (e : Ending) (w' : World) : Prop := ∃ cs, e = .returned (.agg cs.toArray) ∧ OfR w0 w' w.heap.size cs r ∧ Below w.heap.size w w'
set_option maxRecDepth 100000 in
set_option maxHeartbeats 16000000 in
theorem law5_Of (w0 : World) (cs : List Value) (r : Rc) (w : World) (hA : RcAt w0 cs r) (hwz : Below w0.heap.size w0 w) (hk : r.data.names.length ≤ 1048576) :
    Calls Tryz.prog 11 #[.agg cs.toArray] w (Of5Post w0 w r) := by
  have hsh := hA.shape
  obtain ⟨vo, vn, vu, vt, vr, rfl, a1, a2⟩ := hA
  have hOf := fun W (hb : Below w.heap.size w W) => law4_OfS w0 _ r.data W a2 (hwz.trans (hb.mono hwz.size)) hk
  have HA1 := Lib.hid a1
  obtain ⟨⟨p0, q0, k0⟩, ⟨p3, q3, k3⟩, ⟨p4, q4, k4⟩, ⟨p5, q5, k5⟩, ⟨p6, q6, k6⟩, e0⟩ := hsh
  simp only [List.cons.injEq, and_true, true_and] at e0
  obtain ⟨rfl, rfl, rfl, rfl, rfl⟩ := e0
  have hX0 : OfB w (.slice p0 q0 k0) (.int .u32 (r.ttl : Int)) (.int .i64 r.data.ty) (.slice p3 q3 k3) (.slice p4 q4 k4) (.slice p5 q5 k5) (.slice p6 q6 k6) ((w.alloc (.cells #[.slice p0 q0 k0, .int .u32 (r.ttl : Int), .int .i64 r.data.ty, .slice p3 q3 k3, .slice p4 q4 k4, .slice p5 q5 k5, .slice p6 q6 k6] 31)).alloc (.cells #[.slice none 0 0, .int .u32 0, .int .i64 0, .slice none 0 0, .slice none 0 0, .slice none 0 0, .slice none 0 0] 40)) := by
    refine ⟨(Below.heap_alloc _ _ _ (by simp)).trans (knew w _), ⟨#[.slice none 0 0, .int .u32 0, .int .i64 0, .slice none 0 0, .slice none 0 0, .slice none 0 0, .slice none 0 0], ?_, rfl⟩, ((Below.refl _ w).alloc (Nat.le_refl _) _).alloc (by simp) _⟩
    have := knew (w.alloc (.cells #[.slice p0 q0 k0, .int .u32 (r.ttl : Int), .int .i64 r.data.ty, .slice p3 q3 k3, .slice p4 q4 k4, .slice p5 q5 k5, .slice p6 q6 k6] 31)) (.cells #[.slice none 0 0, .int .u32 0, .int .i64 0, .slice none 0 0, .slice none 0 0, .slice none 0 0, .slice none 0 0] 40)
    rw [World.size_alloc] at this
    exact this
  have hS0 := hX0.ss
  have HOF := Lib.hid (fun (W : World) (h : OfSS w (.slice p0 q0 k0) (.int .u32 (r.ttl : Int)) (.int .i64 r.data.ty) (.slice p3 q3 k3) (.slice p4 q4 k4) (.slice p5 q5 k5) (.slice p6 q6 k6) W) => hOf W h.b.below)
  have KS := Lib.hid (fun (W W' : World) (h : OfSS w (.slice p0 q0 k0) (.int .u32 (r.ttl : Int)) (.int .i64 r.data.ty) (.slice p3 q3 k3) (.slice p4 q4 k4) (.slice p5 q5 k5) (.slice p6 q6 k6) W) (hb : Below W.heap.size W W') => (h.b.keep hb).ss)
  have KD := Lib.hid (fun (W : World) (h : OfSS w (.slice p0 q0 k0) (.int .u32 (r.ttl : Int)) (.int .i64 r.data.ty) (.slice p3 q3 k3) (.slice p4 q4 k4) (.slice p5 q5 k5) (.slice p6 q6 k6) W) => (h.b.keep (W' := W.drew) ⟨rfl, rfl, rfl, Nat.le_refl _, fun _ _ => rfl⟩).ss)
  have KP := Lib.hid (fun (W : World) (y0 y1 y2 y3 y4 y5 y6 : Value) (h : OfSS w (.slice p0 q0 k0) (.int .u32 (r.ttl : Int)) (.int .i64 r.data.ty) (.slice p3 q3 k3) (.slice p4 q4 k4) (.slice p5 q5 k5) (.slice p6 q6 k6) W) => (((((((h.b.put 0 y0).put 1 y1).put 2 y2).put 3 y3).put 4 y4).put 5 y5).put 6 y6).ss)
  unfold OfSS at hS0 HOF KS KD KP
  have HS0 := Lib.hid hS0
  clear hOf hX0 a1 a2 hk hwz hS0
  go_enter Tryz.func11, Tryz.ntmps11
  go_wp2_with fail
  generalize ((w.alloc (.cells #[.slice p0 q0 k0, .int .u32 (r.ttl : Int), .int .i64 r.data.ty, .slice p3 q3 k3, .slice p4 q4 k4, .slice p5 q5 k5, .slice p6 q6 k6] 31)).alloc (.cells #[.slice none 0 0, .int .u32 0, .int .i64 0, .slice none 0 0, .slice none 0 0, .slice none 0 0, .slice none 0 0] 40)) = W0 at *
  have hS0 := HS0.out
  go_region_held3 (fun W => W.cell? ⟨w.heap.size, 0, none⟩ = some (.slice p0 q0 k0) ∧ W.cell? ⟨w.heap.size, 1, none⟩ = some (.int .u32 (r.ttl : Int)) ∧ W.cell? ⟨w.heap.size, 2, none⟩ = some (.int .i64 r.data.ty) ∧ W.cell? ⟨w.heap.size, 3, none⟩ = some (.slice p3 q3 k3) ∧ W.cell? ⟨w.heap.size, 4, none⟩ = some (.slice p4 q4 k4) ∧ W.cell? ⟨w.heap.size, 5, none⟩ = some (.slice p5 q5 k5) ∧ W.cell? ⟨w.heap.size, 6, none⟩ = some (.slice p6 q6 k6) ∧ OfB w (.slice p0 q0 k0) (.int .u32 (r.ttl : Int)) (.int .i64 r.data.ty) (.slice p3 q3 k3) (.slice p4 q4 k4) (.slice p5 q5 k5) (.slice p6 q6 k6) W)
    (first | with_reducible assumption | (with_reducible exact KD.out _ (by with_reducible assumption)) | (with_reducible exact KP.out _ _ _ _ _ _ _ _ (by with_reducible assumption)))
    (first | ((with_reducible refine (HOF.out _ (by with_reducible assumption)).mono ?_); rintro e w7 ⟨_, vn', _, _, _, ss, e5, rfl, h1, h2, h3, h4, h5, h6, hb7⟩; injection e5 with e5; injection e5 with e5; simp only [List.cons.injEq, and_true, true_and] at e5; obtain ⟨rfl, rfl, rfl, rfl⟩ := e5; obtain ⟨a9, c9, rfl⟩ := h1.shape; have hS2 := KS.out _ _ (by with_reducible assumption) hb7; have hq7 := hS2.2.2.2.2.2.2.2.q; obtain ⟨cs7, hq7, hs7⟩ := hq7; obtain ⟨y0, y1, y2, y3, y4, y5, y6, rfl⟩ := arr7 hs7; have fz0 := kfrozen hq7 0; have cl0 := kcell hq7 0 _ rfl; have fz1 := kfrozen hq7 1; have cl1 := kcell hq7 1 _ rfl; have fz2 := kfrozen hq7 2; have cl2 := kcell hq7 2 _ rfl; have fz3 := kfrozen hq7 3; have cl3 := kcell hq7 3 _ rfl; have fz4 := kfrozen hq7 4; have cl4 := kcell hq7 4 _ rfl; have fz5 := kfrozen hq7 5; have cl5 := kcell hq7 5 _ rfl; have fz6 := kfrozen hq7 6; have cl6 := kcell hq7 6 _ rfl; have HH := Lib.hid (And.intro h1 (And.intro h2 (And.intro h3 (And.intro h4 (And.intro h5 h6))))); clear h1 h2 h3 h4 h5 h6))
  all_goals
    go_wp2_with fail
    have HS7 := hS2.2.2.2.2.2.2.2
    have hsz : w.heap.size ≤ W0.heap.size := hS0.2.2.2.2.2.2.2.below.size
    obtain ⟨h1, h2, h3, h4, h5, h6⟩ := HH.out
    have hof : OfR w0 w7 w.heap.size [.slice p0 q0 k0, .int .u32 (r.ttl : Int), .int .i64 r.data.ty, .slice a9 ss.length c9, .slice p4 q4 k4, .slice p5 q5 k5, .slice p6 q6 k6] r := ⟨_, _, _, _, _, ss, rfl, HA1.out, h1.weaken hsz, h2, h3, h4, h5, h6⟩
    have hb_0 := block_set hq7 0 (.slice p0 q0 k0)
    have ho_0 := hof.keptB hq7 (by decide) 0 (.slice p0 q0 k0)
    have hb_1 := block_set hb_0 1 (.int .u32 (r.ttl : Int))
    have ho_1 := ho_0.keptB hb_0 (by decide) 1 (.int .u32 (r.ttl : Int))
    have hb_2 := block_set hb_1 2 (.int .i64 r.data.ty)
    have ho_2 := ho_1.keptB hb_1 (by decide) 2 (.int .i64 r.data.ty)
    have hb_3 := block_set hb_2 3 (.slice a9 ss.length c9)
    have ho_3 := ho_2.keptB hb_2 (by decide) 3 (.slice a9 ss.length c9)
    have hb_4 := block_set hb_3 4 (.slice p4 q4 k4)
    have ho_4 := ho_3.keptB hb_3 (by decide) 4 (.slice p4 q4 k4)
    have hb_5 := block_set hb_4 5 (.slice p5 q5 k5)
    have ho_5 := ho_4.keptB hb_4 (by decide) 5 (.slice p5 q5 k5)
    have hb_6 := block_set hb_5 6 (.slice p6 q6 k6)
    have ho_6 := ho_5.keptB hb_5 (by decide) 6 (.slice p6 q6 k6)
    have hsN := (((((((HS7.put 0 (.slice p0 q0 k0)).put 1 (.int .u32 (r.ttl : Int))).put 2 (.int .i64 r.data.ty)).put 3 (.slice a9 ss.length c9)).put 4 (.slice p4 q4 k4)).put 5 (.slice p5 q5 k5)).put 6 (.slice p6 q6 k6))
    have hqN : (_ : World).heap[w.heap.size + 1]? = some (.cells #[.slice p0 q0 k0, .int .u32 (r.ttl : Int), .int .i64 r.data.ty, .slice a9 ss.length c9, .slice p4 q4 k4, .slice p5 q5 k5, .slice p6 q6 k6] 40) := hb_6
    refine bodyPost_ret (results_ref rfl _ _ rfl hqN) rfl ?_
    exact ⟨[.slice p0 q0 k0, .int .u32 (r.ttl : Int), .int .i64 r.data.ty, .slice a9 ss.length c9, .slice p4 q4 k4, .slice p5 q5 k5, .slice p6 q6 k6], rfl, ho_6, hsN.below⟩
end Go.Proofs.YtfcdajldpnomfaaGreatDoor

/-
  law5.Few: are records few, and short.
-/
namespace Go.Proofs.YtfcdajldpnomfaaGreatDoor
open Go.RowKit Go.Shelf
set_option maxRecDepth 20000
set_option linter.unusedVariables false
set_option linter.unusedSimpArgs false

/-- A record among a law's arguments. -/
def RcArg (W : World) (cs : List Value) (r : Rc) : Prop :=
  ∃ vo vn vu vt vr, cs = [vo, .int .u32 (r.ttl : Int), .int .i64 r.data.ty, vn, vu, vt, vr] ∧ NmArg W vo r.owner ∧ DatArg W (.agg #[.int .i64 r.data.ty, vn, vu, vt, vr]) r.data ∧ r.ttl < 2 ^ 32
theorem RcArg.rcAt {W : World} {cs : List Value} {r : Rc} (h : RcArg W cs r) : RcAt W cs r := by
  obtain ⟨vo, vn, vu, vt, vr, e, h1, h2, _⟩ := h
  exact ⟨vo, vn, vu, vt, vr, e, h1.1, h2.1⟩
def fewR (r : Rc) : Bool := fewN r.owner && fewD r.data
theorem RcArg.ok {W : World} {cs : List Value} {r : Rc} (h : RcArg W cs r) (hf : fewR r = true) : RcOK r := by
  obtain ⟨vo, vn, vu, vt, vr, e, h1, h2, h3⟩ := h
  simp only [fewR, Bool.and_eq_true] at hf
  exact ⟨fewN_ok hf.1, h3, fewD_ok h2 hf.2⟩
def fewRs (l : List Rc) : Bool := decide (l.length ≤ 60) && l.all fewR
theorem all_step {l : List Rc} {k : Nat} (h : k < l.length) : (l.drop k).all fewR = (fewR l[k] && (l.drop (k + 1)).all fewR) := by
  rw [List.drop_eq_getElem_cons h]; rfl

set_option maxRecDepth 100000 in
set_option maxHeartbeats 8000000 in
theorem law5_Few (v : Value) (css : List (List Value)) (l : List Rc) (w0 w : World) (hA : SlK w0 v css) (hR : css.length = l.length ∧ ∀ i (h1 : i < css.length) (h2 : i < l.length), RcArg w0 css[i] l[i]) (hwz : Below w0.heap.size w0 w) :
    Calls Tryz.prog 9 #[v] w fun e w' => e = .returned (.bool (fewRs l)) ∧ Below w.heap.size w w' := by
  obtain ⟨a, c, rfl, hc1, -, -⟩ := id hA
  obtain ⟨n, hn⟩ : ∃ n, css.length = n := ⟨_, rfl⟩
  rw [hn] at hA hc1 ⊢
  have HA := Lib.hid hA; have HR := Lib.hid hR; have HWZ := Lib.hid hwz; have HLN := Lib.hid hn
  have HLL := Lib.hid (show l.length = n by rw [← hn]; exact hR.1.symm)
  obtain ⟨res, hres⟩ : ∃ r, fewRs l = r := ⟨_, rfl⟩
  rw [hres]
  have HRES := Lib.hid hres
  clear hA hR hwz hn hres
  by_cases h60 : 60 < n
  · have h60z : (60 : Int) < (n : Int) := by omega
    have HE : Hid (res = false) := Lib.hid (by
      rw [← HRES.out]; unfold fewRs
      rw [decide_eq_false (by have := HLL.out; omega)]; rfl)
    go_enter Tryz.func9, Tryz.ntmps9
    go_wp2
    go_ret
    exact ⟨by rw [HE.out]; rfl, Below.refl _ _⟩
  · have h60z : ¬ (60 : Int) < (n : Int) := by omega
    have HE0 : Hid (res = l.all fewR) := Lib.hid (by
      rw [← HRES.out]; unfold fewRs
      rw [decide_eq_true (by have := HLL.out; omega)]; rfl)
    go_enter Tryz.func9, Tryz.ntmps9
    go_wp2
    go_loopw [3] (fun vi wr => ∃ (k : Nat), vi = .int .i64 k ∧ k ≤ n ∧ Hid (res = (l.drop k).all fewR) ∧ Hid (Below w.heap.size w wr)) (fun vi _ => n - (intOf vi).toNat)
    case atStart => exact ⟨0, rfl, Nat.zero_le _, Lib.hid HE0.out, Lib.hid (Below.refl _ _)⟩
    case round =>
      obtain ⟨k, rfl, hk, HC, HB⟩ := hrel
      by_cases hlt : k < n
      · have hltz : (k : Int) < (n : Int) := by omega
        have hk1 : k < css.length := by have := HLN.out; omega
        have hk2 : k < l.length := by have := HLL.out; omega
        have hck : ∀ cs ∈ css, cs.length = 7 := fun cs hc => by
          obtain ⟨i, hi, rfl⟩ := List.mem_iff_getElem.1 hc
          exact (HR.out.2 i hi (by have := HR.out.1; omega)).rcAt.len
        obtain ⟨b, off, rfl, hb, hel⟩ := HA.out.elem hck (by omega)
        have hbz : Below w0.heap.size w0 wr := HWZ.out.trans (HB.out.mono HWZ.out.size)
        have h0 := HR.out.2 k hk1 hk2
        have hst := all_step hk2
        obtain ⟨r, hr⟩ : ∃ r, l[k]'hk2 = r := ⟨_, rfl⟩
        rw [hr] at h0 hst
        clear hr
        obtain ⟨⟨p0, q0, r0⟩, ⟨p3, q3, r3⟩, ⟨p4, q4, r4⟩, ⟨p5, q5, r5⟩, ⟨p6, q6, r6⟩, e0⟩ := h0.rcAt.shape
        simp only at e0
        obtain ⟨c0, c1, c2, c3, c4, c5, c6⟩ := hel k hk1 _ _ _ _ _ _ _ e0 wr hbz
        have HEL := Lib.hid (fun W hb => hel k hk1 _ _ _ _ _ _ _ e0 W hb)
        rw [e0] at h0
        obtain ⟨_, _, _, _, _, e5, g1, g2, _⟩ := h0
        simp only [List.cons.injEq, and_true, true_and] at e5
        obtain ⟨rfl, rfl, rfl, rfl, rfl⟩ := e5
        obtain ⟨fn1, hf1⟩ : ∃ b, fewN r.owner = b := ⟨_, rfl⟩
        obtain ⟨fn2, hf2⟩ : ∃ b, fewD r.data = b := ⟨_, rfl⟩
        have hkf := kn_Few _ r.owner _ hf1 w0 wr g1 (g1.1.below hbz)
        have HDF := Lib.hid (fun W (hb : Below w0.heap.size w0 W) => law4_Few _ r.data W ⟨g2.1.below hb, g2.2⟩)
        rw [hf2] at HDF
        have HC2 : Hid (res = ((fn1 && fn2) && (l.drop (k + 1)).all fewR)) := Lib.hid (by rw [HC.out, hst]; unfold fewR; rw [hf1, hf2])
        have HBZ := Lib.hid hbz
        clear hst hf1 hf2 g1 g2 hbz hel e0 hck HC hk1 hk2
        cases fn1
        · have HE : Hid (res = false) := Lib.hid (by rw [HC2.out]; rfl)
          clear HC2
          go_wp2_with fail
          refine hkf.mono ?_
          rintro e w2 ⟨rfl, hb2⟩
          have HB2 := Lib.hid (HB.out.trans (hb2.mono HB.out.size))
          clear hb2 hkf
          go_wp2
          go_ret
          exact ⟨by rw [HE.out]; rfl, HB2.out⟩
        · go_wp2_with fail
          refine hkf.mono ?_
          rintro e w2 ⟨rfl, hb2⟩
          have HB2 := Lib.hid (HB.out.trans (hb2.mono HB.out.size))
          have hb0 : Below w0.heap.size w0 w2 := HBZ.out.trans (hb2.mono HBZ.out.size)
          obtain ⟨d0, d1, d2, d3, d4, d5, d6⟩ := HEL.out w2 hb0
          have hdf := HDF.out w2 hb0
          clear hb2 hkf hb0 c0 c1 c2 c3 c4 c5 c6 HEL HDF
          go_wp2_with fail
          refine hdf.mono ?_
          rintro e w3 ⟨rfl, hb3⟩
          have HB3 := Lib.hid (HB2.out.trans (hb3.mono HB2.out.size))
          clear hb3 hdf d0 d1 d2 d3 d4 d5 d6
          cases fn2
          · have HE : Hid (res = false) := Lib.hid (by rw [HC2.out]; rfl)
            clear HC2
            go_wp2
            go_ret
            exact ⟨by rw [HE.out]; rfl, HB3.out⟩
          · have HE : Hid (res = (l.drop (k + 1)).all fewR) := Lib.hid (by rw [HC2.out]; rfl)
            clear HC2
            go_wp2
            go_roundw
            case measure => simp [intOf]; omega
            case rel => exact ⟨k + 1, by go_num, by omega, HE, HB3⟩
      · obtain rfl : k = n := by omega
        have HE : Hid (res = true) := Lib.hid (by
          rw [HC.out, List.drop_of_length_le (by have := HLL.out; omega)]; rfl)
        clear HC
        go_wp2
        go_ret
        exact ⟨by rw [HE.out]; rfl, HB.out⟩
end Go.Proofs.YtfcdajldpnomfaaGreatDoor

/-
  How long the words of a record of few parts are.
-/
namespace Go.Proofs.YtfcdajldpnomfaaGreatDoor
open Go.RowKit Go.Shelf
set_option maxRecDepth 20000
theorem text_few {n : Nm} (h : fewN n = true) : (textN n).length ≤ 500000 := by
  have h2 := of_decide_eq_true h
  unfold textN
  split
  · simp
  · have : ∀ m : Nm, (∀ x ∈ m, x.length ≤ 100) → (m.flatMap fun x => textL x ++ [46]).length ≤ m.length * 401 := by
      intro m
      induction m with
      | nil => simp
      | cons x r ih =>
        intro hm
        have h3 := textL_le x
        have h4 := hm x (by simp)
        have h5 := ih (fun y hy => hm y (by simp [hy]))
        simp only [List.flatMap_cons, List.length_append, List.length_cons, List.length_nil] at h5 ⊢
        omega
    have h6 := this n h2.2
    have h7 := h2.1
    omega

theorem sepBy_sum (c : UInt8) : ∀ xs : Nm, (sepBy [c] xs).length ≤ (xs.map fun x => x.length + 1).sum
  | [] => by simp [sepBy]
  | [x] => by simp [sepBy]
  | x :: y :: r => by
    have ih := sepBy_sum c (y :: r)
    have e : sepBy [c] (x :: y :: r) = x ++ (c :: sepBy [c] (y :: r)) := by simp [sepBy]
    rw [e, List.map_cons, List.sum_cons, List.length_append, List.length_cons]
    omega
theorem sum_le (B : Nat) : ∀ xs : Nm, (∀ x ∈ xs, x.length ≤ B) → (xs.map fun x => x.length + 1).sum ≤ xs.length * (B + 1)
  | [], _ => by simp
  | x :: r, h => by
    have ih := sum_le B r (fun y hy => h y (by simp [hy]))
    have hx := h x (by simp)
    rw [List.map_cons, List.sum_cons, List.length_cons, Nat.add_mul]
    omega
theorem sepBy_two (c : UInt8) (a b : Nm) (n m A B : Nat) (ha : a.length ≤ n) (hb : b.length ≤ m) (h1 : ∀ x ∈ a, x.length ≤ A) (h2 : ∀ x ∈ b, x.length ≤ B) : (sepBy [c] (a ++ b)).length ≤ n * (A + 1) + m * (B + 1) ∧ (sepBy [c] (b ++ a)).length ≤ n * (A + 1) + m * (B + 1) := by
  have s1 := sum_le A a h1
  have s2 := sum_le B b h2
  have t1 : a.length * (A + 1) ≤ n * (A + 1) := Nat.mul_le_mul_right _ ha
  have t2 : b.length * (B + 1) ≤ m * (B + 1) := Nat.mul_le_mul_right _ hb
  have u1 := sepBy_sum c (a ++ b)
  have u2 := sepBy_sum c (b ++ a)
  rw [List.map_append, List.sum_append] at u1 u2
  exact ⟨by omega, by omega⟩
theorem textD_len {d : Dat} (hF : DatFew d) (hf : fewD d = true) : (textD d).length ≤ 499000 := by
  simp only [fewD, Bool.and_eq_true, decide_eq_true_eq] at hf
  obtain ⟨⟨f1, f2, f3, f4⟩, f5, f6⟩ := hf
  have hT : ∀ x ∈ d.names.map textN, x.length ≤ 56140 := by
    intro x hx
    obtain ⟨n, hn, rfl⟩ := List.mem_map.1 hx
    have h := of_decide_eq_true (f5 n hn)
    by_cases h0 : n = []
    · subst h0; simp [textN]
    · rw [textN_eq h0]
      have key : ∀ n : Nm, (∀ x ∈ n, x.length ≤ 100) → (textF n).length ≤ n.length * 401 := by
        intro n
        induction n with
        | nil => intro _; simp [textF]
        | cons x r ih =>
          intro h
          have e1 := h x (by simp)
          have e2 := ih (fun y hy => h y (by simp [hy]))
          have e3 := textL_le x
          simp only [textF, List.flatMap_cons, List.length_append, List.length_cons, List.length_nil] at e2 ⊢
          omega
      have := key n h.2
      omega
  have hN : ∀ x ∈ d.nums.map Lib.decDigits, x.length ≤ 19 := fun x hx => by
    obtain ⟨n, hn, rfl⟩ := List.mem_map.1 hx
    exact dec_len n (by have := hF.1.2.2.2.2.1 n hn; omega)
  obtain ⟨w1, w2⟩ := sepBy_two 32 (d.names.map textN) (d.nums.map Lib.decDigits) 8 12 56140 19 (by rw [List.length_map]; exact f1) (by rw [List.length_map]; exact f2) hT hN
  have hQ := sum_le 1202 (d.texts.map quotedM) (fun x hx => by
    obtain ⟨t, ht, rfl⟩ := List.mem_map.1 hx
    have h1 := f6 t ht
    have h2 := quoteF_le t
    have e : (quotedM t).length = (quoteF t).length + 2 := by simp [quotedM, quoteF]
    omega)
  have hQ2 := sepBy_sum 32 (d.texts.map quotedM)
  rw [List.length_map] at hQ
  have hA := sum_le 19 (d.raw.map fun c => Lib.decDigits c.toNat) (fun x hx => by
    obtain ⟨c, _, rfl⟩ := List.mem_map.1 hx
    exact dec_len c.toNat (by have := c.toNat_lt; omega))
  have hA2 := sepBy_sum 46 (d.raw.map fun c => Lib.decDigits c.toNat)
  rw [List.length_map] at hA
  have hG := sum_le 4 (hexes d.raw) (hexes_each d.raw)
  have hG2 := sepBy_sum 58 (hexes d.raw)
  rw [hexes_len] at hG
  have hO : (octetWordsM d.raw).length ≤ 3000 := by
    have h1 := dec_len d.raw.length (by omega)
    have h2 := hex2_len d.raw
    unfold octetWordsM
    by_cases e : d.raw = []
    · rw [if_pos e]; simp only [List.length_append, List.length_cons, List.length_nil]; omega
    · rw [if_neg e]; simp only [List.length_append, List.length_cons, List.length_nil]; omega
  unfold textD
  repeat' split
  all_goals omega

theorem fewD_few {d : Dat} (h : DatOK d) (hf : fewD d = true) : DatFew d := by
  simp only [fewD, Bool.and_eq_true, decide_eq_true_eq] at hf
  obtain ⟨⟨f1, f2, f3, f4⟩, f5, f6⟩ := hf
  refine ⟨h, by omega, fun n hn => ?_, by omega, by omega⟩
  have h := of_decide_eq_true (f5 n hn)
  exact ⟨by omega, fun x hx => by have := h.2 x hx; omega⟩
theorem typeText_len (n : Nat) (h : n ≤ 65535) : (typeTextM n).length ≤ 1000000 := by
  unfold typeTextM
  cases hr : rowOfT (n : Int) with
  | some j =>
    have hj := (find_range hr).1
    have : ∀ j : Nat, j < 9 → (typeS j).length ≤ 10 := by decide
    have := this j hj
    simp only; omega
  | none => have := dec_len n (by omega); simp only [Lib.itoa_nonneg, List.length_append, List.length_cons, List.length_nil]; omega
theorem checkD_ok {d : Dat} (h : checkD d = 0) : (1 ≤ d.ty ∧ d.ty ≤ 65535) ∧ countedM d = true := by
  unfold checkD at h
  by_cases h1 : d.ty < 1 ∨ 65535 < d.ty
  · rw [if_pos h1] at h; cases h
  rw [if_neg h1] at h
  by_cases h2 : countedM d = false
  · rw [if_pos h2] at h; cases h
  exact ⟨by omega, by simpa using h2⟩
theorem checkR_ok {r : Rc} (h : checkR r = 0) : (1 ≤ r.data.ty ∧ r.data.ty ≤ 65535) ∧ countedM r.data = true := by
  unfold checkR at h
  by_cases h1 : checkN r.owner = 0
  · rw [if_neg (by simp [h1])] at h
    by_cases h2 : 2147483647 < r.ttl
    · rw [if_pos h2] at h; cases h
    · rw [if_neg h2] at h; exact checkD_ok h
  · rw [if_pos h1] at h; exact absurd h h1
theorem textR_len {r : Rc} (hk : RcOK r) (hf : fewR r = true) (hc : checkR r = 0) : (textR r).length ≤ 1000000000000 := by
  simp only [fewR, Bool.and_eq_true] at hf
  obtain ⟨⟨c1, c2⟩, _⟩ := checkR_ok hc
  have h1 := text_few hf.1
  have h2 := textD_len (fewD_few hk.2.2 hf.2) hf.2
  have h3 := dec_len r.ttl (by have := hk.2.1; omega)
  have h4 := typeText_len r.data.ty.toNat (by omega)
  rw [Int.toNat_of_nonneg (by omega)] at h4
  unfold textR
  simp only [List.length_append, List.length_cons, List.length_nil]
  omega
end Go.Proofs.YtfcdajldpnomfaaGreatDoor

/-
  The document's CheckRec, CompareRec, SameRec. (Written by wip/tools/genref5.py.)
-/
namespace Go.Proofs.YtfcdajldpnomfaaGreatDoor
open Go.RowKit Go.Shelf
set_option maxRecDepth 20000
set_option linter.unusedVariables false
set_option linter.unusedSimpArgs false

set_option maxRecDepth 100000 in
set_option maxHeartbeats 4000000 in
theorem ref_CheckRec (cs : List Value) (r : Rc) (w : World) (hA : RcAt w cs r) (hk : RcOK r) :
    Calls Tryz.prog 10 #[.agg cs.toArray] w fun e w' => e = .returned (.int .i64 (checkR r)) ∧ Below w.heap.size w w' := by
  obtain ⟨vo, vn, vu, vt, vr, rfl, a1, a2⟩ := hA
  have HN := Lib.hid (fun W (hb : Below w.heap.size w W) => kn_RCheck vo r.owner _ rfl W (a1.below hb) hk.1)
  have HD := Lib.hid (fun W (hb : Below w.heap.size w W) => ref_CheckData _ r.data W (a2.below hb) hk.2.2)
  unfold CheckPost at HD
  have hR := Lib.hid (show checkR r = if checkN r.owner ≠ 0 then checkN r.owner else if 2147483647 < r.ttl then 7 else checkD r.data from rfl)
  generalize checkR r = res at *
  generalize checkN r.owner = q at *
  generalize checkD r.data = q2 at *
  generalize r.data.ty = x at *
  obtain ⟨t, ht⟩ : ∃ t, r.ttl = t := ⟨_, rfl⟩
  rw [ht] at hR ⊢
  have hb0 : Below w.heap.size w (w.alloc (.cells #[vo, .int .u32 (t : Int), .int .i64 x, vn, vu, vt, vr] 40)) := (Below.refl w.heap.size w).alloc (Nat.le_refl _) _
  have K1 := Lib.hid (knew w (.cells #[vo, .int .u32 (t : Int), .int .i64 x, vn, vu, vt, vr] 40))
  have HBB := Lib.hid hb0
  have hn := HN.out _ hb0
  clear a1 a2 hb0 hk ht HN
  by_cases hq : q = 0
  · subst hq
    by_cases hov : 2147483647 < t
    · have HR : Hid (res = 7) := Lib.hid (by rw [hR.out, if_neg (by simp), if_pos hov])
      have hovz : (2147483647 : Int) < (t : Int) := by omega
      clear hR
      go_enter Tryz.func10, Tryz.ntmps10
      go_wp2_with fail
      refine hn.mono ?_
      rintro e w1 ⟨rfl, hb1⟩
      have c1 := (hb1.block _ (kblock_lt K1.out)).trans K1.out
      have p1 := kcell c1 1 (.int .u32 (t : Int)) rfl
      have HB1 := Lib.hid (HBB.out.trans (hb1.mono HBB.out.size))
      clear hn hb1 c1
      go_wp2
      go_ret
      exact ⟨by rw [HR.out]; rfl, HB1.out⟩
    · have HR : Hid (res = q2) := Lib.hid (by rw [hR.out, if_neg (by simp), if_neg hov])
      have hovz : ¬ (2147483647 : Int) < (t : Int) := by omega
      clear hR
      go_enter Tryz.func10, Tryz.ntmps10
      go_wp2_with fail
      refine hn.mono ?_
      rintro e w1 ⟨rfl, hb1⟩
      have c1 := (hb1.block _ (kblock_lt K1.out)).trans K1.out
      have p1 := kcell c1 1 (.int .u32 (t : Int)) rfl; have p2 := kcell c1 2 _ rfl; have p3 := kcell c1 3 _ rfl; have p4 := kcell c1 4 _ rfl; have p5 := kcell c1 5 _ rfl; have p6 := kcell c1 6 _ rfl
      have HB1 := Lib.hid (HBB.out.trans (hb1.mono HBB.out.size))
      have hd := HD.out w1 HB1.out
      clear hn hb1 c1
      go_wp2_with fail
      refine hd.mono ?_
      rintro e w2 ⟨rfl, hb2⟩
      go_wp2
      go_ret
      exact ⟨by rw [HR.out]; rfl, HB1.out.trans (hb2.mono HB1.out.size)⟩
  · have HR : Hid (res = q) := Lib.hid (by rw [hR.out, if_pos hq])
    have hqz : (q == 0) = false := by simpa using hq
    have hqn : (q != 0) = true := by simpa using hq
    clear hR
    go_enter Tryz.func10, Tryz.ntmps10
    go_wp2_with fail
    refine hn.mono ?_
    rintro e w1 ⟨rfl, hb1⟩
    have HB1 := Lib.hid (HBB.out.trans (hb1.mono HBB.out.size))
    clear hn hb1
    go_wp2
    go_ret
    exact ⟨by rw [HR.out]; rfl, HB1.out⟩

set_option maxRecDepth 100000 in
set_option maxHeartbeats 4000000 in
theorem ref_CompareRec (cs cs' : List Value) (a b : Rc) (w : World) (hA : RcAt w cs a) (hU : RcAt w cs' b) (hk : RcOK a) (hk2 : RcOK b) :
    Calls Tryz.prog 12 #[.agg cs.toArray, .agg cs'.toArray] w fun e w' => e = .returned (.int .i64 (compareR a b)) ∧ Below w.heap.size w w' := by
  obtain ⟨vo, vn, vu, vt, vr, rfl, a1, a2⟩ := hA
  obtain ⟨uo, un, uu, ut, ur, rfl, b1, b2⟩ := hU
  have hb0 := fun o o' => ((Below.refl w.heap.size w).alloc (Nat.le_refl _) o).alloc (o := o') (by simp)
  have HN := Lib.hid (fun W (hb : Below w.heap.size w W) => kn_RCompare vo uo a.owner b.owner _ rfl W (a1.below hb) (b1.below hb) hk.1 hk2.1)
  have HD := Lib.hid (fun W (hb : Below w.heap.size w W) => ref_CompareData _ _ a.data b.data W (a2.below hb) (b2.below hb) hk.2.2 hk2.2.2)
  have hR := Lib.hid (show compareR a b = orI (compareN a.owner b.owner) (compareD a.data b.data) from rfl)
  generalize compareR a b = r at *
  generalize compareN a.owner b.owner = q at *
  generalize compareD a.data b.data = q2 at *
  generalize a.data.ty = x at *
  generalize b.data.ty = y at *
  generalize (a.ttl : Int) = ta at *
  generalize (b.ttl : Int) = tb at *
  obtain ⟨O1, hO1⟩ : ∃ O, O = Obj.cells #[vo, .int .u32 ta, .int .i64 x, vn, vu, vt, vr] 40 := ⟨_, rfl⟩
  obtain ⟨O2, hO2⟩ : ∃ O, O = Obj.cells #[uo, .int .u32 tb, .int .i64 y, un, uu, ut, ur] 40 := ⟨_, rfl⟩
  have hbb := hb0 O1 O2
  have HBB := Lib.hid hbb
  have hn := HN.out _ hbb
  have k1 : ((w.alloc O1).alloc O2).heap[w.heap.size]? = some O1 := (Below.heap_alloc (w.alloc O1) O2 w.heap.size (by simp)).trans (knew w O1)
  have k2 : ((w.alloc O1).alloc O2).heap[w.heap.size + 1]? = some O2 := by have := knew (w.alloc O1) O2; simpa using this
  rw [hO1] at k1 k2 hn HBB
  rw [hO2] at k1 k2 hn HBB
  have K1 := Lib.hid k1; have K2 := Lib.hid k2
  clear k1 k2 hbb hb0 a1 a2 b1 b2 hk hk2 hO1 hO2
  by_cases hq : q = 0
  · subst hq
    have HR : Hid (r = q2) := Lib.hid (by rw [hR.out]; rfl)
    clear hR
    go_enter Tryz.func12, Tryz.ntmps12
    go_wp2_with fail
    refine hn.mono ?_
    rintro e w1 ⟨rfl, hb1⟩
    have HB1 := Lib.hid (HBB.out.trans (hb1.mono HBB.out.size))
    have c1 := (hb1.block _ (kblock_lt K1.out)).trans K1.out
    have c2 := (hb1.block _ (kblock_lt K2.out)).trans K2.out
    have p2 := kcell c1 2 _ rfl; have p3 := kcell c1 3 _ rfl; have p4 := kcell c1 4 _ rfl; have p5 := kcell c1 5 _ rfl; have p6 := kcell c1 6 _ rfl
    have r2 := kcell c2 2 _ rfl; have r3 := kcell c2 3 _ rfl; have r4 := kcell c2 4 _ rfl; have r5 := kcell c2 5 _ rfl; have r6 := kcell c2 6 _ rfl
    clear hb1 c1 c2 hn
    have hd := HD.out w1 HB1.out
    go_wp2_with fail
    refine hd.mono ?_
    rintro e w2 ⟨rfl, hb2⟩
    go_wp2
    go_ret
    exact ⟨by rw [HR.out]; rfl, HB1.out.trans (hb2.mono HB1.out.size)⟩
  · have HR : Hid (r = q) := Lib.hid (by rw [hR.out]; unfold orI; rw [if_neg hq])
    have hqz : (q == 0) = false := by simpa using hq
    have hqn : (q != 0) = true := by simpa using hq
    clear hR
    go_enter Tryz.func12, Tryz.ntmps12
    go_wp2_with fail
    refine hn.mono ?_
    rintro e w1 ⟨rfl, hb1⟩
    have HB1 := Lib.hid (HBB.out.trans (hb1.mono HBB.out.size))
    clear hb1 hn
    go_wp2
    go_ret
    exact ⟨by rw [HR.out]; rfl, HB1.out⟩

set_option maxRecDepth 100000 in
set_option maxHeartbeats 4000000 in
theorem ref_SameRec (cs cs' : List Value) (a b : Rc) (w : World) (hA : RcAt w cs a) (hU : RcAt w cs' b) (hk : RcOK a) (hk2 : RcOK b) :
    Calls Tryz.prog 52 #[.agg cs.toArray, .agg cs'.toArray] w fun e w' => e = .returned (.bool (sameR a b)) ∧ Below w.heap.size w w' := by
  have HS := Lib.hid (fun W (hb : Below w.heap.size w W) => ref_CompareRec cs cs' a b W (hA.below hb) (hU.below hb) hk hk2)
  obtain ⟨vo, vn, vu, vt, vr, rfl, -⟩ := hA
  obtain ⟨uo, un, uu, ut, ur, rfl, -⟩ := hU
  have hR := Lib.hid (show sameR a b = (compareR a b == 0) from rfl)
  generalize sameR a b = res at *
  generalize compareR a b = q at *
  generalize a.data.ty = x at *
  generalize b.data.ty = y at *
  generalize (a.ttl : Int) = ta at *
  generalize (b.ttl : Int) = tb at *
  obtain ⟨O1, hO1⟩ : ∃ O, O = Obj.cells #[vo, .int .u32 ta, .int .i64 x, vn, vu, vt, vr] 40 := ⟨_, rfl⟩
  obtain ⟨O2, hO2⟩ : ∃ O, O = Obj.cells #[uo, .int .u32 tb, .int .i64 y, un, uu, ut, ur] 40 := ⟨_, rfl⟩
  have hbb := ((Below.refl w.heap.size w).alloc (Nat.le_refl _) O1).alloc (o := O2) (by simp)
  have HBB := Lib.hid hbb
  have hn := HS.out _ hbb
  rw [hO1, hO2] at hn HBB
  clear hbb hk hk2 hO1 hO2 HS
  go_enter Tryz.func52, Tryz.ntmps52
  go_wp2_with fail
  refine hn.mono ?_
  rintro e w1 ⟨rfl, hb1⟩
  have HB1 := Lib.hid (HBB.out.trans (hb1.mono HBB.out.size))
  clear hb1 hn
  go_wp2
  go_ret
  exact ⟨by rw [hR.out]; rfl, HB1.out⟩
end Go.Proofs.YtfcdajldpnomfaaGreatDoor

/-
  The document's RecText. (Written by wip/tools/genref5b.py.)
-/
namespace Go.Proofs.YtfcdajldpnomfaaGreatDoor
open Go.RowKit Go.Shelf
set_option maxRecDepth 20000
set_option linter.unusedVariables false
set_option linter.unusedSimpArgs false

/-- The box, and what lies below it. -/
structure TyB (w : World) (v0 v1 v2 v3 v4 v5 v6 : Value) (W : World) : Prop where
  p : W.heap[w.heap.size]? = some (.cells #[v0, v1, v2, v3, v4, v5, v6] 40)
  below : Below w.heap.size w W
theorem TyB.keep {w W W' : World} {v0 v1 v2 v3 v4 v5 v6 : Value} (h : TyB w v0 v1 v2 v3 v4 v5 v6 W) (hb : Below W.heap.size W W') : TyB w v0 v1 v2 v3 v4 v5 v6 W' :=
  ⟨(hb.block _ (kblock_lt h.p)).trans h.p, h.below.trans (hb.mono h.below.size)⟩
def TyS (w : World) (v0 v1 v2 v3 v4 v5 v6 : Value) (W : World) : Prop :=
  W.cell? ⟨w.heap.size, 0, none⟩ = some v0 ∧ W.cell? ⟨w.heap.size, 1, none⟩ = some v1 ∧ W.cell? ⟨w.heap.size, 2, none⟩ = some v2 ∧ W.cell? ⟨w.heap.size, 3, none⟩ = some v3 ∧ W.cell? ⟨w.heap.size, 4, none⟩ = some v4 ∧ W.cell? ⟨w.heap.size, 5, none⟩ = some v5 ∧ W.cell? ⟨w.heap.size, 6, none⟩ = some v6 ∧ TyB w v0 v1 v2 v3 v4 v5 v6 W
theorem TyB.ss {w W : World} {v0 v1 v2 v3 v4 v5 v6 : Value} (h : TyB w v0 v1 v2 v3 v4 v5 v6 W) : TyS w v0 v1 v2 v3 v4 v5 v6 W :=
  ⟨kcell h.p 0 _ rfl, kcell h.p 1 _ rfl, kcell h.p 2 _ rfl, kcell h.p 3 _ rfl, kcell h.p 4 _ rfl, kcell h.p 5 _ rfl, kcell h.p 6 _ rfl, h⟩
theorem TyS.b {w W : World} {v0 v1 v2 v3 v4 v5 v6 : Value} (h : TyS w v0 v1 v2 v3 v4 v5 v6 W) : TyB w v0 v1 v2 v3 v4 v5 v6 W := h.2.2.2.2.2.2.2

set_option maxRecDepth 100000 in
set_option maxHeartbeats 8000000 in
theorem ref_RecText (cs : List Value) (r : Rc) (w : World) (hA : RcAt w cs r) (hk : RcOK r) (hF : DatFew r.data) (hc : countedM r.data = true) (hty : 0 ≤ r.data.ty ∧ r.data.ty ≤ 65535) (hL : (textR r).length ≤ 1000000000000) :
    Calls Tryz.prog 17 #[.agg cs.toArray] w fun e w' => e = .returned (.string ⟨(textR r).toArray⟩) ∧ Below w.heap.size w w' := by
  obtain ⟨vo, vn, vu, vt, vr, rfl, a1, a2⟩ := hA
  obtain ⟨t, ht⟩ : ∃ t, r.ttl = t := ⟨_, rfl⟩
  have ht32 : t < 2 ^ 32 := by rw [← ht]; exact hk.2.1
  obtain ⟨tn, htn⟩ : ∃ tn : Nat, r.data.ty = (tn : Int) := ⟨r.data.ty.toNat, by omega⟩
  have htl : tn ≤ 65535 := by omega
  have hNum := fun W (hb : Below w.heap.size w W) => ref_Decimal t W (by omega)
  have hNm := fun W (hb : Below w.heap.size w W) => kn_RText vo r.owner _ rfl W (a1.below hb) hk.1
  have hTy := fun W (hb : Below w.heap.size w W) => ref_TypeText tn W (by omega)
  have hTx := fun W (hb : Below w.heap.size w W) => ref_DataText _ r.data W (a2.below hb) hF hc
  have hR : textR r = textN r.owner ++ [32] ++ Lib.decDigits r.ttl ++ [32, 73, 78, 32] ++ typeTextM tn ++ [32] ++ textD r.data := by rw [← htn]; rfl
  rw [ht] at hR ⊢
  rw [htn] at hTx ⊢
  generalize textR r = res at *
  generalize textN r.owner = x1 at *
  generalize Lib.decDigits t = x2 at *
  generalize typeTextM tn = x3 at *
  generalize textD r.data = x4 at *
  obtain ⟨x, hx⟩ : ∃ x : Int, (tn : Int) = x := ⟨_, rfl⟩
  rw [hx] at hTy hTx ⊢
  have hz := hL
  rw [hR] at hz
  simp only [List.length_append] at hz
  have A1 := add_lists x1 [32] (x1 ++ [32]) rfl (by simp only [List.length_append]; omega)
  have A2 := add_lists (x1 ++ [32]) x2 (x1 ++ [32] ++ x2) rfl (by simp only [List.length_append]; omega)
  have A3 := add_lists (x1 ++ [32] ++ x2) [32, 73, 78, 32] (x1 ++ [32] ++ x2 ++ [32, 73, 78, 32]) rfl (by simp only [List.length_append]; omega)
  have A4 := add_lists (x1 ++ [32] ++ x2 ++ [32, 73, 78, 32]) x3 (x1 ++ [32] ++ x2 ++ [32, 73, 78, 32] ++ x3) rfl (by simp only [List.length_append]; omega)
  have A5 := add_lists (x1 ++ [32] ++ x2 ++ [32, 73, 78, 32] ++ x3) [32] (x1 ++ [32] ++ x2 ++ [32, 73, 78, 32] ++ x3 ++ [32]) rfl (by simp only [List.length_append]; omega)
  have A6 := add_lists (x1 ++ [32] ++ x2 ++ [32, 73, 78, 32] ++ x3 ++ [32]) x4 res hR hL
  generalize (⟨res.toArray⟩ : ByteArray) = b6 at *
  generalize (⟨(x1 ++ [32] ++ x2 ++ [32, 73, 78, 32] ++ x3 ++ [32]).toArray⟩ : ByteArray) = b5 at *
  generalize (⟨(x1 ++ [32] ++ x2 ++ [32, 73, 78, 32] ++ x3).toArray⟩ : ByteArray) = b4 at *
  generalize (⟨(x1 ++ [32] ++ x2 ++ [32, 73, 78, 32]).toArray⟩ : ByteArray) = b3 at *
  generalize (⟨(x1 ++ [32] ++ x2).toArray⟩ : ByteArray) = b2 at *
  generalize (⟨(x1 ++ [32]).toArray⟩ : ByteArray) = b1 at *
  generalize (⟨x1.toArray⟩ : ByteArray) = c1 at *
  generalize (⟨x2.toArray⟩ : ByteArray) = c2 at *
  generalize (⟨x3.toArray⟩ : ByteArray) = c3 at *
  generalize (⟨x4.toArray⟩ : ByteArray) = c4 at *
  have B1 : ∀ W, (Op.stringOp .add c1 (⟨#[32]⟩ : ByteArray)).run Tryz.prog W = .ok (.string b1) W := A1
  have B3 : ∀ W, (Op.stringOp .add b2 (⟨#[32, 73, 78, 32]⟩ : ByteArray)).run Tryz.prog W = .ok (.string b3) W := A3
  have B5 : ∀ W, (Op.stringOp .add b4 (⟨#[32]⟩ : ByteArray)).run Tryz.prog W = .ok (.string b5) W := A5
  clear A1 A3 A5 hz hL
  have hb0 : Below w.heap.size w (w.alloc (.cells #[vo, .int .u32 (t : Int), .int .i64 x, vn, vu, vt, vr] 40)) := (Below.refl w.heap.size w).alloc (Nat.le_refl _) _
  have hX0 : TyB w vo (.int .u32 (t : Int)) (.int .i64 x) vn vu vt vr (w.alloc (.cells #[vo, .int .u32 (t : Int), .int .i64 x, vn, vu, vt, vr] 40)) := ⟨knew _ _, hb0⟩
  have HX0 := Lib.hid hX0
  have HNum := Lib.hid (fun (W : World) (h : TyS w vo (.int .u32 (t : Int)) (.int .i64 x) vn vu vt vr W) => hNum W h.b.below)
  have HNm := Lib.hid (fun (W : World) (h : TyS w vo (.int .u32 (t : Int)) (.int .i64 x) vn vu vt vr W) => hNm W h.b.below)
  have HTy := Lib.hid (fun (W : World) (h : TyS w vo (.int .u32 (t : Int)) (.int .i64 x) vn vu vt vr W) => hTy W h.b.below)
  have HTx := Lib.hid (fun (W : World) (h : TyS w vo (.int .u32 (t : Int)) (.int .i64 x) vn vu vt vr W) => hTx W h.b.below)
  have KS := Lib.hid (fun (W W' : World) (h : TyS w vo (.int .u32 (t : Int)) (.int .i64 x) vn vu vt vr W) (hb : Below W.heap.size W W') => (h.b.keep hb).ss)
  have KD := Lib.hid (fun (W : World) (h : TyS w vo (.int .u32 (t : Int)) (.int .i64 x) vn vu vt vr W) => (h.b.keep (W' := W.drew) ⟨rfl, rfl, rfl, Nat.le_refl _, fun _ _ => rfl⟩).ss)
  have hw : IntKind.i64.wrap (t : Int) = (t : Int) := by
    have := ht32
    simp [IntKind.wrap, IntKind.bits, IntKind.signed]
    omega
  clear hNum hNm hTy hTx hR hb0 hX0 a1 a2 hk hF hc hty ht htn hx htl
  go_enter Tryz.func17, Tryz.ntmps17
  go_wp2_with fail
  have hS0 := HX0.out.ss
  clear HX0
  unfold TyS at hS0 HNum HNm HTy HTx KS KD
  go_region_held3 (fun W => W.cell? ⟨w.heap.size, 0, none⟩ = some vo ∧ W.cell? ⟨w.heap.size, 1, none⟩ = some (.int .u32 (t : Int)) ∧ W.cell? ⟨w.heap.size, 2, none⟩ = some (.int .i64 x) ∧ W.cell? ⟨w.heap.size, 3, none⟩ = some vn ∧ W.cell? ⟨w.heap.size, 4, none⟩ = some vu ∧ W.cell? ⟨w.heap.size, 5, none⟩ = some vt ∧ W.cell? ⟨w.heap.size, 6, none⟩ = some vr ∧ TyB w vo (.int .u32 (t : Int)) (.int .i64 x) vn vu vt vr W)
    (first | with_reducible assumption | (with_reducible exact KD.out _ (by with_reducible assumption)))
    (first | ((with_reducible refine (HNum.out _ (by with_reducible assumption)).mono ?_); rintro e w1 ⟨rfl, hb1⟩; have hS1 := KS.out _ _ (by with_reducible assumption) hb1) | ((with_reducible refine (HNm.out _ (by with_reducible assumption)).mono ?_); rintro e w2 ⟨rfl, hb2⟩; have hS2 := KS.out _ _ (by with_reducible assumption) hb2) | ((with_reducible refine (HTy.out _ (by with_reducible assumption)).mono ?_); rintro e w3 ⟨rfl, hb3⟩; have hS3 := KS.out _ _ (by with_reducible assumption) hb3) | ((with_reducible refine (HTx.out _ (by with_reducible assumption)).mono ?_); rintro e w4 ⟨rfl, hb4⟩; have hS4 := KS.out _ _ (by with_reducible assumption) hb4))
  all_goals
    rename_i hSe
    go_wp2_with fail
    go_ret
    exact ⟨rfl, hSe.2.2.2.2.2.2.2.below⟩
end Go.Proofs.YtfcdajldpnomfaaGreatDoor

/-
  The iterator that rec.Canon goes over.
-/
namespace Go.Proofs.YtfcdajldpnomfaaGreatDoor
open Go.RowKit Go.Shelf
set_option maxRecDepth 20000
set_option linter.unusedVariables false
set_option linter.unusedSimpArgs false

theorem insS_len (x : Rc) : ∀ l : List Rc, (insS l x).length = l.length + 1
  | [] => rfl
  | y :: r => by
    unfold insS
    split
    · simp [insS_len x r]
    · simp
theorem sortM_len (l : List Rc) : (sortM l).length = l.length := by
  unfold sortM
  suffices ∀ (l a : List Rc), (l.foldl insS a).length = a.length + l.length by simpa using this l []
  intro l
  induction l with
  | nil => intro a; simp
  | cons x l ih => intro a; rw [List.foldl_cons, ih, insS_len]; simp; omega
theorem sortM_in (l : List Rc) : ∀ z ∈ sortM l, z ∈ l := by
  unfold sortM
  suffices ∀ (l a : List Rc), ∀ z ∈ l.foldl insS a, z ∈ a ∨ z ∈ l by
    intro z hz
    rcases this l [] z hz with h | h
    · cases h
    · exact h
  intro l
  induction l with
  | nil => intro a z hz; exact .inl hz
  | cons x l ih =>
    intro a z hz
    rw [List.foldl_cons] at hz
    rcases ih _ z hz with h | h
    · rcases insS_mem a z h with rfl | h
      · exact .inr (by simp)
      · exact .inl h
    · exact .inr (by simp [h])
theorem SlK.moved {W W' : World} {v : Value} {css : List (List Value)} (h : SlK W v css) (hs : W.heap.size ≤ W'.heap.size) (hb : ∀ b, v.ownBlock = some b → b < W.heap.size → W'.heap[b]? = W.heap[b]?) : SlK W' v css := by
  obtain ⟨a, c, rfl, h1, h2, h3⟩ := h
  refine ⟨a, c, rfl, h1, h2, ?_⟩
  rcases h3 with h3 | ⟨b, off, rfl, hlt, hc⟩
  · exact .inl h3
  · exact .inr ⟨b, off, rfl, by omega, fun j u hj => (World.cell?_of_block (a := ⟨b, off + j, none⟩) (hb b rfl hlt)).trans (hc j u hj)⟩
/-- The iterator of a row of records that lies. -/
theorem runs_stops (N B : Nat) (w W0 : World) (a : Option Addr) (m c b1 b2 : Nat) (css : List (List Value)) (rs : List Rc) (hA : SlK W0 (.slice a m c) css) (hm : css.length = m) (hmb : m ≤ 1048576) (hR : Rcs w css rs) (hOK : ∀ r ∈ rs, RcOK r)
    (hw : Below w.heap.size w W0) (hB : w.heap.size ≤ B) (hN : N = W0.heap.size) (hb1 : b1 < N) (hb1B : b1 ≠ B) (hb2 : b2 < N) (hb2B : b2 ≠ B) (hown : ∀ b, (Value.slice a m c).ownBlock = some b → b ≠ B)
    (hc1 : Boxed W0 b1 34 (.slice a m c)) (hc2 : Boxed W0 b2 46 (.func (.func 15) #[] #[])) :
    ∃ g off, (0 < m → a = some ⟨g, off, none⟩ ∧ g < W0.heap.size ∧ g ≠ B ∧ ∀ j u, css.flatten[j]? = some u → W0.cell? ⟨g, off + j, none⟩ = some u) ∧
    SeqStopsK Fence.wide 7 Tryz.prog 96 #[.pointer (some ⟨b1, 0, none⟩), .pointer (some ⟨b2, 0, none⟩)] (segV g off c (n := m)) (KpX N B) (fun xs => xs.map (·.1) = segs rs) (fun _ => True) m W0 := by
  have hck : ∀ cs ∈ css, cs.length = 7 := fun cs hc => by
    obtain ⟨i, hi, rfl⟩ := List.mem_iff_getElem.1 hc
    exact (hR.2 i hi (by have := hR.1; omega)).len
  obtain ⟨g, off, hg⟩ : ∃ g off, 0 < m → a = some ⟨g, off, none⟩ ∧ g < W0.heap.size ∧ ∀ j u, css.flatten[j]? = some u → W0.cell? ⟨g, off + j, none⟩ = some u := by
    by_cases h0 : 0 < m
    · obtain ⟨a', c', e, _, _, h3⟩ := id hA
      cases e
      rcases h3 with h3 | ⟨b, off, rfl, hlt, hc⟩
      · subst h3; rw [← hm] at h0; exact absurd h0 (Nat.lt_irrefl 0)
      · exact ⟨b, off, fun _ => ⟨rfl, hlt, hc⟩⟩
    · exact ⟨0, 0, fun h => absurd h h0⟩
  refine ⟨g, off, fun h0 => ?_, ?_⟩
  · obtain ⟨e, h1, h2⟩ := hg h0
    exact ⟨e, h1, hown g (by rw [e]; rfl), h2⟩
  have hnc : m ≤ c := by
    obtain ⟨a', c', e, h1, _⟩ := id hA
    cases e; omega
  have hrec : ∀ W, KpX N B W0 W → ∀ i (hi : i < css.length) (hi' : i < rs.length), RcAt W css[i] rs[i] := fun W hK i hi hi' =>
    (hR.2 i hi hi').below (hw.trans (hK.below hB (by rw [hN]; exact hw.size)))
  have H : RunW b1 b2 a g off m c css rs (KpX N B) (fun W => KpX N B W0 W) :=
    { c1 := fun W hK => Boxed.cell (t := 34) ((hK.block b1 hb1 hb1B).trans hc1)
      c2 := fun W hK => Boxed.cell (t := 46) ((hK.block b2 hb2 hb2B).trans hc2)
      ha := fun h0 => (hg h0).1
      el := fun W hK k hlt u0 u1 u2 u3 u4 u5 u6 e => by
        have h0 : 0 < m := by omega
        obtain ⟨ea, hgl, _⟩ := hg h0
        have hA2 : SlK W (.slice a m c) css := hA.moved hK.size (fun b e hb => hK.block b (by omega) (hown b e))
        obtain ⟨g', off', ea', _, hel⟩ := hA2.elem hck (by omega)
        rw [ea] at ea'
        cases ea'
        exact hel k hlt u0 u1 u2 u3 u4 u5 u6 e W (Below.refl _ _)
      same := fun W hK i j hi hj hi' hj' => rec_Same css[i] css[j] rs[i] rs[j] W (hrec W hK i hi hi') (hrec W hK j hj hj') (hOK _ (List.getElem_mem _)) (hOK _ (List.getElem_mem _))
      below := fun W W' h hb => h.trans (KpX.of_below (by rw [hN]; exact h.size) hb)
      kp := fun W W' h k => h.trans k
      shape := fun k hk => by
        obtain ⟨x0, x3, x4, x5, x6, e⟩ := (hR.2 k hk (by have := hR.1; omega)).shape
        exact ⟨_, _, x0, x3, x4, x5, x6, e⟩ }
  intro l J Jx W hW hJ hJx hY h0
  refine (runs1_in 7 (by omega) l b1 b2 a g off m c hnc (by omega) css rs hm (by rw [← hR.1]; exact hm) (KpX N B) _ H J Jx (fun pre W W' h hb => hJ pre W W' none h (grown_of_below hb) (fun _ e => by cases e)) hY W (KpX.of_below (by omega) hW) h0).mono ?_
  rintro e W' ⟨h1, h2 | ⟨pre, h2⟩⟩
  · exact ⟨h1, .inl h2⟩
  · exact ⟨h1, .inr ⟨pre, trivial, h2⟩⟩

end Go.Proofs.YtfcdajldpnomfaaGreatDoor

/-
  rec.Canon.
-/
namespace Go.Proofs.YtfcdajldpnomfaaGreatDoor
open Go.RowKit Go.Shelf
set_option maxRecDepth 20000
set_option linter.unusedVariables false
set_option linter.unusedSimpArgs false

theorem FrAt.withTTL {W : World} {base : Nat} {x0 x1 x2 x3 x4 x5 x6 : Value} {y : Rc} (t : Nat) (h : FrAt W base [x0, x1, x2, x3, x4, x5, x6] y) : FrAt W base [x0, .int .u32 (t : Int), x2, x3, x4, x5, x6] ⟨y.owner, t, y.data⟩ := by
  obtain ⟨vo, vn, vu, vt, vr, e, h1, h2⟩ := h
  simp only [List.cons.injEq, and_true] at e
  obtain ⟨rfl, -, rfl, rfl, rfl, rfl, rfl⟩ := e
  exact ⟨_, _, _, _, _, rfl, h1, h2⟩
theorem KeepsOthers.of_below {W W' : World} (hb : Below W.heap.size W W') : KeepsOthers W W' := ⟨hb.size, fun k o hk _ => (hb.block k (Array.getElem?_eq_some_iff.1 hk).1).trans hk⟩
theorem KeepsOthers.grown_c {k : Nat} {T : TypeId} {W W' : World} {base : Nat} {v : Value} {xss : List (List Value)} (h : OwnC k T W base v xss) (hg : W.grownBy W' v.ownBlock) : KeepsOthers W W' :=
  ⟨hg.size, fun i o hi ho => (hg.block i (Array.getElem?_eq_some_iff.1 hi).1 (fun e => by
    obtain ⟨cs, h3⟩ := h.blk i e.symm
    rw [hi] at h3; cases h3; cases ho)).trans hi⟩

def CanonPost (w : World) (rs : List Rc) (e : Ending) (w' : World) : Prop :=
  ∃ v css, e = .returned v ∧ OwnC 7 31 w' w.heap.size v css ∧ css.length = (canonM rs).length ∧ (∀ j (h1 : j < css.length) (h2 : j < (canonM rs).length), FrAt w' w.heap.size css[j] (canonM rs)[j]) ∧ Below w.heap.size w w'

section
attribute [local go_sem] Oper.semAt_some
set_option maxRecDepth 100000 in
set_option maxHeartbeats 8000000 in
theorem rec_Canon (v : Value) (css : List (List Value)) (rs : List Rc) (w : World) (hA : SlK w v css) (hR : Rcs w css rs) (hOK : ∀ r ∈ rs, RcOK r) (hl : css.length ≤ 1048576) :
    Calls Tryz.prog 19 #[v] w (CanonPost w rs) := by
  have hS := rec_sorted w v css rs (w.alloc (.cells #[.slice none 0 0] 34)) ((Below.refl _ w).alloc (Nat.le_refl _) _) (hA.below ((Below.refl _ w).alloc (Nat.le_refl _) _)) hR hOK (by omega)
  have HL := Lib.hid (show rs.length ≤ 1048576 by have := hR.1; omega)
  have HOK := Lib.hid hOK
  obtain ⟨a, c, rfl, -⟩ := id hA
  obtain ⟨n0, hn0⟩ : ∃ n, css.length = n := ⟨_, rfl⟩
  rw [hn0] at hS ⊢
  clear hA hR hOK hl hn0
  refine (callsIn_wide (n := 8)).1 ?_
  refine callsIn_of_wp_marks Tryz.func19 rfl trivial ?_ rfl
  simp only [Tryz.ntmps19, List.size_toArray, List.length_cons, List.length_nil, Nat.reduceAdd, Nat.reduceSub, Array.replicate_succ, Array.replicate_zero, List.push_toArray, List.append_toArray, List.nil_append, List.cons_append]
  gi_wp2_with (refine ⟨trivial, ?_⟩; gi_at_call 46; refine (callsIn_wide.2 hS).mono ?_; rintro e w1 ⟨v1, css1, rfl, hA1, hR1, hb1, hB1⟩; obtain ⟨a1, c1, rfl, -⟩ := id hA1; obtain ⟨m, hm⟩ : ∃ m, css1.length = m := ⟨_, rfl⟩; rw [hm] at hA1 hb1 ⊢; have HA1 := Lib.hid hA1; have HR1 := Lib.hid hR1; have Hb1 := Lib.hid hb1; have HB1 := Lib.hid hB1; have HM := Lib.hid hm; clear hA1 hR1 hb1 hB1 hm hS)
  refine ⟨trivial, ?_⟩
  refine (callsIn_wide.2 (rec_runs _ _ _ _)).mono ?_
  rintro e w2 ⟨rfl, rfl⟩
  gi_wp2
  obtain ⟨B, hB⟩ : ∃ B, w.heap.size = B := ⟨_, rfl⟩
  obtain ⟨W0, hW0⟩ : ∃ W0, (w1.alloc (.cells #[.slice a1 m c1] 34)).alloc (.cells #[.func (.func 15) #[] #[]] 46) = W0 := ⟨_, rfl⟩
  obtain ⟨N, hN⟩ : ∃ N, W0.heap.size = N := ⟨_, rfl⟩
  have hsz : N = w1.heap.size + 2 := by rw [← hN, ← hW0]; simp
  have hs1 : B + 1 ≤ w1.heap.size := by have := HB1.out.size; simp at this; omega
  have hBx : Boxed w1 B 34 (.slice none 0 0) := by
    have h := Boxed.new w 34 (.slice none 0 0)
    rw [hB] at h
    exact (HB1.out.block B (by simp; omega)).trans h
  have hw1 : Below w.heap.size w w1 := (((Below.refl _ w).alloc (Nat.le_refl _) _).trans (HB1.out.mono (by simp)))
  have hB01 : Below w1.heap.size w1 W0 := by rw [← hW0]; exact ((Below.refl _ w1).alloc (Nat.le_refl _) _).alloc (by simp) _
  have b1 : Boxed W0 w1.heap.size 34 (.slice a1 m c1) := by rw [← hW0]; exact (Boxed.new w1 _ _).alloc _
  have b2 : Boxed W0 (w1.heap.size + 1) 46 (.func (.func 15) #[] #[]) := by
    have := Boxed.new (w1.alloc (.cells #[.slice a1 m c1] 34)) 46 (.func (.func 15) #[] #[])
    rw [World.size_alloc] at this
    rw [← hW0]; exact this
  have hBx0 : Boxed W0 B 34 (.slice none 0 0) := (hB01.block B (by omega)).trans hBx
  have hmb : m ≤ 1048576 := by have := HM.out; have := HR1.out.1; have := HL.out; rw [sortM_len] at *; omega
  have hOKs : ∀ r ∈ sortM rs, RcOK r := fun r h => HOK.out r (sortM_in rs r h)
  have hw0 : Below w.heap.size w W0 := hw1.trans (hB01.mono (by omega))
  obtain ⟨g, off, hg, hseq⟩ := runs_stops N B w W0 a1 m c1 w1.heap.size (w1.heap.size + 1) css1 (sortM rs) (HA1.out.below hB01) HM.out hmb HR1.out hOKs hw0 (by omega) hN.symm (by omega) (by omega) (by omega) (by omega) (fun b e => by have := Hb1.out b e; simp at this; omega) b1 b2
  have hsl : m = (sortM rs).length := by rw [← HR1.out.1]; exact HM.out.symm
  have hnc : m ≤ c1 := by
    obtain ⟨a', c', e, h1, _⟩ := HA1.out
    have := HM.out
    cases e; omega
  have hck : ∀ cs ∈ css1, cs.length = 7 := fun cs hc => by
    obtain ⟨i, hi, rfl⟩ := List.mem_iff_getElem.1 hc
    exact (HR1.out.2 i hi (by have := HR1.out.1; omega)).len
  rw [hB, hW0]
  have HSEQ := Lib.hid hseq; have HG := Lib.hid hg; have HSZ := Lib.hid hsz; have HS1 := Lib.hid hs1; have HW0 := Lib.hid hw0; have HMB := Lib.hid hmb; have HOKS := Lib.hid hOKs; have HSL := Lib.hid hsl; have HNC := Lib.hid hnc; have HCK := Lib.hid hck; have HB := Lib.hid hB; have HN := Lib.hid hN
  clear hseq hg hsz hs1 hw0 hmb hOKs hsl hnc hck hBx hw1 hB01 b1 b2 HB1 Hb1 HA1 hW0 hB hN
  refine wpIn_rangeFunc_ownG rfl (by omega) (gf := 96) (lb := #[.pointer (some ⟨w1.heap.size, 0, none⟩), .pointer (some ⟨w1.heap.size + 1, 0, none⟩)]) rfl trivial (enters_of Tryz.func96 (by kernel_rfl) rfl)
    HSEQ.out (fun h k => h.trans k)
    (fun W l o o' hl h h1 h2 => ⟨rfl, rfl, rfl, by simp, fun k a b => World.putObj_heap_other (by have := HN.out; omega)⟩) (Below.refl _ _) (fun _ => rfl)
    (CanI N B W0 (sortM rs)) (fun k pre W => False) (by rw [HN.out]; exact canI_own (by have := HSZ.out; have := HS1.out; omega) (by rw [HN.out]; omega)) (fun _ => ownFrom_pure _ _)
    ⟨KpX.refl _ _ _, .slice none 0 0, [], hBx0, OwnK.nil _ _, rfl, fun j h => by simp at h⟩
    (fun x => { tmps := #[.slice a n0 c, undef, .slice none 0 0, .pointer (some ⟨B, 0, none⟩), .slice (some ⟨g, off + x.1.1 * 7, none⟩) (x.1.2 - x.1.1) (c1 - x.1.1), undef, .slice a n0 c, .slice a1 m c1, .func (.func 96) #[] #[.pointer (some ⟨w1.heap.size, 0, none⟩), .pointer (some ⟨w1.heap.size + 1, 0, none⟩)], .slice (some ⟨g, off + x.1.1 * 7, none⟩) (x.1.2 - x.1.1) (c1 - x.1.1), undef, undef, undef, undef, undef, undef, undef, undef, undef, undef, undef, undef], defers := [] }) ?assign ?body ?done ?stop
  case assign =>
    intro l x W K hK
    unfold segV
    gi_wp2
    exact hK
  case body =>
    rintro l pre ⟨⟨s, e⟩, hx1, hx2⟩ W ⟨hK, v, css, hb, ho, hl, hf⟩ hlt
    simp only at hx1 hx2
    have hs1 : s < css1.length := by rw [HM.out]; omega
    have hs2 : s < (sortM rs).length := by have := HSL.out; omega
    obtain ⟨ha, hgW, hgB, hcW⟩ := HG.out (by omega)
    subst ha
    have hNW : N ≤ W.heap.size := by rw [← HN.out]; exact hK.size
    have hgN : g < N := by rw [← HN.out]; exact hgW
    have hwW : Below w.heap.size w W := HW0.out.trans (hK.below (by have := HB.out; omega) (by have := HN.out; have := HW0.out.size; omega))
    have hRW : Rcs W css1 (sortM rs) := ⟨HR1.out.1, fun i h1 h2 => (HR1.out.2 i h1 h2).below hwW⟩
    have hpc := SlK.cut (W := W) HCK.out HM.out HNC.out (by omega) (fun j u hj => (World.cell?_of_block (a := ⟨g, off + j, none⟩) (hK.block g hgN hgB)).trans (hcW j u hj)) s e hx1 hx2
    have hpr := hRW.cut s (e - s)
    obtain ⟨y, r, hyr, hy, hrun⟩ := runR_at (rs := sortM rs) hx1 (by rw [← HSL.out]; exact hx2)
    have hyok : RcOK y := by rw [hy]; exact HOKS.out _ (List.getElem_mem _)
    have hrok : ∀ z ∈ y :: r, RcOK z := fun z hz => HOKS.out z (by rw [← hyr] at hz; exact List.mem_of_mem_drop (List.mem_of_mem_take hz))
    have hplen : ((css1.drop s).take (e - s)).length = e - s := by rw [List.length_take, List.length_drop]; have := HM.out; omega
    have hpck : ∀ cs ∈ (css1.drop s).take (e - s), cs.length = 7 := fun cs h => HCK.out cs (List.mem_of_mem_drop (List.mem_of_mem_take h))
    rw [hyr] at hpr
    generalize (css1.drop s).take (e - s) = pcs at hpc hpr hplen hpck
    obtain ⟨L, hL⟩ : ∃ L, e - s = L + 1 := ⟨e - s - 1, by omega⟩
    obtain ⟨off2, hoff⟩ : ∃ o, off + s * 7 = o := ⟨_, rfl⟩
    obtain ⟨c2, hc2⟩ : ∃ o, c1 - s = o := ⟨_, rfl⟩
    have hL20 : L + 1 ≤ 1048576 := by have := HMB.out; omega
    simp only [hL, hoff, hc2]
    rw [hL, hoff, hc2] at hpc
    rw [hL] at hplen
    obtain ⟨g', off', ea, hgl, hel⟩ := hpc.elem hpck (by omega)
    cases ea
    have hR0 : RcAt W (pcs[0]'(by omega)) y := hpr.2 0 (by omega) (by simp)
    have HFr := Lib.hid (rec_fresh _ y W hR0 hyok)
    obtain ⟨⟨p0, q0, r0⟩, ⟨p3, q3, r3⟩, ⟨p4, q4, r4⟩, ⟨p5, q5, r5⟩, ⟨p6, q6, r6⟩, e0⟩ := hR0.shape
    simp only at e0
    have hcell := hel 0 (by omega) _ _ _ _ _ _ _ e0 W (Below.refl _ _)
    simp only [Nat.zero_mul, Nat.add_zero] at hcell
    obtain ⟨g0, g1, g2, g3, g4, g5, g6⟩ := hcell
    rw [e0] at HFr
    have HLeast := Lib.hid (fun W' (hb : Below W.heap.size W W') => rec_least _ pcs y r W' (hpc.below hb) (hpr.below hb) hrok (by omega))
    have HK := Lib.hid hK; have HBX := Lib.hid hb; have HOW := Lib.hid ho; have HLEN := Lib.hid hl; have HF := Lib.hid hf; have HRUN := Lib.hid hrun; have HPRE := Lib.hid hlt; have HNW := Lib.hid hNW
    have hLz : (0 : Int) < ((L + 1 : Nat) : Int) := by omega
    clear hK hb ho hl hf hrun hlt hs1 hs2 hgW hgB hcW hNW hgN hwW hRW hpc hpr hyr hy hyok hrok hplen hpck hL hoff hc2 hgl hel hR0 e0 hBx0 HSEQ HG HSZ HS1 HL HOK HR1 HM HOKS HSL HNC HCK HN
    gi_wp2_with (refine ⟨trivial, ?_⟩; gi_at_call 47; refine (CallsIn.inRound l (callsIn_wide.2 HFr.out)).mono ?_; rintro e w2 ⟨cs, rfl, hfr, hb2⟩; obtain ⟨⟨i0, j0, k0⟩, ⟨i3, j3, k3⟩, ⟨i4, j4, k4⟩, ⟨i5, j5, k5⟩, ⟨i6, j6, k6⟩, e1⟩ := hfr.rcAt.shape; simp only at e1; subst e1; have HFR := Lib.hid hfr; have HB2 := Lib.hid hb2; clear hfr hb2 HFr g0 g1 g2 g3 g4 g5 g6)
    obtain ⟨W3, hW3⟩ : ∃ W3, w2.alloc (.cells #[.slice i0 j0 k0, .int .u32 (y.ttl : Int), .int .i64 y.data.ty, .slice i3 j3 k3, .slice i4 j4 k4, .slice i5 j5 k5, .slice i6 j6 k6] 31) = W3 := ⟨_, rfl⟩
    have hx3 : W3.heap[w2.heap.size]? = some (.cells #[.slice i0 j0 k0, .int .u32 (y.ttl : Int), .int .i64 y.data.ty, .slice i3 j3 k3, .slice i4 j4 k4, .slice i5 j5 k5, .slice i6 j6 k6] 31) := by rw [← hW3]; exact knew _ _
    have HB3 : Hid (Below W.heap.size W W3) := by rw [← hW3]; exact Lib.hid (HB2.out.alloc HB2.out.size _)
    have HFR3 : Hid (FrAt W3 W.heap.size [.slice i0 j0 k0, .int .u32 (y.ttl : Int), .int .i64 y.data.ty, .slice i3 j3 k3, .slice i4 j4 k4, .slice i5 j5 k5, .slice i6 j6 k6] y) := by rw [← hW3]; exact Lib.hid (HFR.out.below ((Below.refl _ w2).alloc (Nat.le_refl _) _))
    rw [hW3]
    have HW2 := Lib.hid HB2.out.size
    obtain ⟨t, ht⟩ : ∃ t, leastM y.ttl r = t := ⟨_, rfl⟩
    have hle := HLeast.out W3 HB3.out
    rw [ht] at hle HRUN
    clear HB2 HFR hW3 HLeast
    refine ⟨trivial, ?_⟩
    refine (CallsIn.inRound l (callsIn_wide.2 hle)).mono ?_
    rintro e' w4 ⟨rfl, hb4⟩
    have hx4 := (hb4.block _ (kblock_lt hx3)).trans hx3
    have hx5 : (w4.setCell ⟨w2.heap.size, 1, none⟩ (.int .u32 (t : Int))).heap[w2.heap.size]? = some (.cells #[.slice i0 j0 k0, .int .u32 (t : Int), .int .i64 y.data.ty, .slice i3 j3 k3, .slice i4 j4 k4, .slice i5 j5 k5, .slice i6 j6 k6] 31) := kset hx4 1 (.int .u32 (t : Int))
    have hf4 := kfrozen hx4 1
    have hc41 := kcell hx4 1 _ rfl
    have HB5 := Lib.hid ((HB3.out.trans (hb4.mono HB3.out.size)).setCell (p := ⟨w2.heap.size, 1, none⟩) HW2.out (.int .u32 (t : Int)))
    have HFR5 := Lib.hid ((((HFR3.out.below hb4).keepB hx4 1 (.int .u32 (t : Int))).withTTL t).weaken HNW.out)
    have hBx5 : Boxed (w4.setCell ⟨w2.heap.size, 1, none⟩ (.int .u32 (t : Int))) B 34 v := (HB5.out.block B HBX.out.lt).trans HBX.out
    have HOW5 := Lib.hid (OwnK.below HOW.out HB5.out)
    have hbc := Boxed.cell (t := 34) hBx5
    have y0 := kcell hx5 0 _ rfl; have y1 := kcell hx5 1 _ rfl; have y2 := kcell hx5 2 _ rfl; have y3 := kcell hx5 3 _ rfl; have y4 := kcell hx5 4 _ rfl; have y5 := kcell hx5 5 _ rfl; have y6 := kcell hx5 6 _ rfl
    have HBX5 := Lib.hid hBx5
    clear hx3 hx4 hb4 HB3 HFR3 hle hBx5 hx5
    have hlen : css.length + 1 ≤ 1048577 := by have h := HLEN.out; have h2 := HPRE.out; have h3 := HMB.out; rw [List.length_map] at h; omega
    have HLN := Lib.hid hlen
    have hnb : N ≤ (w4.setCell ⟨w2.heap.size, 1, none⟩ (.int .u32 (t : Int))).heap.size := Nat.le_trans HNW.out HB5.out.size
    have HNB := Lib.hid hnb
    clear hlen hnb
    gi_wp2_with (gi_at_builtin; refine wplIn_append_c (w4.setCell ⟨w2.heap.size, 1, none⟩ (.int .u32 (t : Int))) rfl (.tmp 17) (.tmp 19) elem_rec (by decide) rfl N v css rfl HOW5.out [.slice i0 j0 k0, .int .u32 (t : Int), .int .i64 y.data.ty, .slice i3 j3 k3, .slice i4 j4 k4, .slice i5 j5 k5, .slice i6 j6 k6] rfl (by intro u hu; simp only [List.mem_cons, List.not_mem_nil, or_false] at hu; rcases hu with rfl | rfl | rfl | rfl | rfl | rfl | rfl <;> rfl) 1 (by simp [Act.eval]) HNB.out (by have := HLN.out; unfold maxLen; omega) (by have := HLN.out; omega) ?_; intro v6 w6 hown6 hg6; obtain ⟨a9, c9, e9⟩ := OwnK.shape hown6; generalize List.length _ = ln at e9; subst e9; have hne6 : some B ≠ v.ownBlock := HOW5.out.ne_block HBX5.out (by decide); have hBx6 := HBX5.out.kept hg6 hne6; have c6 := hBx6.cell; have f6 := hBx6.frozen; have HBX6 := Lib.hid hBx6; have HOW6 := Lib.hid hown6; have HG6 := Lib.hid hg6; clear hne6 hBx6 hown6 hg6)
    have hK6 : KpX N B W (w6.setCell ⟨B, 0, none⟩ (.slice a9 ln c9)) :=
      ((KpX.of_below HNW.out HB5.out).trans (KpX.grown HNB.out HG6.out (fun r e => .inl (OwnK.base_le HOW5.out r e)))).trans (KpX.grown (Nat.le_trans HNB.out HG6.out.size) (grownBy_set w6 B 0 _) (fun r e => by cases e; exact .inr rfl))
    have hko : KeepsOthers W (w6.setCell ⟨B, 0, none⟩ (.slice a9 ln c9)) :=
      ((KeepsOthers.of_below HB5.out).trans (KeepsOthers.grown_c HOW5.out HG6.out)).trans (KeepsOthers.setCell _ _ _)
    refine ⟨hko.from _, hK6, HK.out.trans hK6, ?_⟩
    rw [List.map_append]
    refine OutAt.snoc HBX5.out HOW5.out HLEN.out (fun j h1 h2 => (HF.out j h1 h2).below HB5.out) ?_ HOW6.out HG6.out
    show FrAt _ N _ (runR (sortM rs) (s, e))
    rw [HRUN.out]
    exact HFR5.out
  case done =>
    rintro D zs W hD hzs ⟨hK, v, css, hb, ho, hl, hf⟩ hD0
    have hc := hb.cell
    rw [hzs] at hl hf
    have hcan : canonM rs = (segs (sortM rs)).map (runR (sortM rs)) := by rw [segs_grp, grp_sortM]
    have HCAN := Lib.hid hcan; have HL2 := Lib.hid hl; have HF2 := Lib.hid hf; have HK2 := Lib.hid hK; have HO2 := Lib.hid ho; have HZS := Lib.hid hzs
    have HD := Lib.hid hD
    clear hcan hl hf hK ho hzs hD
    gi_wp2
    refine ⟨by simp, .inl ⟨_, _, rfl, run_takeDeferred hD0, ?_⟩⟩
    refine ⟨_, results_tmp rfl _ _ _, ?_⟩
    have hr : ∀ r, some D = some r → ∃ o : Obj, W.heap[r]? = some o ∧ o.isCells = false := fun r e => by cases e; exact ⟨_, hD0, rfl⟩
    have hDN : w.heap.size ≤ D := by have := HD.out; have := HW0.out.size; omega
    have hwN : w.heap.size ≤ N := by have := HN.out; have := HW0.out.size; omega
    refine ⟨v, css, rfl, (HO2.out.keptO (grownBy_putObj' W D _) hr).weaken hwN, by rw [HL2.out, HCAN.out, List.length_map], fun j h1 h2 => ?_, ?_⟩
    · have hj : j < (segs (sortM rs)).length := by rw [← HL2.out]; exact h1
      have e : (canonM rs)[j]'h2 = runR (sortM rs) (segs (sortM rs))[j] := by
        simp only [HCAN.out, List.getElem_map]
      rw [e]
      exact ((HF2.out j h1 hj).keptO (grownBy_putObj' W D _) hr).weaken hwN
    · exact below_putO (HW0.out.trans (HK2.out.below (by have := HB.out; omega) hwN)) hDN (Nat.le_refl _)
  case stop =>
    rintro D c3 pre W hD hp hF hK
    exact hF.elim
end
end Go.Proofs.YtfcdajldpnomfaaGreatDoor

/-
  rec.SameRow.
-/
namespace Go.Proofs.YtfcdajldpnomfaaGreatDoor
open Go.RowKit Go.Shelf
set_option maxRecDepth 20000
set_option linter.unusedVariables false
set_option linter.unusedSimpArgs false

theorem sameRowM_len : ∀ (l m : List Rc), l.length ≠ m.length → sameRowM l m = false
  | [], [], h => absurd rfl h
  | [], _ :: _, _ => rfl
  | _ :: _, [], _ => rfl
  | a :: l, b :: m, h => by
    unfold sameRowM
    rw [sameRowM_len l m (by simp at h; omega)]; simp
theorem sameRowM_step {l m : List Rc} (k : Nat) (h1 : k < l.length) (h2 : k < m.length) : sameRowM (l.drop k) (m.drop k) = (twinR l[k] m[k] && sameRowM (l.drop (k + 1)) (m.drop (k + 1))) := by
  rw [List.drop_eq_getElem_cons h1, List.drop_eq_getElem_cons h2]
  rfl

set_option maxRecDepth 100000 in
set_option maxHeartbeats 8000000 in
theorem rec_equal (v u : Value) (css ess : List (List Value)) (l m : List Rc) (w : World) (hA : SlK w v css) (hR : Rcs w css l) (hU : SlK w u ess) (hS : Rcs w ess m) (hOK : ∀ r ∈ l, RcOK r) (hOK2 : ∀ r ∈ m, RcOK r) (hl : css.length ≤ 1048576) (hl2 : ess.length ≤ 1048576) :
    Calls Tryz.prog 53 #[v, u, .func (.func 54) #[] #[]] w fun e w' => e = .returned (.bool (sameRowM l m)) ∧ Below w.heap.size w w' := by
  obtain ⟨a, c, rfl, hc1, hc2, hx⟩ := id hA
  obtain ⟨b, d, rfl, hd1, hd2, hy⟩ := id hU
  obtain ⟨n, hn⟩ : ∃ n, css.length = n := ⟨_, rfl⟩
  obtain ⟨n2, hn2⟩ : ∃ n, ess.length = n := ⟨_, rfl⟩
  have HSA := Lib.hid hA; have HSU := Lib.hid hU; have HR := Lib.hid hR; have HS := Lib.hid hS; have HOK := Lib.hid hOK; have HOK2 := Lib.hid hOK2
  rw [hn] at HSA hc1 hl ⊢
  rw [hn2] at HSU hd1 hl2 ⊢
  have HN := Lib.hid hn; have HN2 := Lib.hid hn2
  have HLA := Lib.hid (show l.length = n by rw [← hn]; exact hR.1.symm)
  have HLB := Lib.hid (show m.length = n2 by rw [← hn2]; exact hS.1.symm)
  obtain ⟨res, hres⟩ : ∃ r, sameRowM l m = r := ⟨_, rfl⟩
  rw [hres]
  have HRES := Lib.hid hres
  clear hA hU hR hS hOK hOK2 hc2 hx hd2 hy hn hn2 hres
  by_cases hnn : n = n2
  · subst hnn
    have HB0 : Hid (Below w.heap.size w w) := Lib.hid (Below.refl _ _)
    go_enter Tryz.func53, Tryz.ntmps53
    go_wp2
    go_loopw [17] (fun vi wr => ∃ (k : Nat), vi = .int .i64 k ∧ k ≤ n ∧ Hid (res = sameRowM (l.drop k) (m.drop k)) ∧ Hid (Below w.heap.size w wr)) (fun vi _ => n - (intOf vi).toNat)
    case atStart => exact ⟨0, rfl, Nat.zero_le _, Lib.hid HRES.out.symm, HB0⟩
    case round =>
      obtain ⟨k, rfl, hk, HC, HB⟩ := hrel
      by_cases hlt : k < n
      · have hltz : (k : Int) < (n : Int) := by omega
        have hk1 : k < css.length := by have := HN.out; omega
        have hk2 : k < ess.length := by have := HN2.out; omega
        have hk3 : k < l.length := by have := HLA.out; omega
        have hk4 : k < m.length := by have := HLB.out; omega
        obtain ⟨ga, oa, rfl, hga, hea⟩ := HSA.out.elem HR.out.ck (by omega)
        obtain ⟨gb, ob, rfl, hgb, heb⟩ := HSU.out.elem HS.out.ck (by omega)
        have h0 := HR.out.2 k hk1 hk3
        have h1 := HS.out.2 k hk2 hk4
        have hok := HOK.out _ (List.getElem_mem hk3)
        have hok2 := HOK2.out _ (List.getElem_mem hk4)
        have hst := sameRowM_step k hk3 hk4
        obtain ⟨ra, hra⟩ : ∃ r, l[k]'hk3 = r := ⟨_, rfl⟩
        obtain ⟨rb, hrb⟩ : ∃ r, m[k]'hk4 = r := ⟨_, rfl⟩
        rw [hra] at h0 hok hst
        rw [hrb] at h1 hok2 hst
        clear hra hrb
        have htw := fun W (hb : Below w.heap.size w W) => rec_twin _ _ _ _ W (h0.below hb) (h1.below hb) hok hok2
        obtain ⟨⟨p0, q0, r0⟩, ⟨p3, q3, r3⟩, ⟨p4, q4, r4⟩, ⟨p5, q5, r5⟩, ⟨p6, q6, r6⟩, e0⟩ := h0.shape
        obtain ⟨⟨p0', q0', r0'⟩, ⟨p3', q3', r3'⟩, ⟨p4', q4', r4'⟩, ⟨p5', q5', r5'⟩, ⟨p6', q6', r6'⟩, e1⟩ := h1.shape
        simp only at e0 e1
        obtain ⟨c0, c1, c2, c3, c4, c5, c6⟩ := hea k hk1 _ _ _ _ _ _ _ e0 wr HB.out
        obtain ⟨d0, d1, d2, d3, d4, d5, d6⟩ := heb k hk2 _ _ _ _ _ _ _ e1 (wr.alloc (.cells #[.slice p0 q0 r0, .int .u32 (ra.ttl : Int), .int .i64 ra.data.ty, .slice p3 q3 r3, .slice p4 q4 r4, .slice p5 q5 r5, .slice p6 q6 r6] 31)) (HB.out.alloc HB.out.size _)
        rw [e0, e1] at htw
        obtain ⟨tw, htw'⟩ : ∃ t, twinR ra rb = t := ⟨_, rfl⟩
        rw [htw'] at htw hst
        have HTW := Lib.hid htw
        have HST := Lib.hid hst
        clear h0 h1 hok hok2 htw hst e0 e1 htw' hea heb hk1 hk2 hk3 hk4
        go_wp2_with fail
        have HBW := Lib.hid ((HB.out.alloc HB.out.size (.cells #[.slice p0 q0 r0, .int .u32 (ra.ttl : Int), .int .i64 ra.data.ty, .slice p3 q3 r3, .slice p4 q4 r4, .slice p5 q5 r5, .slice p6 q6 r6] 31)).alloc (by have := HB.out.size; simp; omega) (.cells #[.slice p0' q0' r0', .int .u32 (rb.ttl : Int), .int .i64 rb.data.ty, .slice p3' q3' r3', .slice p4' q4' r4', .slice p5' q5' r5', .slice p6' q6' r6'] 31))
        refine (HTW.out _ HBW.out).mono ?_
        rintro e w2 ⟨rfl, hb2⟩
        have HB2 := Lib.hid (HBW.out.trans (hb2.mono HBW.out.size))
        have HC2 : Hid (res = (tw && sameRowM (l.drop (k + 1)) (m.drop (k + 1)))) := Lib.hid (by rw [HC.out, HST.out])
        clear hb2 HC HST HTW HBW HB c0 c1 c2 c3 c4 c5 c6 d0 d1 d2 d3 d4 d5 d6
        cases tw
        · have HE : Hid (res = false) := Lib.hid (by rw [HC2.out]; rfl)
          clear HC2
          go_wp2
          go_ret
          exact ⟨by rw [HE.out]; rfl, HB2.out⟩
        · have HE : Hid (res = sameRowM (l.drop (k + 1)) (m.drop (k + 1))) := Lib.hid (by rw [HC2.out]; rfl)
          clear HC2
          go_wp2
          go_roundw
          case measure => simp [intOf]; omega
          case rel => exact ⟨k + 1, by go_num, by omega, HE, HB2⟩
      · obtain rfl : k = n := by omega
        have HE : Hid (res = true) := Lib.hid (by
          rw [HC.out, List.drop_of_length_le (by have := HLA.out; omega), List.drop_of_length_le (by have := HLB.out; omega)]; rfl)
        clear HC
        go_wp2
        go_ret
        exact ⟨by rw [HE.out]; rfl, HB.out⟩
  · have hz : ¬ (n : Int) = (n2 : Int) := by omega
    have hzb : ((n : Int) != (n2 : Int)) = true := by simpa using hz
    have HE : Hid (res = false) := Lib.hid (by rw [← HRES.out]; exact sameRowM_len _ _ (by have := HLA.out; have := HLB.out; omega))
    go_enter Tryz.func53, Tryz.ntmps53
    go_wp2
    go_ret
    exact ⟨by rw [HE.out]; rfl, Below.refl _ _⟩
set_option maxRecDepth 100000 in
set_option maxHeartbeats 8000000 in
theorem rec_SameRow (v u : Value) (css ess : List (List Value)) (l m : List Rc) (w : World) (hA : SlK w v css) (hR : Rcs w css l) (hU : SlK w u ess) (hS : Rcs w ess m) (hOK : ∀ r ∈ l, RcOK r) (hOK2 : ∀ r ∈ m, RcOK r) (hl : css.length ≤ 1048576) (hl2 : ess.length ≤ 1048576) :
    Calls Tryz.prog 22 #[v, u] w fun e w' => e = .returned (.bool (sameRowM l m)) ∧ Below w.heap.size w w' := by
  have hc := rec_equal v u css ess l m w hA hR hU hS hOK hOK2 hl hl2
  obtain ⟨a, c, rfl, -⟩ := id hA
  obtain ⟨b, d, rfl, -⟩ := id hU
  generalize css.length = n at *
  generalize ess.length = n2 at *
  generalize sameRowM l m = r at *
  clear hA hR hU hS hOK hOK2
  go_enter Tryz.func22, Tryz.ntmps22
  go_wp2_with fail
  refine hc.mono ?_
  rintro e w2 ⟨rfl, hb2⟩
  go_wp2
  go_ret
  exact ⟨rfl, hb2⟩
end Go.Proofs.YtfcdajldpnomfaaGreatDoor

/-
  law5.known holds.
-/
namespace Go.Proofs.YtfcdajldpnomfaaGreatDoor
open Go.RowKit Go.Shelf
set_option maxRecDepth 20000
set_option linter.unusedVariables false
set_option linter.unusedSimpArgs false

def knD : Dat := ⟨1, [], [], [], [1, 2, 3, 4]⟩
def knRa : Rc := ⟨[[65]], 5, knD⟩
def knRb : Rc := ⟨[[97]], 3, knD⟩
def knRc : Rc := ⟨[], 3, knD⟩
theorem kn_canon : canonM [knRa, knRc, knRb] = [knRc, ⟨[[65]], 3, knD⟩] := by rfl
theorem kn_samer : sameR knRa knRb = true := by decide
theorem kn_cmpr : compareR knRc knRa = -1 := by decide
theorem kn_textr : textR knRa = [65, 46, 32, 53, 32, 73, 78, 32, 65, 32, 49, 46, 50, 46, 51, 46, 52] := by decide +kernel
theorem kn_checkr : checkR knRa = 0 := by decide
theorem slAt_blk {W : World} {g : Nat} {l : List Value} {T : TypeId} (h : W.heap[g]? = some (.cells l.toArray T)) : SlAt W (.slice (some ⟨g, 0, none⟩) l.length l.length) l := by
  refine ⟨_, _, rfl, Nat.le_refl _, (fun e => by cases e), .inr ⟨g, 0, rfl, kblock_lt h, fun j hj => ?_⟩⟩
  have := kcell h j l[j] (by simp)
  rw [Nat.zero_add]; exact this
theorem slK_blk {W : World} {g : Nat} {css : List (List Value)} {T : TypeId} (h : W.heap[g]? = some (.cells css.flatten.toArray T)) : SlK W (.slice (some ⟨g, 0, none⟩) css.length css.length) css := by
  refine ⟨_, _, rfl, Nat.le_refl _, (fun e => by cases e), .inr ⟨g, 0, rfl, kblock_lt h, fun j u hj => ?_⟩⟩
  have := kcell h j u (by simpa using hj)
  rw [Nat.zero_add]; exact this
theorem knD_ok : DatOK knD := ⟨⟨by decide, by decide⟩, by decide, (fun n h => by cases h), by decide, (fun n h => by cases h), ⟨by decide, (fun n h => by cases h)⟩, by decide⟩
theorem kn_ok : ∀ r ∈ [knRa, knRc, knRb], RcOK r := by
  intro r hr
  simp only [List.mem_cons, List.not_mem_nil, or_false] at hr
  rcases hr with rfl | rfl | rfl
  · exact ⟨⟨by decide, by decide⟩, by decide, knD_ok⟩
  · exact ⟨⟨by decide, by decide⟩, by decide, knD_ok⟩
  · exact ⟨⟨by decide, by decide⟩, by decide, knD_ok⟩
/-- A record of the literals. -/
theorem kn_rcAt {W : World} {vo : Value} {g : Nat} {n : Nm} {t : Nat} (h1 : NmAt W vo n) (h2 : SlAt W (.slice (some ⟨g, 0, none⟩) 4 4) ([1, 2, 3, 4].map bv)) : RcAt W [vo, .int .u32 (t : Int), .int .i64 1, .slice none 0 0, .slice none 0 0, .slice none 0 0, .slice (some ⟨g, 0, none⟩) 4 4] ⟨n, t, knD⟩ :=
  ⟨_, _, _, _, _, rfl, h1, _, _, _, _, rfl, NmsAt.nil _, SlAt.nil _, nm_nil _, h2⟩
/-- What eight objects laid one after another leave. -/
theorem kn_eight (w W : World) (o0 o1 o2 o3 o4 o5 o6 o7 : Obj) (hW : (((((((w.alloc o0).alloc o1).alloc o2).alloc o3).alloc o4).alloc o5).alloc o6).alloc o7 = W) :
    W.heap[w.heap.size]? = some o0 ∧ W.heap[w.heap.size + 1]? = some o1 ∧ W.heap[w.heap.size + 1 + 1]? = some o2 ∧ W.heap[w.heap.size + 1 + 1 + 1]? = some o3 ∧ W.heap[w.heap.size + 1 + 1 + 1 + 1]? = some o4 ∧ W.heap[w.heap.size + 1 + 1 + 1 + 1 + 1]? = some o5 ∧ W.heap[w.heap.size + 1 + 1 + 1 + 1 + 1 + 1]? = some o6 ∧ W.heap[w.heap.size + 1 + 1 + 1 + 1 + 1 + 1 + 1]? = some o7 ∧ Below w.heap.size w W := by
  subst hW
  have step : ∀ (X : World) (k : Nat) (o o' : Obj), X.heap[k]? = some o → (X.alloc o').heap[k]? = some o := fun X k o o' h => (Below.heap_alloc X o' k (kblock_lt h)).trans h
  have new : ∀ (X : World) (o : Obj) (k : Nat), X.heap.size = k → (X.alloc o).heap[k]? = some o := fun X o k h => by subst h; exact knew X o
  refine ⟨step _ _ _ _ (step _ _ _ _ (step _ _ _ _ (step _ _ _ _ (step _ _ _ _ (step _ _ _ _ (step _ _ _ _ (new _ _ _ rfl))))))), step _ _ _ _ (step _ _ _ _ (step _ _ _ _ (step _ _ _ _ (step _ _ _ _ (step _ _ _ _ (new _ _ _ (by simp))))))), step _ _ _ _ (step _ _ _ _ (step _ _ _ _ (step _ _ _ _ (step _ _ _ _ (new _ _ _ (by simp)))))), step _ _ _ _ (step _ _ _ _ (step _ _ _ _ (step _ _ _ _ (new _ _ _ (by simp))))), step _ _ _ _ (step _ _ _ _ (step _ _ _ _ (new _ _ _ (by simp)))), step _ _ _ _ (step _ _ _ _ (new _ _ _ (by simp))), step _ _ _ _ (new _ _ _ (by simp)), new _ _ _ (by simp), ?_⟩
  exact (((((((((Below.refl _ w).alloc (Nat.le_refl _) _).alloc (by simp) _).alloc (by simp; omega) _).alloc (by simp; omega) _).alloc (by simp; omega) _).alloc (by simp; omega) _).alloc (by simp; omega) _).alloc (by simp; omega) _)
theorem kn_shape {W : World} {base : Nat} {cs : List Value} {r : Rc} {n0 n3 : Nat} {t : Nat} (h : FrAt W base cs r) (e0 : r.owner.length = n0) (e1 : r.data.names.length = n3) (et : r.ttl = t) (ed : r.data = knD) (en : n3 = 0) :
    ∃ z0 z3 z4 z5 z6 y0 y3 y4 y5 y6, cs = [.slice z0 n0 y0, .int .u32 (t : Int), .int .i64 1, .slice z3 0 y3, .slice z4 0 y4, .slice z5 0 y5, .slice z6 4 y6] := by
  obtain ⟨vo, vn, vu, vt, vr, e, h1, ⟨⟨vs, k1, k2, _⟩, i1, i2, i3⟩⟩ := h
  obtain ⟨z0, y0, f0⟩ := h1.shape
  obtain ⟨z3, y3, f3⟩ := k1.shape
  obtain ⟨z4, y4, f4⟩ := i1.shape
  obtain ⟨z5, y5, f5⟩ := i2.shape
  obtain ⟨z6, y6, f6⟩ := i3.shape
  rw [k2, e1, en] at f3
  rw [e0] at f0
  rw [ed] at f4 f5 f6
  refine ⟨z0, z3, z4, z5, z6, y0, y3, y4, y5, y6, ?_⟩
  rw [e, f0, f3, f4, f5, f6, et, ed]
  rfl
theorem kn_rcs2 {W : World} {x y : List Value} {a b : Rc} (h : RcAt W x a) (k : RcAt W y b) : Rcs W [x, y] [a, b] := by
  refine ⟨rfl, fun i h1 h2 => ?_⟩
  match i, h1 with
  | 0, _ => exact h
  | 1, _ => exact k
theorem kn_rcs1 {W : World} {x : List Value} {a : Rc} (h : RcAt W x a) : Rcs W [x] [a] := by
  refine ⟨rfl, fun i h1 h2 => ?_⟩
  match i, h1 with
  | 0, _ => exact h
theorem kn_take {W : World} {g off n c : Nat} {x y : List Value} (h : SlK W (.slice (some ⟨g, off, none⟩) n c) [x, y]) (hn : n = 2) (hx : x.length = 7) (hy : y.length = 7) : SlK W (.slice (some ⟨g, off, none⟩) 1 c) [x] := by
  obtain ⟨a', c', e, h1, h2, h3⟩ := h
  cases e
  rcases h3 with h3 | ⟨b, o, e, hlt, hc⟩
  · cases h3
  · cases e
    refine ⟨_, _, rfl, by simp only [List.length_cons, List.length_nil] at h1 ⊢; omega, (fun e => by cases e), .inr ⟨g, off, rfl, hlt, fun j u hj => hc j u ?_⟩⟩
    simp only [List.flatten_cons, List.flatten_nil, List.append_nil] at hj ⊢
    obtain ⟨hl, _⟩ := List.getElem?_eq_some_iff.1 hj
    rw [List.getElem?_append_left hl]; exact hj
theorem kn_ok2 : ∀ r ∈ [knRc, ⟨[[65]], 3, knD⟩], RcOK r := by
  intro r hr
  simp only [List.mem_cons, List.not_mem_nil, or_false] at hr
  rcases hr with rfl | rfl
  · exact ⟨⟨by decide, by decide⟩, by decide, knD_ok⟩
  · exact ⟨⟨by decide, by decide⟩, by decide, knD_ok⟩
set_option maxRecDepth 100000 in
set_option maxHeartbeats 16000000 in
theorem law5_known (w : World) (hT : Tab w) (hZ : TabZ w) :
    Calls Tryz.prog 8 #[] w fun e w' => e = .returned (.bool true) ∧ Below w.heap.size w w' := by
  have HT := Lib.hid hT
  have HZ := Lib.hid hZ
  clear hT hZ
  go_enter Tryz.func8, Tryz.ntmps8
  go_wp2_with fail
  obtain ⟨n, hn⟩ : ∃ n, w.heap.size = n := ⟨_, rfl⟩
  obtain ⟨W, hW⟩ : ∃ W, ((((((((w.alloc (.cells #[.string ⟨#[65]⟩] 9)).alloc (.cells #[.int .u8 1, .int .u8 2, .int .u8 3, .int .u8 4] 5)).alloc (.cells #[.slice (some ⟨n, 0, none⟩) 1 1, .int .u32 5, .int .i64 1, .slice none 0 0, .slice none 0 0, .slice none 0 0, .slice (some ⟨n + 1, 0, none⟩) 4 4] 31)).alloc (.cells #[.string ⟨#[97]⟩] 9)).alloc (.cells #[.slice (some ⟨n + 1 + 1 + 1, 0, none⟩) 1 1, .int .u32 3, .int .i64 1, .slice none 0 0, .slice none 0 0, .slice none 0 0, .slice (some ⟨n + 1, 0, none⟩) 4 4] 31)).alloc (.cells #[] 9)).alloc (.cells #[.slice (some ⟨n + 1 + 1 + 1 + 1 + 1, 0, none⟩) 0 0, .int .u32 3, .int .i64 1, .slice none 0 0, .slice none 0 0, .slice none 0 0, .slice (some ⟨n + 1, 0, none⟩) 4 4] 31)).alloc (.cells #[.slice (some ⟨n, 0, none⟩) 1 1, .int .u32 5, .int .i64 1, .slice none 0 0, .slice none 0 0, .slice none 0 0, .slice (some ⟨n + 1, 0, none⟩) 4 4, .slice (some ⟨n + 1 + 1 + 1 + 1 + 1, 0, none⟩) 0 0, .int .u32 3, .int .i64 1, .slice none 0 0, .slice none 0 0, .slice none 0 0, .slice (some ⟨n + 1, 0, none⟩) 4 4, .slice (some ⟨n + 1 + 1 + 1, 0, none⟩) 1 1, .int .u32 3, .int .i64 1, .slice none 0 0, .slice none 0 0, .slice none 0 0, .slice (some ⟨n + 1, 0, none⟩) 4 4] 31)) = W := ⟨_, rfl⟩
  obtain ⟨k0, k1, k2, k3, k4, k5, k6, k7, hB⟩ := kn_eight w W _ _ _ _ _ _ _ _ hW
  rw [hn] at k0 k1 k2 k3 k4 k5 k6 k7
  have hN0 : NmAt W (.slice (some ⟨n, 0, none⟩) 1 1) [[65]] := nmAt_sl.2 (slAt_blk (l := [.string ⟨#[65]⟩]) k0)
  have hN3 : NmAt W (.slice (some ⟨n + 1 + 1 + 1, 0, none⟩) 1 1) [[97]] := nmAt_sl.2 (slAt_blk (l := [.string ⟨#[97]⟩]) k3)
  have hN5 : NmAt W (.slice (some ⟨n + 1 + 1 + 1 + 1 + 1, 0, none⟩) 0 0) [] := nmAt_sl.2 (slAt_blk (l := []) k5)
  have hD : SlAt W (.slice (some ⟨n + 1, 0, none⟩) 4 4) ([1, 2, 3, 4].map bv) := slAt_blk (l := [.int .u8 1, .int .u8 2, .int .u8 3, .int .u8 4]) k1
  have hK : SlK W (.slice (some ⟨n + 1 + 1 + 1 + 1 + 1 + 1 + 1, 0, none⟩) 3 3) [[.slice (some ⟨n, 0, none⟩) 1 1, .int .u32 ((5 : Nat) : Int), .int .i64 1, .slice none 0 0, .slice none 0 0, .slice none 0 0, .slice (some ⟨n + 1, 0, none⟩) 4 4], [.slice (some ⟨n + 1 + 1 + 1 + 1 + 1, 0, none⟩) 0 0, .int .u32 ((3 : Nat) : Int), .int .i64 1, .slice none 0 0, .slice none 0 0, .slice none 0 0, .slice (some ⟨n + 1, 0, none⟩) 4 4], [.slice (some ⟨n + 1 + 1 + 1, 0, none⟩) 1 1, .int .u32 ((3 : Nat) : Int), .int .i64 1, .slice none 0 0, .slice none 0 0, .slice none 0 0, .slice (some ⟨n + 1, 0, none⟩) 4 4]] := slK_blk (css := [[.slice (some ⟨n, 0, none⟩) 1 1, .int .u32 ((5 : Nat) : Int), .int .i64 1, .slice none 0 0, .slice none 0 0, .slice none 0 0, .slice (some ⟨n + 1, 0, none⟩) 4 4], [.slice (some ⟨n + 1 + 1 + 1 + 1 + 1, 0, none⟩) 0 0, .int .u32 ((3 : Nat) : Int), .int .i64 1, .slice none 0 0, .slice none 0 0, .slice none 0 0, .slice (some ⟨n + 1, 0, none⟩) 4 4], [.slice (some ⟨n + 1 + 1 + 1, 0, none⟩) 1 1, .int .u32 ((3 : Nat) : Int), .int .i64 1, .slice none 0 0, .slice none 0 0, .slice none 0 0, .slice (some ⟨n + 1, 0, none⟩) 4 4]]) k7
  have rA : RcAt W [.slice (some ⟨n, 0, none⟩) 1 1, .int .u32 ((5 : Nat) : Int), .int .i64 1, .slice none 0 0, .slice none 0 0, .slice none 0 0, .slice (some ⟨n + 1, 0, none⟩) 4 4] knRa := kn_rcAt hN0 hD
  have rC : RcAt W [.slice (some ⟨n + 1 + 1 + 1 + 1 + 1, 0, none⟩) 0 0, .int .u32 ((3 : Nat) : Int), .int .i64 1, .slice none 0 0, .slice none 0 0, .slice none 0 0, .slice (some ⟨n + 1, 0, none⟩) 4 4] knRc := kn_rcAt hN5 hD
  have rB : RcAt W [.slice (some ⟨n + 1 + 1 + 1, 0, none⟩) 1 1, .int .u32 ((3 : Nat) : Int), .int .i64 1, .slice none 0 0, .slice none 0 0, .slice none 0 0, .slice (some ⟨n + 1, 0, none⟩) 4 4] knRb := kn_rcAt hN3 hD
  have hR : Rcs W [[.slice (some ⟨n, 0, none⟩) 1 1, .int .u32 ((5 : Nat) : Int), .int .i64 1, .slice none 0 0, .slice none 0 0, .slice none 0 0, .slice (some ⟨n + 1, 0, none⟩) 4 4], [.slice (some ⟨n + 1 + 1 + 1 + 1 + 1, 0, none⟩) 0 0, .int .u32 ((3 : Nat) : Int), .int .i64 1, .slice none 0 0, .slice none 0 0, .slice none 0 0, .slice (some ⟨n + 1, 0, none⟩) 4 4], [.slice (some ⟨n + 1 + 1 + 1, 0, none⟩) 1 1, .int .u32 ((3 : Nat) : Int), .int .i64 1, .slice none 0 0, .slice none 0 0, .slice none 0 0, .slice (some ⟨n + 1, 0, none⟩) 4 4]] [knRa, knRc, knRb] := by
    refine ⟨rfl, fun i h1 h2 => ?_⟩
    match i, h1 with
    | 0, _ => exact rA
    | 1, _ => exact rC
    | 2, _ => exact rB
  have hc := rec_Canon _ _ _ W hK hR kn_ok (by simp)
  rw [hn, hW]
  have HW := Lib.hid hW; have HNN := Lib.hid hn; have HB := Lib.hid hB; have HRA := Lib.hid rA; have HRB := Lib.hid rB; have HRC := Lib.hid rC
  have K2 := Lib.hid k2; have K4 := Lib.hid k4; have K6 := Lib.hid k6
  clear hW hn hB rA rB rC hR hK hD hN0 hN3 hN5 k0 k1 k2 k3 k4 k5 k6 k7
  refine hc.mono ?_
  rintro e w2 ⟨v2, css2, rfl, ho2, hl2, hf2, hb2⟩
  rw [kn_canon] at hl2 hf2
  obtain ⟨cs0, cs1, rfl⟩ : ∃ x y, css2 = [x, y] := by
    match css2, hl2 with
    | [x, y], _ => exact ⟨x, y, rfl⟩
  have h0 := hf2 0 (by simp) (by simp)
  have h1 := hf2 1 (by simp) (by simp)
  simp only [List.getElem_cons_zero, List.getElem_cons_succ] at h0 h1
  have hK2 : SlK w2 v2 [cs0, cs1] := SlK.of_own ho2 (fun cs hc => by
    simp only [List.mem_cons, List.not_mem_nil, or_false] at hc
    rcases hc with rfl | rfl
    · exact h0.rcAt.len
    · exact h1.rcAt.len)
  obtain ⟨a2, c2, rfl, hc2, -, -⟩ := id hK2
  obtain ⟨g2, off2, rfl, hg2, hel⟩ := hK2.elem (fun cs hc => by
    simp only [List.mem_cons, List.not_mem_nil, or_false] at hc
    rcases hc with rfl | rfl
    · exact h0.rcAt.len
    · exact h1.rcAt.len) (by simp)
  have HK2 := Lib.hid hK2; have H0 := Lib.hid h0; have H1 := Lib.hid h1; have HB2 := Lib.hid hb2
  obtain ⟨z0, z3, z4, z5, z6, y0, y3, y4, y5, y6, rfl⟩ := kn_shape h0 rfl rfl rfl rfl rfl
  obtain ⟨x0, x3, x4, x5, x6, t0, t3, t4, t5, t6, rfl⟩ := kn_shape h1 rfl rfl rfl rfl rfl
  obtain ⟨gn, on, rfl, hgn, hcn⟩ : ∃ g off, x0 = some ⟨g, off, none⟩ ∧ g < w2.heap.size ∧ w2.cell? ⟨g, off, none⟩ = some (.string ⟨#[65]⟩) := by
    obtain ⟨_, _, _, _, _, e5, m1, _⟩ := h1
    simp only [List.cons.injEq, and_true] at e5
    obtain ⟨rfl, -⟩ := e5
    obtain ⟨g, off, e, hl, hc⟩ := StrsAt.cell m1.nmAt.1 (Below.refl _ _) 0 (by decide)
    exact ⟨g, off, e, hl, hc⟩
  have he0 := hel 0 (by simp) _ _ _ _ _ _ _ rfl w2 (Below.refl _ _)
  have he1 := hel 1 (by simp) _ _ _ _ _ _ _ rfl w2 (Below.refl _ _)
  simp only [Nat.zero_mul, Nat.add_zero, Nat.one_mul] at he0 he1
  obtain ⟨i0, i1, i2, i3, i4, i5, i6⟩ := he0
  obtain ⟨l0, l1, l2, l3, l4, l5, l6⟩ := he1
  have hBn : ∀ k, k < n + 1 + 1 + 1 + 1 + 1 + 1 + 1 → k < W.heap.size := fun k hk => by have := kblock_lt K6.out; have h := HB.out.size; omega
  have k2' := (HB2.out.block _ (kblock_lt K2.out)).trans K2.out
  have k4' := (HB2.out.block _ (kblock_lt K4.out)).trans K4.out
  have k6' := (HB2.out.block _ (kblock_lt K6.out)).trans K6.out
  have aa0 := kcell k2' 0 _ rfl; have aa1 := kcell k2' 1 _ rfl; have aa2 := kcell k2' 2 _ rfl; have aa3 := kcell k2' 3 _ rfl; have aa4 := kcell k2' 4 _ rfl; have aa5 := kcell k2' 5 _ rfl; have aa6 := kcell k2' 6 _ rfl
  have bb0 := kcell k4' 0 _ rfl; have bb1 := kcell k4' 1 _ rfl; have bb2 := kcell k4' 2 _ rfl; have bb3 := kcell k4' 3 _ rfl; have bb4 := kcell k4' 4 _ rfl; have bb5 := kcell k4' 5 _ rfl; have bb6 := kcell k4' 6 _ rfl
  clear hel h0 h1 hb2 hK2 ho2 hf2 hl2 hc k2' k4' k6' hBn
  have hsame := rec_Same _ _ _ _ w2 (HRA.out.below HB2.out) (HRB.out.below HB2.out) (kn_ok _ (by simp)) (kn_ok _ (by simp))
  rw [kn_samer] at hsame
  go_wp2_with fail
  refine hsame.mono ?_
  rintro e w3 ⟨rfl, hb3⟩
  have HB3 := Lib.hid (HB2.out.trans (hb3.mono HB2.out.size))
  have HK3 := Lib.hid (HK2.out.below hb3); have H03 := Lib.hid (H0.out.below hb3); have H13 := Lib.hid (H1.out.below hb3)
  have ka := (HB3.out.block _ (kblock_lt K2.out)).trans K2.out
  have kc := (HB3.out.block _ (kblock_lt K6.out)).trans K6.out
  have hcmp := rec_Compare _ _ _ _ w3 (HRC.out.below HB3.out) (HRA.out.below HB3.out) (kn_ok _ (by simp)) (kn_ok _ (by simp))
  rw [kn_cmpr] at hcmp
  clear hsame hb3 HB2 HK2 H0 H1 aa0 aa1 aa2 aa3 aa4 aa5 aa6 bb0 bb1 bb2 bb3 bb4 bb5 bb6 i0 i1 i2 i3 i4 i5 i6 l0 l1 l2 l3 l4 l5 l6 hcn
  have aa0 := kcell (ka) 0 _ rfl; have aa1 := kcell (ka) 1 _ rfl; have aa2 := kcell (ka) 2 _ rfl; have aa3 := kcell (ka) 3 _ rfl; have aa4 := kcell (ka) 4 _ rfl; have aa5 := kcell (ka) 5 _ rfl; have aa6 := kcell (ka) 6 _ rfl
  have cc0 := kcell (kc) 0 _ rfl; have cc1 := kcell (kc) 1 _ rfl; have cc2 := kcell (kc) 2 _ rfl; have cc3 := kcell (kc) 3 _ rfl; have cc4 := kcell (kc) 4 _ rfl; have cc5 := kcell (kc) 5 _ rfl; have cc6 := kcell (kc) 6 _ rfl
  clear ka kc
  go_wp2_with fail
  refine hcmp.mono ?_
  rintro e w4 ⟨rfl, hb4⟩
  have HB4 := Lib.hid (HB3.out.trans (hb4.mono HB3.out.size))
  have HK4 := Lib.hid (HK3.out.below hb4); have H04 := Lib.hid (H03.out.below hb4); have H14 := Lib.hid (H13.out.below hb4)
  have ka := (HB4.out.block _ (kblock_lt K2.out)).trans K2.out
  have hwB : Below w.heap.size w w4 := HB.out.trans (HB4.out.mono HB.out.size)
  have htx := rec_Text _ _ w4 (HRA.out.below HB4.out) (kn_ok _ (by simp)) ⟨knD_ok, by decide, (fun n h => by cases h), by decide, by decide⟩ (HT.out.below hwB) (HZ.out.below hwB) (by rw [kn_textr]; decide)
  rw [kn_textr] at htx
  clear hcmp hb4 HB3 HK3 H03 H13 aa0 aa1 aa2 aa3 aa4 aa5 aa6 cc0 cc1 cc2 cc3 cc4 cc5 cc6 hwB
  have aa0 := kcell (ka) 0 _ rfl; have aa1 := kcell (ka) 1 _ rfl; have aa2 := kcell (ka) 2 _ rfl; have aa3 := kcell (ka) 3 _ rfl; have aa4 := kcell (ka) 4 _ rfl; have aa5 := kcell (ka) 5 _ rfl; have aa6 := kcell (ka) 6 _ rfl
  clear ka
  go_wp2_with fail
  refine htx.mono ?_
  rintro e w5 ⟨rfl, hb5⟩
  have HB5 := Lib.hid (HB4.out.trans (hb5.mono HB4.out.size))
  have HK5 := Lib.hid (HK4.out.below hb5); have H05 := Lib.hid (H04.out.below hb5); have H15 := Lib.hid (H14.out.below hb5)
  have ka := (HB5.out.block _ (kblock_lt K2.out)).trans K2.out
  have hck := rec_Check _ _ w5 (HRA.out.below HB5.out) (kn_ok _ (by simp))
  rw [kn_checkr] at hck
  clear htx hb5 HB4 HK4 H04 H14 aa0 aa1 aa2 aa3 aa4 aa5 aa6
  have aa0 := kcell (ka) 0 _ rfl; have aa1 := kcell (ka) 1 _ rfl; have aa2 := kcell (ka) 2 _ rfl; have aa3 := kcell (ka) 3 _ rfl; have aa4 := kcell (ka) 4 _ rfl; have aa5 := kcell (ka) 5 _ rfl; have aa6 := kcell (ka) 6 _ rfl
  clear ka
  go_wp2_with fail
  refine hck.mono ?_
  rintro e w6 ⟨rfl, hb6⟩
  have HB6 := Lib.hid (HB5.out.trans (hb6.mono HB5.out.size))
  have HK6 := Lib.hid (HK5.out.below hb6); have H06 := Lib.hid (H05.out.below hb6); have H16 := Lib.hid (H15.out.below hb6)
  clear hck hb6 HB5 HK5 H05 H15 aa0 aa1 aa2 aa3 aa4 aa5 aa6
  go_wp2_with fail
  have hR6 := kn_rcs2 H06.out.rcAt H16.out.rcAt
  have hsr := rec_SameRow _ _ _ _ _ _ w6 HK6.out hR6 HK6.out hR6 kn_ok2 kn_ok2 (by simp) (by simp)
  rw [show sameRowM [knRc, ⟨[[65]], 3, knD⟩] [knRc, ⟨[[65]], 3, knD⟩] = true by decide] at hsr
  refine hsr.mono ?_
  rintro e w7 ⟨rfl, hb7⟩
  have HB7 := Lib.hid (HB6.out.trans (hb7.mono HB6.out.size))
  have HK7 := Lib.hid (HK6.out.below hb7); have H07 := Lib.hid (H06.out.below hb7); have H17 := Lib.hid (H16.out.below hb7)
  clear hsr hb7 HB6 HK6 H06 H16 hR6
  have hcz : (1 : Int) ≤ (c2 : Int) := by simp only [List.length_cons, List.length_nil] at hc2; omega
  go_wp2_with fail
  have hR7 := kn_rcs2 H07.out.rcAt H17.out.rcAt
  have hsr := rec_SameRow _ _ _ _ _ _ w7 HK7.out hR7 (kn_take HK7.out (by simp) H07.out.rcAt.len H17.out.rcAt.len) (kn_rcs1 H07.out.rcAt) kn_ok2 (fun r hr => kn_ok2 r (by simp only [List.mem_cons, List.not_mem_nil, or_false] at hr; subst hr; simp)) (by simp) (by simp)
  rw [show sameRowM [knRc, ⟨[[65]], 3, knD⟩] [knRc] = false by decide] at hsr
  refine hsr.mono ?_
  rintro e w8 ⟨rfl, hb8⟩
  have HB8 := Lib.hid (HB7.out.trans (hb8.mono HB7.out.size))
  clear hsr hb8 HB7 HK7 H07 H17 hR7
  go_wp2
  go_ret
  exact ⟨rfl, HB.out.trans (HB8.out.mono HB.out.size)⟩
end Go.Proofs.YtfcdajldpnomfaaGreatDoor

/-
  law5.OfAll: a row of records as the document's.
-/
namespace Go.Proofs.YtfcdajldpnomfaaGreatDoor
open Go.RowKit Go.Shelf
set_option maxRecDepth 20000
set_option linter.unusedVariables false
set_option linter.unusedSimpArgs false

theorem wpl_append_c {S T : TypeId} {k bytes : Nat} {ops : Array Oper} {rest : List Oper} {o : Oper} {a : Act} {Q : Exit → Act → World → Prop} (W : World) (hgd : o.guard = none) (s x : Operand) (hE : ElemK k T S bytes) (hk0 : 0 < k)
    (ho : o.op = .call { callee := .builtin .append, args := #[s, x], argTypes := #[S, S] })
    (base : Nat) (v : Value) (xs : List (List Value)) (hs : a.eval s = v) (hown : OwnC k T W base v xs)
    (cs : List Value) (hcl : cs.length = k) (hc1 : ∀ u ∈ cs, u.oneCell' = true) (c : Nat) (hx : a.eval x = .slice (some ⟨W.heap.size, 0, none⟩) 1 c)
    (hbase : base ≤ W.heap.size) (hk : xs.length + 1 ≤ maxLen) (hk2 : (xs.length + 1) * bytes ≤ 140737488355328)
    (h : ∀ v' w', OwnC k T w' base v' (xs ++ [cs]) → W.grownBy w' v.ownBlock → wpList Tryz.prog ops Q rest (a.put o.dst v') w') :
    wpList Tryz.prog ops Q (o :: rest) a (W.alloc (.cells cs.toArray T)) := by
  obtain ⟨ht, i, z, hi, hz, hz1, hz2, hzc⟩ := hE
  refine wpList_append_own _ hgd s x S ho base T i z k bytes ht hi hz hz1 hz2 hzc hk0 v xs.length (xs.flatMap fun cs => cs) hs (hown.alloc _) ⟨W.heap.size, 0, none⟩ 1 c cs hx (by omega) (cells_new W _ _) hc1 hk hk2 (by simp; omega) ?_
  intro v' w' h1 h2 _
  refine h v' w' ?_ (grownBy_of_alloc h2)
  unfold OwnC OwnK
  rw [List.length_append, List.flatMap_append]
  have e : [cs].flatMap (fun cs => cs) = cs := by simp
  rw [e]
  exact h1
theorem elem_ref : ElemK 7 40 49 136 := ⟨Tryz.underlying49, _, _, rfl, rfl, rfl, rfl, rfl⟩
/-- A row of the document's records. -/
def OfRs (w0 W : World) (base : Nat) (csd : List (List Value)) (l : List Rc) : Prop := csd.length = l.length ∧ ∀ j (h1 : j < csd.length) (h2 : j < l.length), OfR w0 W base csd[j] l[j]
theorem OfRs.snoc {w0 W W' : World} {base : Nat} {v : Value} {csd : List (List Value)} {l : List Rc} {cs : List Value} {r : Rc} (h : OfRs w0 W base csd l) (ho : OwnC 7 40 W base v csd) (hc : OfR w0 W base cs r) (hg : W.grownBy W' v.ownBlock) : OfRs w0 W' base (csd ++ [cs]) (l ++ [r]) := by
  refine ⟨by simp [h.1], fun j a b => ?_⟩
  by_cases hj : j < csd.length
  · rw [List.getElem_append_left hj, List.getElem_append_left (by have := h.1; omega)]
    exact (h.2 j hj (by have := h.1; omega)).grown ho (by decide) hg
  · obtain rfl : j = csd.length := by simp at a; omega
    have e1 : (csd ++ [cs])[csd.length]'a = cs := by simp
    have e2 : (l ++ [r])[csd.length]'b = r := by simp [h.1]
    rw [e1, e2]
    exact hc.grown ho (by decide) hg
theorem OfRs.below {w0 W W' : World} {base : Nat} {csd : List (List Value)} {l : List Rc} (h : OfRs w0 W base csd l) (hb : Below W.heap.size W W') : OfRs w0 W' base csd l := ⟨h.1, fun j a b => (h.2 j a b).below hb⟩
theorem OfR.len {w0 W : World} {base : Nat} {cs : List Value} {r : Rc} (h : OfR w0 W base cs r) : cs.length = 7 := by
  obtain ⟨vo, vn, vu, vt, vr, ss, rfl, _⟩ := h; rfl

def OfAllPost (w0 w : World) (l : List Rc) (e : Ending) (w' : World) : Prop := ∃ v' csd, e = .returned v' ∧ OwnC 7 40 w' w.heap.size v' csd ∧ OfRs w0 w' w.heap.size csd l ∧ Below w.heap.size w w'
set_option maxRecDepth 100000 in
set_option maxHeartbeats 8000000 in
theorem law5_OfAll (w0 : World) (v : Value) (css : List (List Value)) (l : List Rc) (w : World) (hA : SlK w0 v css) (hR : Rcs w0 css l) (hwz : Below w0.heap.size w0 w) (hN : ∀ r ∈ l, r.data.names.length ≤ 1048576) (hl : css.length ≤ 1048576) :
    Calls Tryz.prog 18 #[v] w (OfAllPost w0 w l) := by
  obtain ⟨a, c, rfl, hc1, -, -⟩ := id hA
  obtain ⟨n, hn⟩ : ∃ n, css.length = n := ⟨_, rfl⟩
  rw [hn] at hA hc1 hl ⊢
  have HA := Lib.hid hA; have HR := Lib.hid hR; have HWZ := Lib.hid hwz; have HN := Lib.hid hN; have HLN := Lib.hid hn
  have HLL := Lib.hid (show l.length = n by rw [← hn]; exact hR.1.symm)
  clear hA hR hwz hN hn
  go_enter Tryz.func18, Tryz.ntmps18
  go_wp2
  go_loopw [3, 4] (fun vo vi wr => ∃ (k : Nat) (ga : Option Addr) (gc : Nat) (csd : List (List Value)), vo = .slice ga k gc ∧ vi = .int .i64 k ∧ k ≤ n ∧ Hid (csd.length = k) ∧ Hid (OwnC 7 40 wr w.heap.size (.slice ga k gc) csd) ∧ Hid (OfRs w0 wr w.heap.size csd (l.take k)) ∧ Hid (Below w.heap.size w wr)) (fun _ vi _ => n - (intOf vi).toNat)
  case atStart => exact ⟨0, none, 0, [], rfl, rfl, Nat.zero_le _, Lib.hid rfl, Lib.hid (OwnK.nil _ _), Lib.hid ⟨rfl, fun j h => by simp at h⟩, Lib.hid (Below.refl _ _)⟩
  case round =>
    obtain ⟨k, ga, gc, csd, rfl, rfl, hk, HK, HO, HF, HB⟩ := hrel
    by_cases hlt : k < n
    · have hltz : (k : Int) < (n : Int) := by omega
      have hk1 : k < css.length := by have := HLN.out; omega
      have hk2 : k < l.length := by have := HLL.out; omega
      have hck : ∀ cs ∈ css, cs.length = 7 := fun cs hc => by
        obtain ⟨i, hi, rfl⟩ := List.mem_iff_getElem.1 hc
        exact (HR.out.2 i hi (by have := HR.out.1; omega)).len
      obtain ⟨b, off, rfl, hb, hel⟩ := HA.out.elem hck (by omega)
      have h0 := HR.out.2 k hk1 hk2
      have hnl := HN.out _ (List.getElem_mem hk2)
      have htk : l.take (k + 1) = l.take k ++ [l[k]] := List.take_succ_eq_append_getElem hk2
      obtain ⟨r, hr⟩ : ∃ r, l[k]'hk2 = r := ⟨_, rfl⟩
      rw [hr] at h0 hnl htk
      clear hr
      have HTK := Lib.hid htk
      have hof := law5_Of w0 _ r wr h0 (HWZ.out.trans (HB.out.mono HWZ.out.size)) hnl
      obtain ⟨⟨p0, q0, r0⟩, ⟨p3, q3, r3⟩, ⟨p4, q4, r4⟩, ⟨p5, q5, r5⟩, ⟨p6, q6, r6⟩, e0⟩ := h0.shape
      simp only at e0
      obtain ⟨c0, c1, c2, c3, c4, c5, c6⟩ := hel k hk1 _ _ _ _ _ _ _ e0 wr (HWZ.out.trans (HB.out.mono HWZ.out.size))
      rw [e0] at hof
      clear h0 hnl htk e0 hel hk1 hk2 hck
      go_wp2_with fail
      refine hof.mono ?_
      rintro e w2 ⟨cs2, rfl, hof2, hb2⟩
      have hz2 := HB.out.size
      have HB2 := Lib.hid (HB.out.trans (hb2.mono HB.out.size))
      have HO2 := Lib.hid (OwnK.below HO.out hb2)
      have HF2 := Lib.hid (HF.out.below hb2)
      have HOF := Lib.hid (hof2.weaken hz2)
      obtain ⟨vo, vn, vu, vt, vr, ss, rfl, g1, g2, g3, g4, g5, g6, g7⟩ := hof2
      obtain ⟨a0, d0, rfl, -⟩ := nmAt_sl.1 g1
      obtain ⟨a1, d1, rfl⟩ := g2.shape
      obtain ⟨a2, d2, rfl, -⟩ := id g5
      obtain ⟨a3, d3, rfl, -⟩ := nmAt_sl.1 g6
      obtain ⟨a4, d4, rfl, -⟩ := id g7
      clear g1 g2 g3 g4 g5 g6 g7
      generalize List.length (List.map strV r.owner) = m0 at *
      generalize ss.length = m1 at *
      generalize List.length (List.map u32V r.data.nums) = m2 at *
      generalize List.length (List.map strV r.data.texts) = m3 at *
      generalize List.length (List.map bv r.data.raw) = m4 at *
      have HSZ := Lib.hid HB2.out.size
      clear hb2 hof c0 c1 c2 c3 c4 c5 c6 HO HF HB
      go_wp2_with (at_builtin; refine wpl_append_c w2 rfl (.tmp 11) (.tmp 17) elem_ref (by decide) rfl w.heap.size (.slice ga k gc) csd rfl HO2.out [.slice a0 m0 d0, .int .u32 (r.ttl : Int), .int .i64 r.data.ty, .slice a1 m1 d1, .slice a2 m2 d2, .slice a3 m3 d3, .slice a4 m4 d4] rfl (by intro u hu; simp only [List.mem_cons, List.not_mem_nil, or_false] at hu; rcases hu with rfl | rfl | rfl | rfl | rfl | rfl | rfl <;> rfl) 1 (by rfl) HSZ.out (by have := HK.out; unfold maxLen; omega) (by have := HK.out; omega) ?_; intro v3 w3 hown3 hg3)
      have HF3 := Lib.hid (HF2.out.snoc HO2.out HOF.out hg3)
      have HB3 := Lib.hid (HB2.out.grown hg3 HSZ.out (OwnK.base_le HO2.out))
      obtain ⟨a9, c9, e9⟩ := OwnK.shape hown3
      rw [List.length_append, HK.out] at e9
      simp only [List.length_cons, List.length_nil, Nat.zero_add] at e9
      subst e9
      have HO3 := Lib.hid hown3
      clear hg3 hown3
      go_roundw
      case measure => simp [intOf]; omega
      case rel => exact ⟨k + 1, a9, c9, _, rfl, by go_num, by omega, Lib.hid (by rw [List.length_append, HK.out]; rfl), HO3, Lib.hid (by rw [HTK.out]; exact HF3.out), HB3⟩
    · obtain rfl : k = n := by omega
      go_wp2
      go_ret
      have h := HF.out
      rw [List.take_of_length_le (by have := HLL.out; omega)] at h
      exact ⟨_, csd, rfl, HO.out, h, HB.out⟩
end Go.Proofs.YtfcdajldpnomfaaGreatDoor

/-
  What the document's Canon does to its row: plain facts, pieces of rows, appends in a drawn region.
-/
namespace Go.Proofs.YtfcdajldpnomfaaGreatDoor
open Go.RowKit Go.Shelf
set_option maxRecDepth 20000
set_option linter.unusedVariables false
set_option linter.unusedSimpArgs false

theorem insR_gap (x : Rc) : ∀ (k : Nat) (c : List Rc), k ≤ c.length → (∀ j (h : j < c.length), j < k → compareR c[j] x < 0) → (∀ h : k < c.length, 0 < compareR c[k] x) → insR c x = c.take k ++ [x] ++ c.drop k
  | 0, [], _, _, _ => rfl
  | 0, y :: r, _, _, h => by
    have h0 := h (by simp)
    simp only [List.getElem_cons_zero] at h0
    rw [insR, if_neg (by omega), if_neg (by omega)]; rfl
  | k + 1, [], hk, _, _ => by simp at hk
  | k + 1, y :: r, hk, h1, h2 => by
    have h0 := h1 0 (by simp) (by omega)
    simp only [List.getElem_cons_zero] at h0
    have ih := insR_gap x k r (by simpa using hk) (fun j h hj => by have := h1 (j + 1) (by simp; omega) (by omega); simpa using this) (fun h => by have := h2 (by simp; omega); simpa using this)
    rw [insR, if_pos h0, ih]; rfl
theorem insR_hit (x : Rc) : ∀ (k : Nat) (c : List Rc) (hk : k < c.length), (∀ j (h : j < c.length), j < k → compareR c[j] x < 0) → compareR c[k] x = 0 → insR c x = c.set k ⟨c[k].owner, minT c[k].ttl x.ttl, c[k].data⟩
  | _, [], hk, _, _ => by simp at hk
  | 0, y :: r, _, _, h => by
    simp only [List.getElem_cons_zero] at h
    rw [insR, if_neg (by omega), if_pos h]; rfl
  | k + 1, y :: r, hk, h1, h2 => by
    have h0 := h1 0 (by simp) (by omega)
    simp only [List.getElem_cons_zero] at h0
    have ih := insR_hit x k r (by simpa using hk) (fun j h hj => by have := h1 (j + 1) (by simp; omega) (by omega); simpa using this) (by simpa using h2)
    rw [insR, if_pos h0, ih]; rfl
theorem rcOK_minT {y x : Rc} (hy : RcOK y) (hx : RcOK x) : RcOK ⟨y.owner, minT y.ttl x.ttl, y.data⟩ :=
  ⟨hy.1, by show minT y.ttl x.ttl < _; unfold minT; split; exact hx.2.1; exact hy.2.1, hy.2.2⟩
theorem insR_ok {x : Rc} (hx : RcOK x) : ∀ (l : List Rc), (∀ y ∈ l, RcOK y) → ∀ y ∈ insR l x, RcOK y
  | [], _, y, hy => by
    rw [insR, List.mem_singleton] at hy; subst hy; exact hx
  | z :: r, h, y, hy => by
    have hz := h z (by simp)
    rw [insR] at hy
    by_cases h1 : compareR z x < 0
    · rw [if_pos h1] at hy
      rcases List.mem_cons.1 hy with rfl | hy
      · exact hz
      · exact insR_ok hx r (fun a ha => h a (by simp [ha])) y hy
    · rw [if_neg h1] at hy
      by_cases h2 : compareR z x = 0
      · rw [if_pos h2] at hy
        rcases List.mem_cons.1 hy with rfl | hy
        · exact rcOK_minT hz hx
        · exact h y (by simp [hy])
      · rw [if_neg h2] at hy
        rcases List.mem_cons.1 hy with rfl | hy
        · exact hx
        · exact h y hy
theorem canonM_ok (l : List Rc) : (∀ r ∈ l, RcOK r) → ∀ y ∈ canonM l, RcOK y :=
  list_snoc_ind (P := fun l => (∀ r ∈ l, RcOK r) → ∀ y ∈ canonM l, RcOK y) (fun _ y hy => by cases hy) (fun l x ih h y hy => by
    rw [canonM_snoc] at hy
    exact insR_ok (h x (by simp)) _ (ih fun r hr => h r (by simp [hr])) y hy) l
theorem canonM_take {l : List Rc} {i : Nat} (h : i < l.length) : canonM (l.take (i + 1)) = insR (canonM (l.take i)) l[i] := by
  rw [List.take_succ_eq_append_getElem h, canonM_snoc]

theorem flatten_set (K t : Nat) (u : Value) (ht : t < K) : ∀ (css : List (List Value)), (∀ cs ∈ css, cs.length = K) → ∀ (k : Nat) (h : k < css.length), (css.set k (css[k].set t u)).flatten = css.flatten.set (k * K + t) u
  | [], _, k, h => by simp at h
  | c :: r, hk, 0, _ => by
    have hc := hk c (by simp)
    simp only [List.getElem_cons_zero, List.set_cons_zero, List.flatten_cons, Nat.zero_mul, Nat.zero_add]
    rw [List.set_append_left t u (by omega)]
  | c :: r, hk, k + 1, h => by
    have hc := hk c (by simp)
    have ih := flatten_set K t u ht r (fun cs hcs => hk cs (by simp [hcs])) k (by simpa using h)
    simp only [List.getElem_cons_succ, List.set_cons_succ, List.flatten_cons]
    rw [ih, Nat.add_mul, Nat.one_mul]
    rw [List.set_append_right ((k * K + K + t)) u (by omega)]
    congr 2
    omega
theorem OwnC.put {T : TypeId} {W : World} {base g n c : Nat} {css : List (List Value)} (h : OwnC 7 T W base (.slice (some ⟨g, 0, none⟩) n c) css) (hk : ∀ cs ∈ css, cs.length = 7) (k : Nat) (hlt : k < css.length) (t : Nat) (ht : t < 7) (u : Value) :
    OwnC 7 T (W.setCell ⟨g, k * 7 + t, none⟩ u) base (.slice (some ⟨g, 0, none⟩) n c) (css.set k (css[k].set t u)) := by
  obtain ⟨hl, h⟩ := h
  rcases h with ⟨e, _⟩ | ⟨g', cap, cur, e, hb, hg, hc, hm, hsz, htk⟩
  · cases e
  · cases e
    have hfl : ((css.set k (css[k].set t u)).flatMap fun cs => cs) = (css.flatMap fun cs => cs).set (k * 7 + t) u := by
      rw [flat_id, flat_id, flatten_set 7 t u ht css hk k hlt]
    refine ⟨by rw [hfl, List.length_set, List.length_set]; exact hl, .inr ⟨g, c, cur.setIfInBounds (k * 7 + t) u, by rw [List.length_set], hb, block_set hg _ u, by rw [List.length_set]; exact hc, hm, by simpa using hsz, ?_⟩⟩
    rw [hfl, List.length_set, ← htk, Array.toList_setIfInBounds]
    rw [List.take_set]
theorem SlK.takeK {W : World} {a : Option Addr} {n c : Nat} {css : List (List Value)} (h : SlK W (.slice a n c) css) (k : Nat) (hk : k ≤ n) : SlK W (.slice a k c) (css.take k) := by
  obtain ⟨a', c', e, h1, h2, h3⟩ := h
  cases e
  have hl : (css.take k).length = k := by rw [List.length_take]; omega
  refine ⟨a, c, by rw [hl], by rw [hl]; omega, h2, ?_⟩
  rcases h3 with h3 | ⟨b, off, e, hlt, hc⟩
  · left; rw [h3]; simp
  · right
    refine ⟨b, off, e, hlt, fun j u hj => hc j u ?_⟩
    have hsplit : css.flatten = (css.take k).flatten ++ (css.drop k).flatten := by rw [← List.flatten_append, List.take_append_drop]
    rw [hsplit, List.getElem?_append_left (List.getElem?_eq_some_iff.1 hj).1]
    exact hj
theorem SlK.dropK {W : World} {b off n c : Nat} {css : List (List Value)} (h : SlK W (.slice (some ⟨b, off, none⟩) n c) css) (h7 : ∀ cs ∈ css, cs.length = 7) (k : Nat) (hk : k ≤ n) : SlK W (.slice (some ⟨b, off + k * 7, none⟩) (n - k) (c - k)) (css.drop k) := by
  obtain ⟨a', c', e, h1, h2, h3⟩ := h
  cases e
  have hl : (css.drop k).length = css.length - k := List.length_drop
  refine ⟨_, _, by rw [hl], by rw [hl]; omega, (fun e => by cases e), ?_⟩
  rcases h3 with h3 | ⟨b', off', e, hlt, hc⟩
  · left; rw [h3]; simp
  · cases e
    right
    refine ⟨b, off + k * 7, rfl, hlt, fun j u hj => ?_⟩
    rw [Nat.add_assoc]
    refine hc _ _ ?_
    have hsplit : css.flatten = (css.take k).flatten ++ (css.drop k).flatten := by rw [← List.flatten_append, List.take_append_drop]
    have hz : (css.take k).flatten.length = k * 7 := by
      rw [flat_len _ (fun cs hcs => h7 cs (List.mem_of_mem_take hcs)), List.length_take]; congr 1; omega
    rw [hsplit, List.getElem?_append_right (by omega), hz, Nat.add_sub_cancel_left]
    exact hj
/-- append of a whole row to one of the call's own, as one operation. -/
theorem wp_append_slk {S T : TypeId} {k bytes : Nat} {o : Oper} {a : Act} {K : Act → World → Prop} {Q : Exit → Act → World → Prop} (W : World) (s x : Operand) (hE : ElemK k T S bytes) (hk0 : 0 < k)
    (ho : o.op = .call { callee := .builtin .append, args := #[s, x], argTypes := #[S, S] })
    (base : Nat) (v : Value) (xs : List (List Value)) (hs : a.eval s = v) (hown : OwnC k T W base v xs)
    (src : Value) (ys : List (List Value)) (hx : a.eval x = src) (hsrc : SlK W src ys) (hyk : ∀ cs ∈ ys, cs.length = k) (hy1 : ∀ cs ∈ ys, ∀ u ∈ cs, u.oneCell' = true)
    (hbase : base ≤ W.heap.size) (hk : xs.length + ys.length ≤ maxLen) (hk2 : (xs.length + ys.length) * bytes ≤ 140737488355328)
    (h : ∀ v' w', OwnC k T w' base v' (xs ++ ys) → W.grownBy w' v.ownBlock → K (a.put o.dst v') w') :
    o.wp Tryz.prog a W K Q := by
  obtain ⟨ht, i, z, hi, hz, hz1, hz2, hzc⟩ := hE
  obtain ⟨a0, c0, rfl, h1, h2, h3⟩ := hsrc
  have hlen := flat_len ys hyk
  cases a0 with
  | none =>
    have e3 := h2 rfl
    subst e3
    have e4 : ys = [] := List.eq_nil_of_length_eq_zero (by omega)
    subst e4
    have hrun := run_append_owned_none (P := Tryz.prog) (w := W) base S o.type _ i k ht hi v _ _ hown
    have hK := h v W (by rw [List.append_nil]; exact hown) ⟨rfl, rfl, rfl, Nat.le_refl _, fun _ _ _ => rfl⟩
    unfold Oper.wp
    simp [execOp, ho, resolve, invoke, builtin, hs, hx, hrun, Result.andThen]
    exact hK
  | some ad =>
    have hcell : ∀ j u, ys.flatten[j]? = some u → W.cell? (ad.add j) = some u := by
      intro j u hj
      rcases h3 with h3 | ⟨b, off, ea, _, hc⟩
      · subst h3; simp at hj
      · cases ea; rw [Addr.add_lit]; exact hc j u hj
    refine wp_append_own W s x S ho base _ i z k bytes ht hi hz hz1 hz2 hzc hk0 v xs.length (xs.flatMap fun cs => cs) hs hown ad ys.length c0 ys.flatten hx hlen hcell (by intro u hu; obtain ⟨y, hy, hu⟩ := List.mem_flatten.1 hu; exact hy1 y hy u hu) hk hk2 hbase ?_
    intro v' w' g1 g2 _
    refine h v' w' ?_ g2
    unfold OwnC OwnK
    rw [List.length_append, List.flatMap_append, flat_id ys]
    exact g1
theorem step_append_slk {S T : TypeId} {k bytes : Nat} {ops : Array Oper} {o : Oper} {a : Act} {K : Act → World → Prop} {Q : Exit → Act → World → Prop} {E : Prop} (W : World) (hgd : o.guard = none) (s x : Operand) (hE : ElemK k T S bytes) (hk0 : 0 < k)
    (ho : o.op = .call { callee := .builtin .append, args := #[s, x], argTypes := #[S, S] })
    (base : Nat) (v : Value) (xs : List (List Value)) (hs : a.eval s = v) (hown : OwnC k T W base v xs)
    (src : Value) (ys : List (List Value)) (hx : a.eval x = src) (hsrc : SlK W src ys) (hyk : ∀ cs ∈ ys, cs.length = k) (hy1 : ∀ cs ∈ ys, ∀ u ∈ cs, u.oneCell' = true)
    (hbase : base ≤ W.heap.size) (hk : xs.length + ys.length ≤ maxLen) (hk2 : (xs.length + ys.length) * bytes ≤ 140737488355328)
    (h : ∀ v' w', OwnC k T w' base v' (xs ++ ys) → W.grownBy w' v.ownBlock → K (a.put o.dst v') w') :
    if Region.wanted o (yielded ops a.tmps) = true then Oper.wp Tryz.prog o a W K Q else E := by
  have hw : Region.wanted o (yielded ops a.tmps) = true := by simp [Region.wanted, hgd]
  rw [if_pos hw]
  exact wp_append_slk W s x hE hk0 ho base v xs hs hown src ys hx hsrc hyk hy1 hbase hk hk2 h
end Go.Proofs.YtfcdajldpnomfaaGreatDoor

/-
  The document's SameRow.
-/
namespace Go.Proofs.YtfcdajldpnomfaaGreatDoor
open Go.RowKit Go.Shelf
set_option maxRecDepth 20000
set_option linter.unusedVariables false
set_option linter.unusedSimpArgs false

set_option maxRecDepth 100000 in
set_option maxHeartbeats 8000000 in
theorem ref_SameRow (v u : Value) (css ess : List (List Value)) (l m : List Rc) (w : World) (hA : SlK w v css) (hR : Rcs w css l) (hU : SlK w u ess) (hS : Rcs w ess m) (hOK : ∀ r ∈ l, RcOK r) (hOK2 : ∀ r ∈ m, RcOK r) (hl : css.length ≤ 1048576) (hl2 : ess.length ≤ 1048576) :
    Calls Tryz.prog 23 #[v, u] w fun e w' => e = .returned (.bool (sameRowM l m)) ∧ Below w.heap.size w w' := by
  obtain ⟨a, c, rfl, hc1, hc2, hx⟩ := id hA
  obtain ⟨b, d, rfl, hd1, hd2, hy⟩ := id hU
  obtain ⟨n, hn⟩ : ∃ n, css.length = n := ⟨_, rfl⟩
  obtain ⟨n2, hn2⟩ : ∃ n, ess.length = n := ⟨_, rfl⟩
  have HSA := Lib.hid hA; have HSU := Lib.hid hU; have HR := Lib.hid hR; have HS := Lib.hid hS; have HOK := Lib.hid hOK; have HOK2 := Lib.hid hOK2
  rw [hn] at HSA hc1 hl ⊢
  rw [hn2] at HSU hd1 hl2 ⊢
  have HN := Lib.hid hn; have HN2 := Lib.hid hn2
  have HLA := Lib.hid (show l.length = n by rw [← hn]; exact hR.1.symm)
  have HLB := Lib.hid (show m.length = n2 by rw [← hn2]; exact hS.1.symm)
  obtain ⟨res, hres⟩ : ∃ r, sameRowM l m = r := ⟨_, rfl⟩
  rw [hres]
  have HRES := Lib.hid hres
  clear hA hU hR hS hOK hOK2 hc2 hx hd2 hy hn hn2 hres
  by_cases hnn : n = n2
  · subst hnn
    have HB0 : Hid (Below w.heap.size w w) := Lib.hid (Below.refl _ _)
    go_enter Tryz.func23, Tryz.ntmps23
    go_wp2
    go_loopw [5] (fun vi wr => ∃ (k : Nat), vi = .int .i64 k ∧ k ≤ n ∧ Hid (res = sameRowM (l.drop k) (m.drop k)) ∧ Hid (Below w.heap.size w wr)) (fun vi _ => n - (intOf vi).toNat)
    case atStart => exact ⟨0, rfl, Nat.zero_le _, Lib.hid HRES.out.symm, HB0⟩
    case round =>
      obtain ⟨k, rfl, hk, HC, HB⟩ := hrel
      by_cases hlt : k < n
      · have hltz : (k : Int) < (n : Int) := by omega
        have hk1 : k < css.length := by have := HN.out; omega
        have hk2 : k < ess.length := by have := HN2.out; omega
        have hk3 : k < l.length := by have := HLA.out; omega
        have hk4 : k < m.length := by have := HLB.out; omega
        obtain ⟨ga, oa, rfl, hga, hea⟩ := HSA.out.elem HR.out.ck (by omega)
        obtain ⟨gb, ob, rfl, hgb, heb⟩ := HSU.out.elem HS.out.ck (by omega)
        have h0 := HR.out.2 k hk1 hk3
        have h1 := HS.out.2 k hk2 hk4
        have hok := HOK.out _ (List.getElem_mem hk3)
        have hok2 := HOK2.out _ (List.getElem_mem hk4)
        have hst := sameRowM_step k hk3 hk4
        obtain ⟨ra, hra⟩ : ∃ r, l[k]'hk3 = r := ⟨_, rfl⟩
        obtain ⟨rb, hrb⟩ : ∃ r, m[k]'hk4 = r := ⟨_, rfl⟩
        rw [hra] at h0 hok hst
        rw [hrb] at h1 hok2 hst
        clear hra hrb
        have hcg := fun p : WIn (fun W => Below w.heap.size w W) => Calls.cls (C := fun W => Below w.heap.size w W) ((ref_SameRec _ _ _ _ p.w (h0.below p.ok) (h1.below p.ok) hok hok2).mono fun _ _ ⟨hq, hb⟩ => ⟨hq, p.ok.trans (hb.mono p.ok.size)⟩)
        obtain ⟨⟨p0, q0, r0⟩, ⟨p3, q3, r3⟩, ⟨p4, q4, r4⟩, ⟨p5, q5, r5⟩, ⟨p6, q6, r6⟩, e0⟩ := h0.shape
        obtain ⟨⟨p0', q0', r0'⟩, ⟨p3', q3', r3'⟩, ⟨p4', q4', r4'⟩, ⟨p5', q5', r5'⟩, ⟨p6', q6', r6'⟩, e1⟩ := h1.shape
        simp only at e0 e1
        have f0 := fun p : WIn (fun W => Below w.heap.size w W) => hea k hk1 _ _ _ _ _ _ _ e0 p.w p.ok
        have f1 := fun p : WIn (fun W => Below w.heap.size w W) => heb k hk2 _ _ _ _ _ _ _ e1 p.w p.ok
        have g0 := fun p => (f0 p).1; have g1 := fun p => (f0 p).2.1; have g2 := fun p => (f0 p).2.2.1; have g3 := fun p => (f0 p).2.2.2.1; have g4 := fun p => (f0 p).2.2.2.2.1; have g5 := fun p => (f0 p).2.2.2.2.2.1; have g6 := fun p => (f0 p).2.2.2.2.2.2
        have j0 := fun p => (f1 p).1; have j1 := fun p => (f1 p).2.1; have j2 := fun p => (f1 p).2.2.1; have j3 := fun p => (f1 p).2.2.2.1; have j4 := fun p => (f1 p).2.2.2.2.1; have j5 := fun p => (f1 p).2.2.2.2.2.1; have j6 := fun p => (f1 p).2.2.2.2.2.2
        rw [e0, e1] at hcg
        obtain ⟨sm, hsm⟩ : ∃ s, sameR ra rb = s := ⟨_, rfl⟩
        rw [hsm] at hcg
        have HST : Hid (res = ((decide (ra.ttl = rb.ttl) && sm) && sameRowM (l.drop (k + 1)) (m.drop (k + 1)))) := Lib.hid (by rw [HC.out, hst]; unfold twinR; rw [hsm])
        obtain ⟨ta, hta⟩ : ∃ t, ra.ttl = t := ⟨_, rfl⟩
        obtain ⟨tb, htb⟩ : ∃ t, rb.ttl = t := ⟨_, rfl⟩
        rw [hta, htb] at HST
        rw [hta] at g1 hcg
        rw [htb] at j1 hcg
        have hne : Nonempty (WIn (fun W => Below w.heap.size w W)) := ⟨⟨_, HB.out⟩⟩
        have hbd : Below w.heap.size w wr.drew := HB.out.trans ⟨rfl, rfl, rfl, Nat.le_refl _, fun _ _ => rfl⟩
        clear h0 h1 hok hok2 hst e0 e1 hea heb hk1 hk2 hk3 hk4 f0 f1 hsm hta htb HC
        cases sm
        · have HE : Hid (res = false) := Lib.hid (by rw [HST.out]; simp)
          clear HST
          go_wp2_with fail
          refine wp_region_cls (fun W => Below w.heap.size w W) follows_mixed (by kernel_rfl) hbd ?_
          repeat (go_big_quiet_step (exact hcg _))
          refine wpQuiet_nil ?_
          rintro _ ⟨p, rfl⟩
          clear g0 g1 g2 g3 g4 g5 g6 j0 j1 j2 j3 j4 j5 j6 hcg
          go_wp2
          go_ret
          exact ⟨by rw [HE.out]; rfl, p.ok⟩
        · by_cases ht : ta = tb
          · subst ht
            have HE : Hid (res = sameRowM (l.drop (k + 1)) (m.drop (k + 1))) := Lib.hid (by rw [HST.out]; simp)
            clear HST
            go_wp2_with fail
            refine wp_region_cls (fun W => Below w.heap.size w W) follows_mixed (by kernel_rfl) hbd ?_
            repeat (go_big_quiet_step (exact hcg _))
            refine wpQuiet_nil ?_
            rintro _ ⟨p, rfl⟩
            have HP := Lib.hid p.ok
            clear g0 g1 g2 g3 g4 g5 g6 j0 j1 j2 j3 j4 j5 j6 hcg
            go_wp2
            go_roundw
            case measure => simp [intOf]; omega
            case rel => exact ⟨k + 1, by go_num, by omega, HE, HP⟩
          · have HE : Hid (res = false) := Lib.hid (by rw [HST.out]; simp [ht])
            have hz : ¬ (ta : Int) = (tb : Int) := by omega
            clear HST
            go_wp2_with fail
            refine wp_region_cls (fun W => Below w.heap.size w W) follows_mixed (by kernel_rfl) hbd ?_
            repeat (go_big_quiet_step (exact hcg _))
            refine wpQuiet_nil ?_
            rintro _ ⟨p, rfl⟩
            clear g0 g1 g2 g3 g4 g5 g6 j0 j1 j2 j3 j4 j5 j6 hcg
            go_wp2
            go_ret
            exact ⟨by rw [HE.out]; rfl, p.ok⟩
      · obtain rfl : k = n := by omega
        have HE : Hid (res = true) := Lib.hid (by
          rw [HC.out, List.drop_of_length_le (by have := HLA.out; omega), List.drop_of_length_le (by have := HLB.out; omega)]; rfl)
        clear HC
        go_wp2
        go_ret
        exact ⟨by rw [HE.out]; rfl, HB.out⟩
  · have hz : ¬ (n : Int) = (n2 : Int) := by omega
    have hzb : ((n : Int) != (n2 : Int)) = true := by simpa using hz
    have HE : Hid (res = false) := Lib.hid (by rw [← HRES.out]; exact sameRowM_len _ _ (by have := HLA.out; have := HLB.out; omega))
    go_enter Tryz.func23, Tryz.ntmps23
    go_wp2
    go_ret
    exact ⟨by rw [HE.out]; rfl, Below.refl _ _⟩
end Go.Proofs.YtfcdajldpnomfaaGreatDoor

/-
  The law's Is: data that are the same, octet by octet. (Written by wip/tools/gen17.py.)
-/
namespace Go.Proofs.YtfcdajldpnomfaaGreatDoor
open Go.RowKit Go.Shelf
set_option maxRecDepth 20000

set_option maxRecDepth 100000 in
set_option maxHeartbeats 16000000 in
theorem law4_Is (va vb : Value) (d : Dat) (w : World) (hA : DatAt w va d) (hB : DatAt w vb d) (hk : DatOK d) :
    Calls Tryz.prog 51 #[va, vb] w fun e w' => e = .returned (.bool true) ∧ Below w.heap.size w w' := by
  obtain ⟨vn, vu, vt, vr, rfl, ⟨vs, s1, sl, s2⟩, p2, p3, p4⟩ := hA
  obtain ⟨un, uu, ut, ur, rfl, ⟨us, t1, tl, t2⟩, q2, q3, q4⟩ := hB
  obtain ⟨a1, c1, rfl, _⟩ := id s1
  obtain ⟨a2, c2, rfl, _⟩ := id p2
  obtain ⟨a3, c3, rfl, _⟩ := id p3.1
  obtain ⟨a4, c4, rfl, _⟩ := id p4
  obtain ⟨b1, d1, rfl, _⟩ := id t1
  obtain ⟨b2, d2, rfl, _⟩ := id q2
  obtain ⟨b3, d3, rfl, _⟩ := id q3.1
  obtain ⟨b4, d4, rfl, _⟩ := id q4
  rw [List.length_map] at p2 p4 q2 q4
  have HCA := Lib.hid (fun (W : World) (hb : Below w.heap.size w W) j (hj : j < vs.length) => s1.cell hb j hj)
  have HCB := Lib.hid (fun (W : World) (hb : Below w.heap.size w W) j (hj : j < us.length) => t1.cell hb j hj)
  have HUA := Lib.hid (fun (W : World) (hb : Below w.heap.size w W) j hj => p2.cell hb j hj)
  have HUB := Lib.hid (fun (W : World) (hb : Below w.heap.size w W) j hj => q2.cell hb j hj)
  have HNA : Hid (∀ W (_ : Below w.heap.size w W) j (_ : j < vs.length) (h2 : j < d.names.length), NmAt W vs[j] d.names[j]) := Lib.hid (fun W hb j h1 _ => (s2 j h1).below hb)
  have HNB : Hid (∀ W (_ : Below w.heap.size w W) j (_ : j < us.length) (h2 : j < d.names.length), NmAt W us[j] d.names[j]) := Lib.hid (fun W hb j h1 _ => (t2 j h1).below hb)
  have HNK := Lib.hid hk.2.2.1
  have HUK := Lib.hid hk.2.2.2.2.1
  have HTX := Lib.hid (fun (W : World) (hb : Below w.heap.size w W) => kn_Is _ _ d.texts d.texts true (by simp) W (p3.below hb) (q3.below hb) hk.2.2.2.2.2.1)
  have hcv1 : ∀ W, Below w.heap.size w W → (convert 27 9 (.slice a4 d.raw.length c4)).run Tryz.prog W = .ok (.string ⟨d.raw.toArray⟩) W := fun W hb => bytes_string (p4.below hb)
  have hcv2 : ∀ W, Below w.heap.size w W → (convert 27 9 (.slice b4 d.raw.length d4)).run Tryz.prog W = .ok (.string ⟨d.raw.toArray⟩) W := fun W hb => bytes_string (q4.below hb)
  have hn1b : d.names.length ≤ 1048576 := hk.2.1
  have hn2b : d.nums.length ≤ 1048576 := hk.2.2.2.1
  rw [List.length_map, List.length_map, sl, tl]
  have HVL := Lib.hid sl; have HUL := Lib.hid tl
  obtain ⟨n1, e1⟩ : ∃ n, d.names.length = n := ⟨_, rfl⟩
  obtain ⟨n2, e2⟩ : ∃ n, d.nums.length = n := ⟨_, rfl⟩
  obtain ⟨n3, e3⟩ : ∃ n, d.texts.length = n := ⟨_, rfl⟩
  obtain ⟨n4, e4⟩ : ∃ n, d.raw.length = n := ⟨_, rfl⟩
  obtain ⟨x, e0⟩ : ∃ x, d.ty = x := ⟨_, rfl⟩
  have E1 := Lib.hid e1; have E2 := Lib.hid e2
  rw [e3] at HTX
  rw [e4] at hcv1 hcv2
  rw [e1] at hn1b; rw [e2] at hn2b
  rw [e0, e1, e2, e3, e4]
  generalize d.raw = raw at *
  clear s1 s2 t1 t2 p2 p3 p4 q2 q3 q4 sl tl hk e0 e1 e2 e3 e4
  have hb0 : Below w.heap.size w ((w.alloc (.cells #[.int .i64 x, .slice a1 n1 c1, .slice a2 n2 c2, .slice a3 n3 c3, .slice a4 n4 c4] 38)).alloc (.cells #[.int .i64 x, .slice b1 n1 d1, .slice b2 n2 d2, .slice b3 n3 d3, .slice b4 n4 d4] 38)) := ((Below.refl _ w).alloc (Nat.le_refl _) _).alloc (by simp) _
  have hbx := block_new w (.cells #[.int .i64 x, .slice a1 n1 c1, .slice a2 n2 c2, .slice a3 n3 c3, .slice a4 n4 c4] 38)
  have hby := block_new (w.alloc (.cells #[.int .i64 x, .slice a1 n1 c1, .slice a2 n2 c2, .slice a3 n3 c3, .slice a4 n4 c4] 38)) (.cells #[.int .i64 x, .slice b1 n1 d1, .slice b2 n2 d2, .slice b3 n3 d3, .slice b4 n4 d4] 38)
  rw [World.size_alloc] at hby
  have hbx : ((w.alloc (.cells #[.int .i64 x, .slice a1 n1 c1, .slice a2 n2 c2, .slice a3 n3 c3, .slice a4 n4 c4] 38)).alloc (.cells #[.int .i64 x, .slice b1 n1 d1, .slice b2 n2 d2, .slice b3 n3 d3, .slice b4 n4 d4] 38)).heap[w.heap.size]? = some (.cells #[.int .i64 x, .slice a1 n1 c1, .slice a2 n2 c2, .slice a3 n3 c3, .slice a4 n4 c4] 38) := (((Below.refl (w.heap.size + 1) (w.alloc (.cells #[.int .i64 x, .slice a1 n1 c1, .slice a2 n2 c2, .slice a3 n3 c3, .slice a4 n4 c4] 38))).alloc (by simp) (.cells #[.int .i64 x, .slice b1 n1 d1, .slice b2 n2 d2, .slice b3 n3 d3, .slice b4 n4 d4] 38)).block _ (Nat.lt_succ_self _)).trans hbx
  obtain ⟨x0, x1, x2, x3, x4⟩ := cells5' hbx
  obtain ⟨y0, y1, y2, y3, y4⟩ := cells5' hby
  have hv1 := hcv1 _ hb0
  have hv2 := hcv2 _ hb0
  have HB0 := Lib.hid hb0
  have HBX := Lib.hid (fun (W : World) (hb : Below (w.heap.size + 2) ((w.alloc (.cells #[.int .i64 x, .slice a1 n1 c1, .slice a2 n2 c2, .slice a3 n3 c3, .slice a4 n4 c4] 38)).alloc (.cells #[.int .i64 x, .slice b1 n1 d1, .slice b2 n2 d2, .slice b3 n3 d3, .slice b4 n4 d4] 38)) W) => cells5' ((hb.block w.heap.size (by omega)).trans hbx))
  have HBY := Lib.hid (fun (W : World) (hb : Below (w.heap.size + 2) ((w.alloc (.cells #[.int .i64 x, .slice a1 n1 c1, .slice a2 n2 c2, .slice a3 n3 c3, .slice a4 n4 c4] 38)).alloc (.cells #[.int .i64 x, .slice b1 n1 d1, .slice b2 n2 d2, .slice b3 n3 d3, .slice b4 n4 d4] 38)) W) => cells5' ((hb.block (w.heap.size + 1) (by omega)).trans hby))
  have HSZ : Hid (w.heap.size + 2 ≤ ((w.alloc (.cells #[.int .i64 x, .slice a1 n1 c1, .slice a2 n2 c2, .slice a3 n3 c3, .slice a4 n4 c4] 38)).alloc (.cells #[.int .i64 x, .slice b1 n1 d1, .slice b2 n2 d2, .slice b3 n3 d3, .slice b4 n4 d4] 38)).heap.size) := Lib.hid (by simp)
  clear hcv1 hcv2 hb0 hbx hby
  go_enter Tryz.func51, Tryz.ntmps51
  go_wp2_with fail
  obtain ⟨W0, hW0⟩ : ∃ W0, (w.alloc (.cells #[.int .i64 x, .slice a1 n1 c1, .slice a2 n2 c2, .slice a3 n3 c3, .slice a4 n4 c4] 38)).alloc (.cells #[.int .i64 x, .slice b1 n1 d1, .slice b2 n2 d2, .slice b3 n3 d3, .slice b4 n4 d4] 38) = W0 := ⟨_, rfl⟩
  rw [hW0] at HBX HBY HB0 HSZ ⊢
  clear hW0 x0 x1 x2 x3 x4 y0 y1 y2 y3 y4 hv1 hv2
  go_loopw [5] (fun i wr => ∃ k : Nat, i = .int .i64 (k : Int) ∧ k ≤ n1 ∧ Hid (Below (w.heap.size + 2) W0 wr)) (fun i _ => n1 - (intOf i).toNat)
  case atStart => exact ⟨0, rfl, Nat.zero_le _, Lib.hid (Below.refl _ _)⟩
  case round =>
    obtain ⟨k, rfl, hk0, HB⟩ := hrel
    have hBw : Below w.heap.size w wr := HB0.out.trans (HB.out.mono (by omega))
    have hx1 := (HBX.out _ HB.out).2.1
    have hy1 := (HBY.out _ HB.out).2.1
    by_cases hlt : k < n1
    · have hkd : k < d.names.length := by rw [E1.out]; exact hlt
      have hkv : k < vs.length := by rw [HVL.out]; exact hkd
      have hku : k < us.length := by rw [HUL.out]; exact hkd
      obtain ⟨g, off, rfl, hg, hc⟩ := HCA.out w (Below.refl _ _) k hkv
      obtain ⟨g2, off2, rfl, hg2, hc2⟩ := HCB.out w (Below.refl _ _) k hku
      have hna := HNA.out w (Below.refl _ _) k hkv hkd
      have hnb := HNB.out w (Below.refl _ _) k hku hkd
      have hnk := HNK.out _ (List.getElem_mem hkd)
      obtain ⟨⟨pa, pc, ep, _⟩, _⟩ := id hna
      obtain ⟨⟨pb, pd, eq, _⟩, _⟩ := id hnb
      rw [ep] at hc hna
      rw [eq] at hc2 hnb
      generalize d.names[k] = nm at *
      obtain ⟨pn, hpn⟩ : ∃ n, nm.length = n := ⟨_, rfl⟩
      rw [hpn] at hc hna hc2 hnb
      have hlti : (k : Int) < (n1 : Int) := by omega
      have hk00 : (0 : Int) ≤ (k : Int) := by omega
      have KD : ∀ W : World, Below (w.heap.size + 2) W0 W → (W.cell? ⟨w.heap.size, 1, none⟩ = some (.slice (some ⟨g, off, none⟩) n1 c1) ∧ W.cell? ⟨w.heap.size + 1, 1, none⟩ = some (.slice (some ⟨g2, off2, none⟩) n1 d1) ∧ W.cell? ⟨g, off + k, none⟩ = some (.slice pa pn pc) ∧ W.cell? ⟨g2, off2 + k, none⟩ = some (.slice pb pn pd) ∧ Below (w.heap.size + 2) W0 W) := fun W hb =>
        ⟨(HBX.out W hb).2.1, (HBY.out W hb).2.1, ((HB0.out.trans (hb.mono (by omega))).cell (p := ⟨g, off + k, none⟩) hg).trans hc, ((HB0.out.trans (hb.mono (by omega))).cell (p := ⟨g2, off2 + k, none⟩) hg2).trans hc2, hb⟩
      have KS := Lib.hid (fun (W W' : World) (h : (W.cell? ⟨w.heap.size, 1, none⟩ = some (.slice (some ⟨g, off, none⟩) n1 c1) ∧ W.cell? ⟨w.heap.size + 1, 1, none⟩ = some (.slice (some ⟨g2, off2, none⟩) n1 d1) ∧ W.cell? ⟨g, off + k, none⟩ = some (.slice pa pn pc) ∧ W.cell? ⟨g2, off2 + k, none⟩ = some (.slice pb pn pd) ∧ Below (w.heap.size + 2) W0 W)) (hb : Below W.heap.size W W') => KD W' (h.2.2.2.2.trans (hb.mono (by have := h.2.2.2.2.size; have := HSZ.out; omega))))
      have KR := Lib.hid (fun (W : World) (h : (W.cell? ⟨w.heap.size, 1, none⟩ = some (.slice (some ⟨g, off, none⟩) n1 c1) ∧ W.cell? ⟨w.heap.size + 1, 1, none⟩ = some (.slice (some ⟨g2, off2, none⟩) n1 d1) ∧ W.cell? ⟨g, off + k, none⟩ = some (.slice pa pn pc) ∧ W.cell? ⟨g2, off2 + k, none⟩ = some (.slice pb pn pd) ∧ Below (w.heap.size + 2) W0 W)) => KD W.drew (below_drew1 h.2.2.2.2))
      have HIs := Lib.hid (fun (W : World) (h : (W.cell? ⟨w.heap.size, 1, none⟩ = some (.slice (some ⟨g, off, none⟩) n1 c1) ∧ W.cell? ⟨w.heap.size + 1, 1, none⟩ = some (.slice (some ⟨g2, off2, none⟩) n1 d1) ∧ W.cell? ⟨g, off + k, none⟩ = some (.slice pa pn pc) ∧ W.cell? ⟨g2, off2 + k, none⟩ = some (.slice pb pn pd) ∧ Below (w.heap.size + 2) W0 W)) => kn_Is _ _ nm nm true (by simp) W (hna.below (HB0.out.trans (h.2.2.2.2.mono (by omega)))) (hnb.below (HB0.out.trans (h.2.2.2.2.mono (by omega)))) hnk)
      have hS := KD wr HB.out
      clear KD hc hc2 hna hnb ep eq hpn
      go_wp2_with fail
      clear hx1 hy1
      go_region_held3 (fun W => (W.cell? ⟨w.heap.size, 1, none⟩ = some (.slice (some ⟨g, off, none⟩) n1 c1) ∧ W.cell? ⟨w.heap.size + 1, 1, none⟩ = some (.slice (some ⟨g2, off2, none⟩) n1 d1) ∧ W.cell? ⟨g, off + k, none⟩ = some (.slice pa pn pc) ∧ W.cell? ⟨g2, off2 + k, none⟩ = some (.slice pb pn pd) ∧ Below (w.heap.size + 2) W0 W)) (first | assumption | exact KR.out _ (by assumption)) (first
        | ((with_reducible refine (HIs.out _ (by assumption)).mono ?_); rintro e w2 ⟨rfl, hb2⟩; have hS2 := KS.out _ _ (by assumption) hb2))
      all_goals
        rename_i hSe
        have HB3 := Lib.hid hSe.2.2.2.2
        clear hSe
        go_wp2_with fail
        go_roundw
        case rel => exact ⟨k + 1, by go_num, by omega, HB3⟩
        case measure => simp [intOf]; omega
    · obtain rfl : k = n1 := by omega
      obtain ⟨WS, hWS⟩ : ∃ W, wr = W := ⟨_, rfl⟩
      rw [hWS] at HB hBw hx1 hy1 ⊢
      clear hWS wr
      go_wp2_with fail
      go_loopw [6] (fun i wr => ∃ j : Nat, i = .int .i64 (j : Int) ∧ j ≤ n2 ∧ Hid (Below (w.heap.size + 2) W0 wr)) (fun i _ => n2 - (intOf i).toNat)
      case atStart => exact ⟨0, rfl, Nat.zero_le _, HB⟩
      case round =>
        clear hx1 hy1 hBw HB
        obtain ⟨j, rfl, hj0, HB⟩ := hrel
        have hBw : Below w.heap.size w wr := HB0.out.trans (HB.out.mono (by omega))
        obtain ⟨-, -, hx2, hx3, -⟩ := HBX.out _ HB.out
        obtain ⟨-, -, hy2, hy3, -⟩ := HBY.out _ HB.out
        by_cases hlt2 : j < n2
        · have hjd : j < d.nums.length := by rw [E2.out]; exact hlt2
          obtain ⟨g, off, rfl, hg, hc⟩ := HUA.out wr hBw j (by rw [List.length_map]; exact hjd)
          obtain ⟨g2, off2, rfl, hg2, hc2⟩ := HUB.out wr hBw j (by rw [List.length_map]; exact hjd)
          rw [List.getElem_map] at hc hc2
          unfold u32V at hc hc2
          have hm := HUK.out _ (List.getElem_mem hjd)
          generalize d.nums[j] = m at *
          have hlti : (j : Int) < (n2 : Int) := by omega
          have hk00 : (0 : Int) ≤ (j : Int) := by omega
          have HBr := Lib.hid (show Below (w.heap.size + 2) W0 wr.drew from below_drew1 HB.out)
          go_wp2_with fail
          go_region
          all_goals
            go_wp2_with fail
            go_roundw
            case rel => exact ⟨j + 1, by go_num, by omega, HBr⟩
            case measure => simp [intOf]; omega
        · obtain rfl : j = n2 := by omega
          go_wp2_with (go_at_call 50; refine (HTX.out _ hBw).mono ?_; rintro e w2 ⟨rfl, hb2⟩)
          go_ret
          exact ⟨rfl, hBw.trans (hb2.mono hBw.size)⟩
end Go.Proofs.YtfcdajldpnomfaaGreatDoor

/-
  law5.Is of a row and itself. (Written by wip/tools/genis5.py.)
-/
namespace Go.Proofs.YtfcdajldpnomfaaGreatDoor
open Go.RowKit Go.Shelf
set_option maxRecDepth 20000
set_option linter.unusedVariables false
set_option linter.unusedSimpArgs false

set_option maxRecDepth 100000 in
set_option maxHeartbeats 8000000 in
theorem law5_Is (v u : Value) (css ess : List (List Value)) (l : List Rc) (w : World) (hA : SlK w v css) (hR : Rcs w css l) (hU : SlK w u ess) (hS : Rcs w ess l) (hOK : ∀ r ∈ l, RcOK r) (hl : css.length ≤ 1048576) (hl2 : ess.length ≤ 1048576) :
    Calls Tryz.prog 20 #[v, u] w fun e w' => e = .returned (.bool true) ∧ Below w.heap.size w w' := by
  obtain ⟨a, c, rfl, hc1, hc2, hx⟩ := id hA
  obtain ⟨b, d, rfl, hd1, hd2, hy⟩ := id hU
  obtain ⟨n, hn⟩ : ∃ n, css.length = n := ⟨_, rfl⟩
  obtain ⟨n2, hn2⟩ : ∃ n, ess.length = n := ⟨_, rfl⟩
  have HSA := Lib.hid hA; have HSU := Lib.hid hU; have HR := Lib.hid hR; have HS := Lib.hid hS; have HOK := Lib.hid hOK
  rw [hn] at HSA hc1 hl ⊢
  rw [hn2] at HSU hd1 hl2 ⊢
  have HN := Lib.hid hn; have HN2 := Lib.hid hn2
  have HLA := Lib.hid (show l.length = n by rw [← hn]; exact hR.1.symm)
  have HLB := Lib.hid (show l.length = n2 by rw [← hn2]; exact hS.1.symm)
  clear hA hU hR hS hOK hc2 hx hd2 hy hn hn2
  have hnn : n = n2 := by have := HLA.out; have := HLB.out; omega
  · subst hnn
    have HB0 : Hid (Below w.heap.size w w) := Lib.hid (Below.refl _ _)
    go_enter Tryz.func20, Tryz.ntmps20
    go_wp2
    go_loopw [5] (fun vi wr => ∃ (k : Nat), vi = .int .i64 k ∧ k ≤ n ∧ Hid (Below w.heap.size w wr)) (fun vi _ => n - (intOf vi).toNat)
    case atStart => exact ⟨0, rfl, Nat.zero_le _, HB0⟩
    case round =>
      obtain ⟨k, rfl, hk, HB⟩ := hrel
      by_cases hlt : k < n
      · have hltz : (k : Int) < (n : Int) := by omega
        have hk1 : k < css.length := by have := HN.out; omega
        have hk2 : k < ess.length := by have := HN2.out; omega
        have hk3 : k < l.length := by have := HLA.out; omega
        obtain ⟨ga, oa, rfl, hga, hea⟩ := HSA.out.elem HR.out.ck (by omega)
        obtain ⟨gb, ob, rfl, hgb, heb⟩ := HSU.out.elem HS.out.ck (by omega)
        have h0 := HR.out.2 k hk1 hk3
        have h1 := HS.out.2 k hk2 hk3
        have hok := HOK.out _ (List.getElem_mem hk3)
        obtain ⟨ra, hra⟩ : ∃ r, l[k]'hk3 = r := ⟨_, rfl⟩
        rw [hra] at h0 hok h1
        clear hra
        obtain ⟨⟨p0, q0, r0⟩, ⟨p3, q3, r3⟩, ⟨p4, q4, r4⟩, ⟨p5, q5, r5⟩, ⟨p6, q6, r6⟩, e0⟩ := h0.shape
        obtain ⟨⟨p0', q0', r0'⟩, ⟨p3', q3', r3'⟩, ⟨p4', q4', r4'⟩, ⟨p5', q5', r5'⟩, ⟨p6', q6', r6'⟩, e1⟩ := h1.shape
        simp only at e0 e1
        have f0 := fun p : WIn (fun W => Below w.heap.size w W) => hea k hk1 _ _ _ _ _ _ _ e0 p.w p.ok
        have f1 := fun p : WIn (fun W => Below w.heap.size w W) => heb k hk2 _ _ _ _ _ _ _ e1 p.w p.ok
        have g0 := fun p => (f0 p).1; have g1 := fun p => (f0 p).2.1; have g2 := fun p => (f0 p).2.2.1; have g3 := fun p => (f0 p).2.2.2.1; have g4 := fun p => (f0 p).2.2.2.2.1; have g5 := fun p => (f0 p).2.2.2.2.2.1; have g6 := fun p => (f0 p).2.2.2.2.2.2
        have j0 := fun p => (f1 p).1; have j1 := fun p => (f1 p).2.1; have j2 := fun p => (f1 p).2.2.1; have j3 := fun p => (f1 p).2.2.2.1; have j4 := fun p => (f1 p).2.2.2.2.1; have j5 := fun p => (f1 p).2.2.2.2.2.1; have j6 := fun p => (f1 p).2.2.2.2.2.2
        rw [e0] at h0
        rw [e1] at h1
        obtain ⟨_, _, _, _, _, e5, n1, n2⟩ := h0
        simp only [List.cons.injEq, and_true, true_and] at e5
        obtain ⟨rfl, rfl, rfl, rfl, rfl⟩ := e5
        obtain ⟨_, _, _, _, _, e6, m1, m2⟩ := h1
        simp only [List.cons.injEq, and_true, true_and] at e6
        obtain ⟨rfl, rfl, rfl, rfl, rfl⟩ := e6
        have hcn := fun p : WIn (fun W => Below w.heap.size w W) => Calls.cls (C := fun W => Below w.heap.size w W) ((kn_Is _ _ ra.owner ra.owner true (by simp) p.w (n1.below p.ok) (m1.below p.ok) hok.1).mono fun _ _ ⟨hq, hb⟩ => ⟨hq, p.ok.trans (hb.mono p.ok.size)⟩)
        have hcd := fun p : WIn (fun W => Below w.heap.size w W) => Calls.cls (C := fun W => Below w.heap.size w W) ((law4_Is _ _ ra.data p.w (n2.below p.ok) (m2.below p.ok) hok.2.2).mono fun _ _ ⟨hq, hb⟩ => ⟨hq, p.ok.trans (hb.mono p.ok.size)⟩)
        obtain ⟨ta, hta⟩ : ∃ t, ra.ttl = t := ⟨_, rfl⟩
        rw [hta] at g1 j1
        have hne : Nonempty (WIn (fun W => Below w.heap.size w W)) := ⟨⟨_, HB.out⟩⟩
        have hbd : Below w.heap.size w wr.drew := HB.out.trans ⟨rfl, rfl, rfl, Nat.le_refl _, fun _ _ => rfl⟩
        clear hok n1 n2 m1 m2 e0 e1 hea heb hk1 hk2 hk3 f0 f1 hta
        go_wp2_with fail
        refine wp_region_cls (fun W => Below w.heap.size w W) follows_mixed (by kernel_rfl) hbd ?_
        repeat (go_big_quiet_step (first | exact hcn _ | exact hcd _))
        refine wpQuiet_nil ?_
        rintro _ ⟨p, rfl⟩
        have HP := Lib.hid p.ok
        clear g0 g1 g2 g3 g4 g5 g6 j0 j1 j2 j3 j4 j5 j6 hcn hcd
        go_wp2
        go_roundw
        case measure => simp [intOf]; omega
        case rel => exact ⟨k + 1, by go_num, by omega, HP⟩
      · obtain rfl : k = n := by omega
        go_wp2
        go_ret
        exact ⟨rfl, HB.out⟩
end Go.Proofs.YtfcdajldpnomfaaGreatDoor

