/-
  Data (chapter 4): as plain data; how a value reads as them.
-/
import Derived.Test.YtckammgnmgkieaaGreatMQ19
import Derived.Test.YtckammgnmgkieaaGreatMQ27
import Derived.Test.YtckammgnmgkieaaGreatMQ29
import Derived.Lib.AppendStr
import Derived.BigQuiet
import Derived.Test.YtckammgnmgkieaaGreatMQ12
import Derived.Sort.QuietTacIn
import Derived.Sort.BigQuietIn
namespace Go.Proofs.YtckammgnmgkieaaGreat
set_option maxRecDepth 20000
open Go.RowKit Go.Shelf

def SlAt (W : World) (v : Value) (xs : List Value) : Prop :=
  ∃ a c, v = .slice a xs.length c ∧ xs.length ≤ c ∧ (a = none → c = 0) ∧ (xs = [] ∨ ∃ b off, a = some ⟨b, off, none⟩ ∧ b < W.heap.size ∧ ∀ j (hj : j < xs.length), W.cell? ⟨b, off + j, none⟩ = some xs[j])
theorem SlAt.below {W W' : World} {v : Value} {xs : List Value} (h : SlAt W v xs) (hb : Below W.heap.size W W') : SlAt W' v xs := by
  obtain ⟨a, c, e, h1, h2, h⟩ := h
  refine ⟨a, c, e, h1, h2, ?_⟩
  rcases h with h | ⟨b, off, ea, hlt, hc⟩
  · exact .inl h
  · exact .inr ⟨b, off, ea, Nat.lt_of_lt_of_le hlt hb.size, fun j hj => (hb.cell (p := ⟨b, off + j, none⟩) hlt).trans (hc j hj)⟩
theorem SlAt.nil (W : World) : SlAt W (.slice none 0 0) [] := ⟨none, 0, rfl, Nat.le_refl _, fun _ => rfl, .inl rfl⟩
theorem SlAt.ok {W : World} {v : Value} {xs : List Value} (h : SlAt W v xs) : SlOK v := by
  obtain ⟨a, c, rfl, h1, h2, _⟩ := h
  exact ⟨_, _, _, rfl, h1, h2⟩
theorem SlAt.of_own {α : Type} {T : TypeId} {enc : α → Value} {W : World} {base : Nat} {v : Value} {xs : List α} (h : OwnG T enc W base v xs) : SlAt W v (xs.map enc) := by
  have h0 := h
  rcases h.2 with ⟨rfl, h1⟩ | ⟨g, cap, cur, rfl, hb, hg, hc, hm, hsz, htk⟩
  · obtain rfl := List.eq_nil_of_length_eq_zero h1
    exact SlAt.nil W
  · refine ⟨_, _, by rw [List.length_map], by rw [List.length_map]; exact hc, (fun e => by cases e), ?_⟩
    by_cases hne : xs = []
    · subst hne; exact .inl rfl
    · obtain ⟨g', eg, _, hlt, hcl⟩ := h0.cells hne
      cases eg
      refine .inr ⟨g, 0, rfl, hlt, fun j hj => ?_⟩
      rw [Nat.zero_add, hcl j (by simpa using hj), List.getElem_map]
theorem nmAt_sl {W : World} {v : Value} {xs : Nm} : NmAt W v xs ↔ SlAt W v (xs.map strV) := by
  constructor
  · rintro ⟨⟨a, c, rfl, h⟩, ⟨a', n', c', e, h1, h2⟩⟩
    cases e
    refine ⟨a, c, by rw [List.length_map], by rw [List.length_map]; exact h1, h2, ?_⟩
    rcases h with rfl | ⟨b, off, ea, hlt, hc⟩
    · exact .inl rfl
    · exact .inr ⟨b, off, ea, hlt, fun j hj => by rw [List.getElem_map]; exact hc j (by simpa using hj)⟩
  · rintro ⟨a, c, e, h1, h2, h⟩
    rw [List.length_map] at e h1
    subst e
    refine ⟨⟨a, c, rfl, ?_⟩, ⟨_, _, _, rfl, h1, h2⟩⟩
    rcases h with h | ⟨b, off, ea, hlt, hc⟩
    · exact .inl (by simpa using h)
    · refine .inr ⟨b, off, ea, hlt, fun j hj => ?_⟩
      rw [hc j (by simpa using hj), List.getElem_map]

def NmsAt (W : World) (v : Value) (ns : List Nm) : Prop := ∃ vs : List Value, SlAt W v vs ∧ ∃ h : vs.length = ns.length, ∀ j (hj : j < vs.length), NmAt W vs[j] (ns[j]'(by omega))
theorem NmsAt.below {W W' : World} {v : Value} {ns : List Nm} (h : NmsAt W v ns) (hb : Below W.heap.size W W') : NmsAt W' v ns := by
  obtain ⟨vs, h1, h2, h3⟩ := h
  exact ⟨vs, h1.below hb, h2, fun j hj => (h3 j hj).below hb⟩
theorem NmsAt.nil (W : World) : NmsAt W (.slice none 0 0) [] := ⟨[], SlAt.nil W, rfl, fun _ hj => absurd hj (Nat.not_lt_zero _)⟩

def u32V (n : Nat) : Value := .int .u32 (n : Int)

structure Dat where
  ty : Int
  names : List Nm
  nums : List Nat
  texts : Nm
  raw : List UInt8

def DatAt (W : World) (v : Value) (d : Dat) : Prop :=
  ∃ vn vu vt vr, v = .agg #[.int .i64 d.ty, vn, vu, vt, vr] ∧ NmsAt W vn d.names ∧ SlAt W vu (d.nums.map u32V) ∧ NmAt W vt d.texts ∧ SlAt W vr (d.raw.map bv)
theorem DatAt.below {W W' : World} {v : Value} {d : Dat} (h : DatAt W v d) (hb : Below W.heap.size W W') : DatAt W' v d := by
  obtain ⟨vn, vu, vt, vr, e, h1, h2, h3, h4⟩ := h
  exact ⟨vn, vu, vt, vr, e, h1.below hb, h2.below hb, h3.below hb, h4.below hb⟩
def Dat.none : Dat := ⟨0, [], [], [], []⟩

def DatOK (d : Dat) : Prop := (-(2 ^ 63) ≤ d.ty ∧ d.ty < 2 ^ 63) ∧ d.names.length ≤ 1048576 ∧ (∀ n ∈ d.names, NmOK n) ∧ d.nums.length ≤ 1048576 ∧ (∀ n ∈ d.nums, n < 2 ^ 32) ∧ NmOK d.texts ∧ d.raw.length ≤ 1048576

end Go.Proofs.YtckammgnmgkieaaGreat

/-
  Data in their order: plain functions and facts.
-/
namespace Go.Proofs.YtckammgnmgkieaaGreat
set_option maxRecDepth 20000
open Go.RowKit Go.Shelf

def cmpL {α : Type} (f : α → α → Int) : List α → List α → Int
  | [], [] => 0
  | [], _ :: _ => -1
  | _ :: _, [] => 1
  | x :: r, y :: t => if f x y = 0 then cmpL f r t else f x y
def orI (a b : Int) : Int := if a = 0 then b else a
def cmpU (a b : Nat) : Int := cmpI a b
def cmpB (a b : UInt8) : Int := cmpI a.toNat b.toNat
def compareD (a b : Dat) : Int :=
  orI (cmpI a.ty b.ty) (orI (cmpL compareN a.names b.names) (orI (cmpL cmpU a.nums b.nums) (orI (cmpL orderM a.texts b.texts) (cmpL cmpB a.raw b.raw))))

section
variable {α : Type} {f : α → α → Int}
theorem cmpL_step {a b : List α} (k : Nat) (h1 : k < a.length) (h2 : k < b.length) :
    cmpL f (a.drop k) (b.drop k) = if f a[k] b[k] = 0 then cmpL f (a.drop (k + 1)) (b.drop (k + 1)) else f a[k] b[k] := by
  rw [List.drop_eq_getElem_cons h1, List.drop_eq_getElem_cons h2]
  rfl
theorem cmpL_nil (b : List α) : cmpL f [] b = cmpI 0 b.length := by
  cases b with
  | nil => rfl
  | cons x r => simp [cmpL, cmpI]
theorem cmpL_nil' (a : List α) : cmpL f a [] = cmpI a.length 0 := by
  cases a with
  | nil => rfl
  | cons x r => simp [cmpL, cmpI]; omega
theorem cmpI_sub (a b k : Int) : cmpI (a - k) (b - k) = cmpI a b := by
  unfold cmpI
  by_cases h : a < b
  · rw [if_pos h, if_pos (by omega)]
  · rw [if_neg h, if_neg (by omega)]
    by_cases h2 : b < a
    · rw [if_pos h2, if_pos (by omega)]
    · rw [if_neg h2, if_neg (by omega)]
theorem cmpL_end {a b : List α} (k : Nat) (h1 : k ≤ a.length) (h2 : k ≤ b.length) (h : k = a.length ∨ k = b.length) : cmpL f (a.drop k) (b.drop k) = cmpI a.length b.length := by
  rcases h with h | h
  · rw [List.drop_of_length_le (by omega), cmpL_nil, List.length_drop, ← cmpI_sub a.length b.length k]
    congr 1 <;> omega
  · rw [List.drop_of_length_le (l := b) (by omega), cmpL_nil', List.length_drop, ← cmpI_sub a.length b.length k]
    congr 1 <;> omega
theorem cmpL_swap (hf : ∀ x y, f y x = - f x y) : ∀ a b : List α, cmpL f b a = - cmpL f a b
  | [], [] => rfl
  | [], _ :: _ => rfl
  | _ :: _, [] => rfl
  | x :: r, y :: t => by
    simp only [cmpL, hf x y, cmpL_swap hf r t]
    by_cases h : f x y = 0
    · rw [if_pos h, if_pos (by omega)]
    · rw [if_neg h, if_neg (by omega)]
end
theorem cmpI_swap (a b : Int) : cmpI b a = - cmpI a b := by
  rcases cmpI_cases a b with ⟨h, h2⟩ | ⟨h, h2⟩ | ⟨h, h2⟩ <;> rcases cmpI_cases b a with ⟨g, g2⟩ | ⟨g, g2⟩ | ⟨g, g2⟩ <;> omega
theorem orI_swap {a b a' b' : Int} (h : a' = -a) (h2 : b' = -b) : orI a' b' = - orI a b := by
  unfold orI; subst h h2
  by_cases h : a = 0
  · rw [if_pos h, if_pos (by omega)]
  · rw [if_neg h, if_neg (by omega)]
theorem orderM_cmpL : ∀ a b : List UInt8, orderM a b = cmpL cmpB a b
  | [], [] => by simp [orderM, cmpL, Op.bytesLess]
  | [], _ :: _ => by simp [orderM, cmpL, Op.bytesLess]
  | _ :: _, [] => by simp [orderM, cmpL, Op.bytesLess]
  | x :: r, y :: t => by
    have ih := orderM_cmpL r t
    simp only [cmpL]
    rcases cmpI_cases x.toNat y.toNat with ⟨h, h2⟩ | ⟨h, h2⟩ | ⟨h, h2⟩
    · have hc : cmpB x y = -1 := h
      rw [hc]
      have : x < y := by rw [UInt8.lt_iff_toNat_lt]; omega
      simp [orderM, Op.bytesLess, this]
    · have hc : cmpB x y = 0 := h
      have e : x = y := UInt8.toNat_inj.1 (by omega)
      subst e
      rw [hc, ← ih]
      have : ¬ x < x := by rw [UInt8.lt_iff_toNat_lt]; omega
      simp [orderM, Op.bytesLess, this]
    · have hc : cmpB x y = 1 := h
      rw [hc]
      have n1 : ¬ x < y := by rw [UInt8.lt_iff_toNat_lt]; omega
      have n2 : ¬ x = y := by rintro rfl; omega
      simp [orderM, Op.bytesLess, n1, n2]
end Go.Proofs.YtckammgnmgkieaaGreat

/-
  Contract of name.Compare.
-/
namespace Go.Proofs.YtckammgnmgkieaaGreat
set_option maxRecDepth 20000
open Go.RowKit Go.Shelf

section
attribute [local go_sem] Oper.semAt_some
set_option maxRecDepth 100000 in
set_option maxHeartbeats 4000000 in
theorem name_Compare (v u : Value) (xs ys : Nm) (w : World) (hA : StrsAt w v xs) (hU : StrsAt w u ys) (hk : NmOK xs) (hk2 : NmOK ys) :
    Calls Tryz.prog 129 #[v, u] w fun e w' => e = .returned (.int .i64 (compareN xs ys)) ∧ Below w.heap.size w w' := by
  obtain ⟨a, c, rfl, _⟩ := id hA
  obtain ⟨a2, c2, rfl, _⟩ := id hU
  have hl1 := hk.1
  have hl2 := hk2.1
  refine (callsIn_wide (n := 5)).1 ?_
  refine callsIn_of_wp_marks Tryz.func129 rfl trivial ?_ rfl
  simp only [Tryz.ntmps129, List.size_toArray, List.length_cons, List.length_nil, Nat.reduceAdd, Nat.reduceSub, Array.replicate_succ, Array.replicate_zero, List.push_toArray, List.append_toArray, List.nil_append, List.cons_append]
  gi_wp2_with (refine ⟨trivial, ?_⟩; gi_at_call 106; refine (callsIn_wide.2 (name_upward _ _ _ _)).mono ?_; rintro e w' ⟨rfl, rfl⟩)
  obtain ⟨W0, hW0⟩ : ∃ W0, ((((w.alloc (.cells #[.slice a xs.length c] 24)).alloc (.cells #[.slice a2 ys.length c2] 24)).alloc (.cells #[.int .i64 0] 3)).alloc (.cells #[.slice a xs.length c] 24)) = W0 := ⟨_, rfl⟩
  have bA : Boxed W0 w.heap.size 24 (.slice a xs.length c) := by rw [← hW0]; exact (((Boxed.new w _ _).alloc _).alloc _).alloc _
  have bB : Boxed W0 (w.heap.size + 1) 24 (.slice a2 ys.length c2) := by
    have := Boxed.new (w.alloc (.cells #[.slice a xs.length c] 24)) 24 (.slice a2 ys.length c2)
    rw [World.size_alloc] at this
    rw [← hW0]; exact (this.alloc _).alloc _
  have bI : Boxed W0 (w.heap.size + 1 + 1) 3 (.int .i64 0) := by
    have := Boxed.new ((w.alloc (.cells #[.slice a xs.length c] 24)).alloc (.cells #[.slice a2 ys.length c2] 24)) 3 (.int .i64 0)
    rw [World.size_alloc, World.size_alloc] at this
    rw [← hW0]; exact this.alloc _
  have bV : Boxed W0 (w.heap.size + 1 + 1 + 1) 24 (.slice a xs.length c) := by
    have := Boxed.new (((w.alloc (.cells #[.slice a xs.length c] 24)).alloc (.cells #[.slice a2 ys.length c2] 24)).alloc (.cells #[.int .i64 0] 3)) 24 (.slice a xs.length c)
    rw [World.size_alloc, World.size_alloc, World.size_alloc] at this
    rw [← hW0]; exact this
  have hsz : W0.heap.size = w.heap.size + 4 := by rw [← hW0]; simp
  have hB0 : Below w.heap.size w W0 := by rw [← hW0]; exact ((((Below.refl _ w).alloc (Nat.le_refl _) _).alloc (by simp) _).alloc (by simp; omega) _).alloc (by simp; omega) _
  have hrow := hA.row_lt
  rw [hW0]
  have HZ := Lib.hid hsz; clear hsz hW0
  refine wpIn_rangeFunc_ownG rfl (by omega) (gf := 146) (lb := #[.pointer (some ⟨w.heap.size + 1 + 1 + 1, 0, none⟩)]) rfl trivial (enters_of Tryz.func146 (by kernel_rfl) rfl)
    (upward_stops _ (by omega) (w.heap.size + 1 + 1 + 1) (.slice a xs.length c) xs (by unfold maxLen; omega) W0 (by rw [HZ.out]; omega) bV.cell (hA.below hB0)) keepN_t (keepN_b (by rw [HZ.out]; omega) (fun g e => by have := hrow g e; rw [HZ.out]; omega)) (Below.refl _ _) (fun _ => rfl)
    (fun pre W => Boxed W w.heap.size 24 (.slice a xs.length c) ∧ Boxed W (w.heap.size + 1) 24 (.slice a2 ys.length c2) ∧ Boxed W (w.heap.size + 1 + 1) 3 (.int .i64 0) ∧ Below w.heap.size w W ∧ ∀ j ∈ pre, AlikeAt xs ys j)
    (fun k pre W => Boxed W w.heap.size 24 (.slice a xs.length c) ∧ Boxed W (w.heap.size + 1) 24 (.slice a2 ys.length c2) ∧ Below w.heap.size w W ∧ ∃ p x, pre = p ++ [x] ∧ (∀ j ∈ p, AlikeAt xs ys j) ∧
      ((k = .exit 0 ∧ ¬ xs.length ≤ x.val + ys.length ∧ Boxed W (w.heap.size + 1 + 1) 3 (.int .i64 0)) ∨ (k = .ret ∧ ∃ d, ∃ h : d < ys.length, x.val + ys.length = d + xs.length ∧ compareM xs[x] ys[d] ≠ 0 ∧ Boxed W (w.heap.size + 1 + 1) 3 (.int .i64 (compareM xs[x] ys[d])))))
    (OwnFrom.and (Own.from (boxed_own _ _ _) _) (OwnFrom.and (Own.from (boxed_own _ _ _) _) (OwnFrom.and (Own.from (boxed_own _ _ _) _) (OwnFrom.and (ownFrom_below (Nat.le_refl _) (by rw [HZ.out]; omega)) (ownFrom_pure _ _)))))
    ?hix
    ⟨bA, bB, bI, hB0, by simp⟩
    (fun j => { tmps := #[.slice a xs.length c, .slice a2 ys.length c2, .pointer (some ⟨w.heap.size, 0, none⟩), .pointer (some ⟨w.heap.size + 1, 0, none⟩), .pointer (some ⟨w.heap.size + 1 + 1, 0, none⟩), .int .i64 (j.val : Int), .string ⟨xs[j].toArray⟩, undef, undef, .slice a xs.length c, .func (.func 146) #[] #[.pointer (some ⟨w.heap.size + 1 + 1 + 1, 0, none⟩)], .int .i64 (j.val : Int), .string ⟨xs[j].toArray⟩, undef, undef, undef, undef, undef, undef, undef, undef, undef, undef, undef, undef, undef, undef, undef, undef, undef, undef, undef, undef, undef, undef, undef], defers := [] }) ?assign ?body ?done ?stop
  case hix =>
    intro k pre W W' row hs hg hr
    obtain ⟨h1, h2, h3, p, x, e, h4, h5⟩ := hs
    have hO : ∀ {B : Nat} {t : TypeId} {v : Value}, Boxed W B t v → Boxed W' B t v := fun hb => Own.from (boxed_own _ _ (fun _ : Unit => _)) _ () W W' row hb hg hr
    refine ⟨hO h1, hO h2, ownFrom_below (β := Unit) (Nat.le_refl _) (by rw [HZ.out]; omega) () W W' row h3 hg hr, p, x, e, h4, ?_⟩
    rcases h5 with ⟨a1, a2, a3⟩ | ⟨a1, d, h, a2, a3, a4⟩
    · exact .inl ⟨a1, a2, hO a3⟩
    · exact .inr ⟨a1, d, h, a2, a3, hO a4⟩
  case assign =>
    intro l x W K hK
    unfold idxV strV
    gi_wp2
    exact hK
  case body =>
    rintro l pre x W ⟨hN, hM, hI, hB, hC⟩ hlt
    have cn := hN.cell
    have cm := hM.cell
    have c0 := hI.cell; have f0 := hI.frozen
    have hxi : x.val < xs.length := x.isLt
    by_cases hge : xs.length ≤ x.val + ys.length
    · obtain ⟨d, hd⟩ : ∃ d, x.val + ys.length = d + xs.length := ⟨x.val + ys.length - xs.length, by omega⟩
      have hdy : d < ys.length := by omega
      have hde : x.val + ys.length - xs.length = d := by omega
      obtain ⟨g, off, rfl, hg, hcell⟩ := hU.cell hB d hdy
      have hz1 : ys[d].length ≤ 1048576 := hk2.get d hdy
      have hx1 : xs[x].length ≤ 1048576 := hk.get x.val hxi
      obtain ⟨sx, hsx0, hsxz, hsxv⟩ := str_of xs[x]
      obtain ⟨sy, hsy0, hsyz, hsyv⟩ := str_of ys[d]
      have hS := fun W => label_Compare sx sy W (by unfold maxLen; omega) (by unfold maxLen; omega)
      rw [hsx0, hsy0] at hS
      rw [str_at hsxv]
      rw [hsyv] at hcell
      have hsub : (x.val : Int) + (ys.length : Int) - (xs.length : Int) = (d : Int) := by omega
      generalize hq : compareM xs[x] ys[d] = q at *
      have HQ := Lib.hid hq
      clear hsx0 hsxz hsxv hsy0 hsyz hsyv hx1 hz1 hq hde
      by_cases hq0 : (q != 0) = true
      · have hn : q ≠ 0 := by simpa using hq0
        have HN := Lib.hid hn; clear hn
        gi_wp2_with (refine ⟨trivial, ?_⟩; gi_at_call 147; refine (CallsIn.inRound l (callsIn_wide.2 (hS _))).mono ?_; rintro e w' ⟨rfl, n, rfl⟩)
        refine ⟨((keepsOthers_drewN _ _).trans (KeepsOthers.setCell _ _ _)).from _, hN.other (by omega) _, hM.other (by omega) _, (below_drewQ hB _).setCell (p := ⟨w.heap.size + 1 + 1, 0, none⟩) (by simp; omega) _, pre, x, rfl, hC, .inr ⟨rfl, d, hdy, hd, by rw [HQ.out]; exact HN.out, ?_⟩⟩
        rw [HQ.out]; exact Boxed.set _ (show Boxed (W.drewN n) (w.heap.size + 1 + 1) 3 (.int .i64 0) from hI)
      · have hn : (q != 0) = false := by simpa using hq0
        have hn0 : q = 0 := by simpa using hn
        have HN := Lib.hid hn0; clear hn0 hq0
        gi_wp2_with (refine ⟨trivial, ?_⟩; gi_at_call 147; refine (CallsIn.inRound l (callsIn_wide.2 (hS _))).mono ?_; rintro e w' ⟨rfl, n, rfl⟩)
        refine ⟨(keepsOthers_drewN _ _).from _, KeepN.drewN _ _, hN, hM, hI, below_drewQ hB _, ?_⟩
        intro j hj
        rcases List.mem_append.1 hj with hj | hj
        · exact hC j hj
        · obtain rfl := List.mem_singleton.1 hj; exact ⟨d, hdy, hd, by rw [HQ.out]; exact HN.out⟩
    · have hneg : (x.val : Int) + (ys.length : Int) - (xs.length : Int) < 0 := by omega
      gi_wp2
      exact ⟨(KeepsOthers.refl _).from _, hN, hM, hB, pre, x, rfl, hC, .inl ⟨rfl, hge, hI⟩⟩
  case done =>
    rintro D zs W hD rfl ⟨hN, hM, hI, hB, hC⟩ hK
    have cn := hN.cell
    have cm := hM.cell
    have c0 := hI.cell; have f0 := hI.frozen
    have hDn : w.heap.size + 1 + 1 ≠ D := by have := HZ.out; omega
    have hE : compareN xs ys = cmpI xs.length ys.length := compareN_even (fun j h1 h2 => (hC ⟨j, h1⟩ (by simp)).eq.2 (by omega))
    have HE := Lib.hid hE; clear hE hC
    gi_wp2_with (refine ⟨trivial, ?_⟩; gi_at_call 130; refine (callsIn_wide.2 (cmp_int _ _ _)).mono ?_; rintro e w' ⟨rfl, rfl⟩)
    refine ⟨by simp, .inl ⟨_, _, rfl, run_takeDeferred (heap_setOther hK hDn.symm _), ?_⟩⟩
    refine ⟨_, results_cell rfl Tryz.underlying3 _ _ rfl (out_cell (hI.set _) hDn _), by rw [HE.out], ?_⟩
    exact below_putO (hB.setCell (p := ⟨w.heap.size + 1 + 1, 0, none⟩) (by simp; omega) _) (by have := HZ.out; omega) (Nat.le_refl _)
  case stop =>
    rintro D k pre W hD hp ⟨hN, hM, hB, p, x, rfl, hp0, hor⟩ hK
    have cn := hN.cell
    have cm := hM.cell
    have hDn : w.heap.size + 1 + 1 ≠ D := by have := HZ.out; omega
    obtain ⟨_, hall⟩ := rev_prefix hp
    rcases hor with ⟨rfl, hx, hI⟩ | ⟨rfl, d, hd, he, hne, hI⟩
    · have c0 := hI.cell; have f0 := hI.frozen
      have hE : compareN xs ys = cmpI xs.length ys.length := compareN_even (fun j h1 h2 => (hp0 ⟨j, h1⟩ (hall _ (by show x.val < j; omega))).eq.2 (by omega))
      have HE := Lib.hid hE; clear hE hall hp0 hx
      gi_wp2_with (refine ⟨trivial, ?_⟩; gi_at_call 130; refine (callsIn_wide.2 (cmp_int _ _ _)).mono ?_; rintro e w' ⟨rfl, rfl⟩)
      refine ⟨by simp, .inl ⟨_, _, rfl, run_takeDeferred (heap_setOther hK hDn.symm _), ?_⟩⟩
      refine ⟨_, results_cell rfl Tryz.underlying3 _ _ rfl (out_cell (hI.set _) hDn _), by rw [HE.out], ?_⟩
      exact below_putO (hB.setCell (p := ⟨w.heap.size + 1 + 1, 0, none⟩) (by simp; omega) _) (by have := HZ.out; omega) (Nat.le_refl _)
    · have c0 := hI.cell; have f0 := hI.frozen
      have hE : compareN xs ys = compareM xs[x] ys[d] := by
        obtain rfl : d = x.val + ys.length - xs.length := by omega
        exact compareN_at x.val x.isLt (by omega) hne (fun j h1 h2 h3 => (hp0 ⟨j, h1⟩ (hall _ h3)).eq.2 (by omega))
      have HE := Lib.hid hE; clear hE hall hp0
      gi_wp2
      refine ⟨by simp, .inl ⟨_, _, rfl, run_takeDeferred hK, ?_⟩⟩
      refine ⟨_, results_cell rfl Tryz.underlying3 _ _ rfl (out_cell hI hDn _), by rw [HE.out], ?_⟩
      exact below_putO hB (by have := HZ.out; omega) (Nat.le_refl _)
end
end Go.Proofs.YtckammgnmgkieaaGreat

/-
  Contract of name.Text.
-/
namespace Go.Proofs.YtckammgnmgkieaaGreat
set_option maxRecDepth 20000
open Go.RowKit Go.Shelf

theorem wplIn_append_str {F : Fence} {d : Nat} {ops : Array Oper} {rest : List Oper} {o : Oper} {a : Act} {Q : Exit → Act → World → Prop} (W : World) (hgd : o.guard = none) (sl x : Operand)
    (ho : o.op = .call { callee := .builtin .append, args := #[sl, x], argTypes := #[99, 9] })
    (base : Nat) (v : Value) (xs : List UInt8) (hs : a.eval sl = v) (hown : OwnG 5 bv W base v xs) (s : ByteArray) (hx : a.eval x = .string s)
    (hbase : base ≤ W.heap.size) (hk : xs.length + s.size ≤ 140737488355328)
    (h : ∀ v' w', OwnG 5 bv w' base v' (xs ++ s.data.toList) → W.grownBy w' v.ownBlock → wpListIn F d Tryz.prog ops Q rest (a.put o.dst v') w') : wpListIn F d Tryz.prog ops Q (o :: rest) a W := by
  obtain ⟨i0, hi, hz0, hz1, hz2⟩ := info_parts info_u8
  refine wpListIn_plain hgd fun K hK => ?_
  obtain ⟨v', w', hr, h2, h3, h4⟩ := Lib.run_append_own_string (P := Tryz.prog) (w := W) base 99 9 o.type 5 i0 Tryz.underlying99 Tryz.underlying9 hi hz0 hz1 hz2 v xs.length (xs.map bv) hown s (by unfold maxLen; omega) hk hbase
  unfold Oper.wpIn
  refine ⟨?_, ?_⟩
  · simp [Oper.about, ho, resolve, Target.leads, Sem.run_pure]
  · rw [Oper.semAt_plain F _ _ (by rw [ho]; intro c hc'; cases hc')]
    simp [execOp, ho, resolve, invoke, builtin, hs, hx, hr, Result.andThen]
    refine hK _ _ (h v' w' ?_ h3)
    unfold OwnG
    rw [List.length_append, List.map_append, size_data]
    exact h2

def textF (n : Nm) : List UInt8 := n.flatMap fun x => textL x ++ [46]
theorem textF_snoc (n : Nm) (x : List UInt8) : textF (n ++ [x]) = textF n ++ textL x ++ [46] := by simp [textF]
theorem textN_eq {n : Nm} (h : n ≠ []) : textN n = textF n := by unfold textN; rw [if_neg h]; rfl
theorem textF_le {xs : Nm} (h : NmOK xs) (pre : List (Fin xs.length)) : (textF (atN xs pre)).length ≤ pre.length * 4194305 := by
  induction pre with
  | nil => simp [textF, atN]
  | cons j r ih =>
    have h1 := h.get j.val j.isLt
    have h2 := textL_le xs[j]
    simp only [textF, atN, List.map_cons, List.flatMap_cons, List.length_append, List.length_cons, List.length_nil, Fin.getElem_fin] at ih h2 ⊢
    omega

section
attribute [local go_sem] Oper.semAt_some
set_option maxRecDepth 100000 in
set_option maxHeartbeats 4000000 in
theorem name_Text (v : Value) (xs : Nm) (w : World) (hA : StrsAt w v xs) (hk : NmOK xs) :
    Calls Tryz.prog 139 #[v] w fun e w' => e = .returned (.string ⟨(textN xs).toArray⟩) ∧ Below w.heap.size w w' := by
  obtain ⟨a, c, rfl, hx⟩ := id hA
  have hl := hk.1
  have hrow := hA.row_lt
  refine (callsIn_wide (n := 5)).1 ?_
  refine callsIn_of_wp_marks Tryz.func139 rfl trivial ?_ rfl
  simp only [Tryz.ntmps139, List.size_toArray, List.length_cons, List.length_nil, Nat.reduceAdd, Nat.reduceSub, Array.replicate_succ, Array.replicate_zero, List.push_toArray, List.append_toArray, List.nil_append, List.cons_append]
  by_cases h0 : xs = []
  · have h00 : xs.length = 0 := by rw [h0]; rfl
    have ht : textN xs = [46] := by unfold textN; rw [if_pos h0]
    have HT := Lib.hid ht
    rw [h00]
    clear h0 ht
    gi_wp2
    exact ⟨_, results_tmp rfl _ _ _, by rw [HT.out]; rfl, Below.refl _ _⟩
  have HT := Lib.hid (textN_eq h0)
  have hne : ((xs.length : Int) == 0) = false := by
    have : xs.length ≠ 0 := fun e => h0 (List.eq_nil_of_length_eq_zero e)
    simp; omega
  clear h0
  gi_wp2_with (refine ⟨trivial, ?_⟩; gi_at_call 103; refine (callsIn_wide.2 (name_labels _ _ _ _)).mono ?_; rintro e w' ⟨rfl, rfl⟩)
  obtain ⟨W0, hW0⟩ : ∃ W0, ((w.alloc (.cells #[.slice none 0 0] 99)).alloc (.cells #[.slice a xs.length c] 24)) = W0 := ⟨_, rfl⟩
  have bS : Boxed W0 (w.heap.size + 1) 24 (.slice a xs.length c) := by
    have := Boxed.new (w.alloc (.cells #[.slice none 0 0] 99)) 24 (.slice a xs.length c)
    rw [World.size_alloc] at this
    rw [← hW0]; exact this
  have hsz : W0.heap.size = w.heap.size + 2 := by rw [← hW0]; simp
  have hB0 : Below w.heap.size w W0 := by rw [← hW0]; exact ((Below.refl _ w).alloc (Nat.le_refl _) _).alloc (by simp) _
  have hI0 : GBox 5 99 bv w.heap.size w.heap.size [] W0 := by rw [← hW0]; exact ⟨_, (Boxed.new w _ _).alloc _, OwnG.nil _ _⟩
  rw [hW0]
  have HZ := Lib.hid hsz; clear hsz hW0
  refine wpIn_rangeFunc_ownG rfl (by omega) (gf := 143) (lb := #[.pointer (some ⟨w.heap.size + 1, 0, none⟩)]) rfl trivial (enters_of Tryz.func143 (by kernel_rfl) rfl)
    (labels_stops _ (by omega) (w.heap.size + 1) (.slice a xs.length c) xs (by unfold maxLen; omega) W0 (by rw [HZ.out]; omega) bS.cell (hA.below hB0)) keepN_t (keepN_b (by rw [HZ.out]; omega) (fun g e => by have := hrow g e; rw [HZ.out]; omega)) (Below.refl _ _) (fun _ => rfl)
    (fun pre W => GBox 5 99 bv w.heap.size w.heap.size (textF (atN xs pre)) W ∧ Below w.heap.size w W ∧ Boxed W (w.heap.size + 1) 24 (.slice a xs.length c))
    (fun _ _ _ => False)
    (OwnFrom.and (Own.from (gBox_own w.heap.size w.heap.size (fun pre => textF (atN xs pre))) _) (OwnFrom.and (ownFrom_below (Nat.le_refl _) (by rw [HZ.out]; omega)) (Own.from (boxed_own _ _ _) _)))
    (fun _ _ _ _ _ hs _ _ => hs)
    ⟨hI0, hB0, bS⟩
    (fun j => { tmps := #[.slice a xs.length c, undef, .string ⟨#[]⟩, .pointer (some ⟨w.heap.size, 0, none⟩), undef, .string ⟨xs[j].toArray⟩, .slice a xs.length c, .int .i64 xs.length, .bool false, .slice a xs.length c, .func (.func 143) #[] #[.pointer (some ⟨w.heap.size + 1, 0, none⟩)], .int .i64 (j.val : Int), .string ⟨xs[j].toArray⟩, undef, undef, undef, undef, undef, undef, undef, undef, undef], defers := [] }) ?assign ?body ?done ?stop
  case assign =>
    intro l x W K hK
    unfold idxV strV
    gi_wp2
    exact hK
  case body =>
    rintro l pre x W ⟨⟨u, hv, hown⟩, hB, hS⟩ hlt
    have hc := hv.cell
    have hple := textF_le hk pre
    have hx1 : xs[x].length ≤ 1048576 := hk.get x.val x.isLt
    obtain ⟨sx, hsx0, hsxz, hsxv⟩ := str_of xs[x]
    have hF := fun W => label_Text sx W (by omega)
    rw [hsx0] at hF
    rw [str_at hsxv]
    have hsn : textF (atN xs (pre ++ [x])) = textF (atN xs pre) ++ textL xs[x] ++ [46] := by rw [atN_snoc, textF_snoc]
    have HSN := Lib.hid hsn
    have htl := textL_le xs[x]
    clear hsx0 hsxz hsxv hsn
    generalize textF (atN xs pre) = fs at *
    obtain ⟨sy, hsy0, hsyz, _⟩ := str_of (textL xs[x])
    rw [show (⟨(textL xs[x]).toArray⟩ : ByteArray) = sy from ba_ext (by rw [hsy0])] at hF
    rw [← hsy0] at HSN
    have hfb : fs.length + sy.size + 1 ≤ 140737488355328 := by omega
    clear hsy0 hsyz htl hple hx1
    gi_wp2
    have kd : KeepsOthers W W.drew := KeepsOthers.drew W
    have bd : Below w.heap.size W W.drew := (Below.refl _ W).drew
    have kbd : KeepN (w.heap.size + 1) (.slice a xs.length c) W W.drew := ⟨rfl, fun _ _ => rfl⟩
    have hvd : Boxed W.drew w.heap.size 99 u := hv
    have hownd : OwnG 5 bv W.drew w.heap.size u fs := hown
    have hSd : Boxed W.drew (w.heap.size + 1) 24 (.slice a xs.length c) := hS
    clear hc
    refine wpIn_region_orders [[0, 1, 2, 3, 4], [1, 0, 2, 3, 4], [1, 2, 0, 3, 4]] follows_mixed (by kernel_rfl) ?_
    generalize W.drew = Wd at *
    have hc := hvd.cell
    have hbase : w.heap.size ≤ Wd.heap.size := by have := hB.size; have := bd.size; omega
    refine ⟨?_, ?_, ?_, trivial⟩
    all_goals
      simp only [List.filterMap_cons, List.filterMap_nil, List.getElem?_toArray, List.getElem?_cons_zero, List.getElem?_cons_succ]
      change wpListIn _ _ _ _ _ [_, _, _, _, _] _ _
      gi_wp2_with (first | (gi_at_builtin; refine wplIn_append_str w2 rfl (.tmp 13) (.tmp 15) rfl w.heap.size u fs rfl hown2 sy rfl hbase2 (by omega) ?_; intro v' w1 hown' hg'; obtain ⟨a', n', c', rfl⟩ : ∃ a n c, v' = .slice a n c := (by obtain ⟨a, c, e⟩ := hown'.shape; exact ⟨_, _, _, e⟩); obtain ⟨hv1, ho2, hk2, hbb2, hs2⟩ := gboxed_appends (by decide) hv2 hown2 (by omega) hown' hg'; have hc1 := hv1.cell; have hf1 := hv1.frozen; have hv3 := hv1.set (.slice a' n' c'); have hown3 : OwnU8 (w1.setCell ⟨w.heap.size, 0, none⟩ (.slice a' n' c')) w.heap.size (.slice a' n' c') (fs ++ sy.data.toList) := OwnG.kept hown' (grownBy_setCell' w1 _ _) (.inr (hv1.not_row (by decide) hown').symm); have hc3 := hv3.cell; have hbase3 := Nat.le_trans hbase2 hk2.size) | (gi_at_builtin; refine wplIn_append_u8 (w1.setCell ⟨w.heap.size, 0, none⟩ (.slice a' n' c')) rfl (.tmp 17) (.tmp 18) rfl w.heap.size (.slice a' n' c') (fs ++ sy.data.toList) rfl hown3 [.int .u8 46] [46] rfl 1 1 (by simp [Act.eval]) rfl hbase3 (by rw [List.length_append, size_data]; simp; omega) ?_; intro v4 w4 hown4 hg4; obtain ⟨a4, n4, c4, rfl⟩ := hown4.shape; obtain ⟨hv5, ho5, hk5, hbb5, hs5⟩ := gboxed_appends (enc := bv) (by decide) hv3 hown3 (by omega) hown4 hg4; have hc5 := hv5.cell; have hf5 := hv5.frozen) | (refine ⟨trivial, ?_⟩; gi_at_call 173; refine (CallsIn.inRound l (callsIn_wide.2 (hF _))).mono ?_; rintro e w2 ⟨rfl, hb2⟩; have hv2 : Boxed w2 w.heap.size 99 u := (hb2.block _ hvd.lt).trans hvd; have hS2 : Boxed w2 (w.heap.size + 1) 24 (.slice a xs.length c) := (hb2.block _ hSd.lt).trans hSd; have hown2 := hownd.below hb2; have hc2 := hv2.cell; have hbase2 : w.heap.size ≤ w2.heap.size := Nat.le_trans hbase hb2.size))
      have kB := hs2 (w.heap.size + 1) 24 (by decide) hS2.lt (by omega) _ hS2
      have hS3 := boxed_keep kB hS2
      have kB5 := hs5 (w.heap.size + 1) 24 (by decide) hS3.lt (by omega) _ hS3
      have ko : KeepsOthers Wd w2 := ⟨hb2.size, fun k o hk _ => (hb2.block k (Array.getElem?_eq_some_iff.1 hk).1).trans hk⟩
      refine ⟨((kd.trans (ko.trans hk2)).trans hk5).from _, kbd.trans ((KeepN.below hb2 hSd.lt (fun g e => by have := hrow g e; omega)).trans ⟨kB.trans kB5, fun g e => ?_⟩), by rw [HSN.out]; exact ho5, hB.trans (bd.trans (((hb2.mono hbase).trans hbb2).trans hbb5)), boxed_keep kB5 hS3⟩
      have h1 := hrow g e
      have hz1 := hg'.size
      exact ((KeepB.of_grownBy hg' (by omega) (fun q => by have := hown2.base_le g q.symm; omega)).trans (KeepB.setCell _ _ (by omega))).trans ((KeepB.of_grownBy hg4 (by omega) (fun q => by have := hown3.base_le g q.symm; omega)).trans (KeepB.setCell _ _ (by omega)))
  case done =>
    rintro D ys W hD rfl ⟨⟨u, hv, hown⟩, hB, _⟩ hK
    have hc := hv.cell
    have hcv := OwnU8.string (show OwnU8 W w.heap.size u (textF (atN xs (List.finRange xs.length))) from hown)
    rw [atN_all, ← HT.out] at hcv
    gi_wp2
    refine ⟨by simp, .inl ⟨_, _, rfl, run_takeDeferred hK, ?_⟩⟩
    exact ⟨_, results_tmp rfl _ _ _, rfl, hB.trans (belowK_b (w := w) (Nat.le_refl _) W D _ _ (by have := HZ.out; omega) hK rfl rfl)⟩
  case stop =>
    rintro D c pre W _ _ h _
    exact h.elim
end
end Go.Proofs.YtckammgnmgkieaaGreat

/-
  The document's names: NameText; the statements' own helpers of layer 2: Few, Is.
-/
namespace Go.Proofs.YtckammgnmgkieaaGreat
set_option maxRecDepth 20000
open Go.RowKit Go.Shelf

def fewN (xs : Nm) : Bool := decide (xs.length ≤ 140 ∧ ∀ x ∈ xs, x.length ≤ 100)
theorem fewN_ok {xs : Nm} (h : fewN xs = true) : NmOK xs := by
  have := of_decide_eq_true h
  exact ⟨by omega, fun x hx => by have := this.2 x hx; omega⟩

set_option maxHeartbeats 4000000 in
theorem law2_Few (v : Value) (xs : Nm) (w : World) (hA : StrsAt w v xs) (hm : xs.length ≤ maxLen) (hk : ∀ x ∈ xs, x.length ≤ maxLen) :
    Calls Tryz.prog 13 #[v] w fun e w' => e = .returned (.bool (fewN xs)) ∧ w' = w := by
  obtain ⟨a, c, rfl, _⟩ := id hA
  unfold maxLen at hm hk
  obtain ⟨n, hn⟩ : ∃ n, xs.length = n := ⟨_, rfl⟩
  have hcell := fun j hj => hA.cell (Below.refl _ w) j hj
  rw [hn] at hm ⊢
  have HN := Lib.hid hn
  clear hA hn
  by_cases hbig : 140 < (n : Int)
  · have H0 : Hid (fewN xs = false) := Lib.hid (decide_eq_false (fun h => by have := HN.out; omega))
    go_enter Tryz.func13, Tryz.ntmps13
    go_wp2
    go_ret
    exact ⟨by rw [H0.out]; rfl, rfl⟩
  go_enter Tryz.func13, Tryz.ntmps13
  go_wp2
  go_loopw [3] (fun i wr => ∃ k : Nat, i = .int .i64 k ∧ k ≤ n ∧ Hid (∀ x ∈ xs.take k, x.length ≤ 100) ∧ wr = w) (fun i _ => n - (intOf i).toNat)
  case atStart => exact ⟨0, rfl, Nat.zero_le _, Lib.hid (by simp), rfl⟩
  case round =>
    obtain ⟨k, rfl, hkn, HC, rfl⟩ := hrel
    by_cases hlt : k < n
    · have hkp : k < xs.length := by rw [HN.out]; exact hlt
      obtain ⟨g, off, rfl, hg, hc⟩ := hcell k hkp
      obtain ⟨s, hs0, hsz, hsv⟩ := str_of xs[k]
      rw [hsv] at hc
      have hxk := hk _ (List.getElem_mem hkp)
      rw [← hsz] at hxk
      by_cases hb : 100 < (s.size : Int)
      · have H0 : Hid (fewN xs = false) := Lib.hid (decide_eq_false (fun h => by have := h.2 _ (List.getElem_mem hkp); omega))
        clear hs0 hsz hsv hk
        go_wp2
        go_ret
        exact ⟨by rw [H0.out]; rfl, rfl⟩
      · have HC2 : Hid (∀ x ∈ xs.take (k + 1), x.length ≤ 100) := Lib.hid (by
          intro x hx; rw [List.take_succ_eq_append_getElem hkp] at hx
          rcases List.mem_append.1 hx with h | h
          · exact HC.out x h
          · obtain rfl := List.mem_singleton.1 h; omega)
        clear hs0 hsz hsv hk
        go_wp2
        go_roundw
        case rel => exact ⟨k + 1, by go_num, by omega, HC2, trivial⟩
        case measure => simp [intOf]; omega
    · obtain rfl : k = n := by omega
      have H0 : Hid (fewN xs = true) := Lib.hid (decide_eq_true ⟨by have := HN.out; omega, by have h := HC.out; rw [List.take_of_length_le (by rw [HN.out]; exact Nat.le_refl _)] at h; exact h⟩)
      clear hk
      go_wp2
      go_ret
      exact ⟨by rw [H0.out]; rfl, rfl⟩

end Go.Proofs.YtckammgnmgkieaaGreat

/-
  Records: plain data, their order, rows in their own order.
-/
namespace Go.Proofs.YtckammgnmgkieaaGreat
set_option maxRecDepth 20000
open Go.RowKit Go.Shelf
open Stb (COrd)

theorem cord_orI {α : Type} {f g : α → α → Int} (hf : COrd f) (hg : COrd g) : COrd (fun a b => orI (f a b) (g a b)) := by
  refine ⟨fun x y => orI_swap (hf.anti x y) (hg.anti x y), fun x y z h1 h2 => ?_⟩
  have a1 := hf.anti x y; have a2 := hf.anti y z; have a3 := hf.anti x z
  have t1 := hf.trans x y z; have t2 := hf.trans y z x; have t3 := hf.trans z x y
  have u1 := hg.trans x y z
  unfold orI at *
  by_cases c1 : f x y = 0 <;> by_cases c2 : f y z = 0 <;> by_cases c3 : f x z = 0 <;> simp only [c1, c2, c3, if_true, if_false] at h1 h2 ⊢ <;> first | omega | exact u1 h1 h2
theorem cord_on {α β : Type} {f : β → β → Int} (hf : COrd f) (p : α → β) : COrd (fun a b => f (p a) (p b)) := ⟨fun _ _ => hf.anti _ _, fun _ _ _ => hf.trans _ _ _⟩
theorem cord_cmpI : COrd cmpI := ⟨cmpI_swap, fun a b c => by
  rcases cmpI_cases a b with ⟨h, h2⟩ | ⟨h, h2⟩ | ⟨h, h2⟩ <;> rcases cmpI_cases b c with ⟨g, g2⟩ | ⟨g, g2⟩ | ⟨g, g2⟩ <;> rcases cmpI_cases a c with ⟨k, k2⟩ | ⟨k, k2⟩ | ⟨k, k2⟩ <;> omega⟩
theorem cmpL_trans {α : Type} {f : α → α → Int} (hf : COrd f) : ∀ a b c : List α, cmpL f a b ≤ 0 → cmpL f b c ≤ 0 → cmpL f a c ≤ 0
  | [], [], _, _, h2 => h2
  | [], _ :: _, [], _, _ => by simp [cmpL]
  | [], _ :: _, _ :: _, _, _ => by simp [cmpL]
  | _ :: _, [], _, h1, _ => by simp [cmpL] at h1
  | _ :: _, _ :: _, [], _, h2 => by simp [cmpL] at h2
  | x :: r, y :: s, z :: t, h1, h2 => by
    have ih := cmpL_trans hf r s t
    have a1 := hf.anti x y; have a2 := hf.anti y z; have a3 := hf.anti x z
    have t1 := hf.trans x y z; have t2 := hf.trans y z x; have t3 := hf.trans z x y
    simp only [cmpL] at *
    by_cases c1 : f x y = 0 <;> by_cases c2 : f y z = 0 <;> by_cases c3 : f x z = 0 <;> simp only [c1, c2, c3, if_true, if_false] at h1 h2 ⊢ <;> first | omega | exact ih h1 h2
theorem cord_cmpL {α : Type} {f : α → α → Int} (hf : COrd f) : COrd (cmpL f) := ⟨fun x y => cmpL_swap hf.anti x y, cmpL_trans hf⟩
theorem cord_compareN : COrd compareN := ⟨compareN_swap, compareN_trans⟩
theorem cord_orderM : COrd orderM := by
  have e : orderM = cmpL cmpB := by funext a b; exact orderM_cmpL a b
  rw [e]
  exact cord_cmpL (cord_on cord_cmpI (fun b : UInt8 => (b.toNat : Int)))
theorem cord_compareD : COrd compareD :=
  cord_orI (cord_on cord_cmpI Dat.ty) (cord_orI (cord_on (cord_cmpL cord_compareN) Dat.names) (cord_orI (cord_on (cord_cmpL (cord_on cord_cmpI (fun n : Nat => (n : Int)))) Dat.nums) (cord_orI (cord_on (cord_cmpL cord_orderM) Dat.texts) (cord_on (cord_cmpL (cord_on cord_cmpI (fun b : UInt8 => (b.toNat : Int)))) Dat.raw))))

structure Rc where
  owner : Nm
  ttl : Nat
  data : Dat
def compareR (a b : Rc) : Int := orI (compareN a.owner b.owner) (compareD a.data b.data)
def sameR (a b : Rc) : Bool := compareR a b == 0
theorem cord_compareR : COrd compareR := cord_orI (cord_on cord_compareN Rc.owner) (cord_on cord_compareD Rc.data)
theorem compareR_self (a : Rc) : compareR a a = 0 := by have := cord_compareR.anti a a; omega

def minT (a b : Nat) : Nat := if b < a then b else a
def insR : List Rc → Rc → List Rc
  | [], x => [x]
  | y :: r, x => if compareR y x < 0 then y :: insR r x else if compareR y x = 0 then ⟨y.owner, minT y.ttl x.ttl, y.data⟩ :: r else x :: y :: r
def canonM (l : List Rc) : List Rc := l.foldl insR []

def insS : List Rc → Rc → List Rc
  | [], x => [x]
  | y :: r, x => if compareR y x ≤ 0 then y :: insS r x else x :: y :: r
def sortM (l : List Rc) : List Rc := l.foldl insS []
def leastM (t : Nat) (l : List Rc) : Nat := l.foldl (fun m x => minT m x.ttl) t
def grpM : Nat → List Rc → List Rc
  | 0, _ => []
  | _, [] => []
  | n + 1, y :: r => ⟨y.owner, leastM y.ttl (r.takeWhile (sameR y)), y.data⟩ :: grpM n (r.dropWhile (sameR y))
theorem grpM_more : ∀ (n m : Nat) (l : List Rc), l.length ≤ n → l.length ≤ m → grpM n l = grpM m l
  | 0, 0, l, _, _ => rfl
  | 0, m + 1, l, h, _ => by
    have : l = [] := List.eq_nil_of_length_eq_zero (by omega)
    subst this; rfl
  | n + 1, 0, l, _, h => by
    have : l = [] := List.eq_nil_of_length_eq_zero (by omega)
    subst this; rfl
  | n + 1, m + 1, [], _, _ => rfl
  | n + 1, m + 1, y :: r, h1, h2 => by
    have hl : (r.dropWhile (sameR y)).length ≤ r.length := (List.dropWhile_sublist _).length_le
    simp only [List.length_cons] at h1 h2
    simp only [grpM]
    rw [grpM_more n m _ (by omega) (by omega)]
def grp (l : List Rc) : List Rc := grpM l.length l
theorem grp_cons (y : Rc) (r : List Rc) : grp (y :: r) = ⟨y.owner, leastM y.ttl (r.takeWhile (sameR y)), y.data⟩ :: grp (r.dropWhile (sameR y)) := by
  have hl : (r.dropWhile (sameR y)).length ≤ r.length := (List.dropWhile_sublist _).length_le
  unfold grp
  simp only [List.length_cons, grpM]
  rw [grpM_more r.length _ _ hl (Nat.le_refl _)]
theorem grp_nil : grp [] = [] := rfl

def RisesR (l : List Rc) : Prop := l.Pairwise fun a b => compareR a b ≤ 0

theorem insS_eq {y x : Rc} (hyx : compareR y x = 0) : ∀ (E R : List Rc), (∀ e ∈ E, compareR y e = 0) → (∀ z ∈ R.head?, 0 < compareR z y) → insS (E ++ R) x = E ++ x :: R
  | [], R, _, h => by
    cases R with
    | nil => rfl
    | cons z R =>
      have hz : 0 < compareR z y := h z (by simp)
      have t := cord_compareR.trans z x y
      have a := cord_compareR.anti x y
      have : ¬ compareR z x ≤ 0 := by intro hh; have := t hh (by have := cord_compareR.anti y x; omega); omega
      simp [insS, this]
  | e :: E, R, h1, h2 => by
    have he : compareR y e = 0 := h1 e (by simp)
    have t := cord_compareR.trans e y x
    have a := cord_compareR.anti y e
    have : compareR e x ≤ 0 := t (by omega) (by omega)
    simp only [List.cons_append, insS, if_pos this]
    rw [insS_eq hyx E R (fun e h => h1 e (by simp [h])) h2]
theorem insS_lt {y x : Rc} (hyx : compareR y x < 0) : ∀ (E R : List Rc), (∀ e ∈ E, compareR y e = 0) → insS (E ++ R) x = E ++ insS R x
  | [], R, _ => rfl
  | e :: E, R, h1 => by
    have he : compareR y e = 0 := h1 e (by simp)
    have t := cord_compareR.trans e y x
    have a := cord_compareR.anti y e
    have : compareR e x ≤ 0 := t (by omega) (by omega)
    simp only [List.cons_append, insS, if_pos this]
    rw [insS_lt hyx E R (fun e h => h1 e (by simp [h]))]
theorem leastM_snoc (t : Nat) (E : List Rc) (x : Rc) : leastM t (E ++ [x]) = minT (leastM t E) x.ttl := by simp [leastM, List.foldl_append]
theorem takeWhile_app {p : Rc → Bool} : ∀ (E R : List Rc), (∀ e ∈ E, p e = true) → (∀ z ∈ R.head?, p z = false) → (E ++ R).takeWhile p = E ∧ (E ++ R).dropWhile p = R
  | [], [], _, _ => ⟨rfl, rfl⟩
  | [], z :: R, _, h => by
    have : p z = false := h z (by simp)
    simp [this]
  | e :: E, R, h1, h2 => by
    have he := h1 e (by simp)
    have ih := takeWhile_app E R (fun e h => h1 e (by simp [h])) h2
    simp only [List.cons_append, List.takeWhile_cons, List.dropWhile_cons, he, if_true]
    exact ⟨by rw [ih.1], ih.2⟩
theorem insS_mem {x : Rc} : ∀ (l : List Rc) (z : Rc), z ∈ insS l x → z = x ∨ z ∈ l
  | [], z, h => by simp [insS] at h; exact .inl h
  | y :: r, z, h => by
    simp only [insS] at h
    split at h
    · rcases List.mem_cons.1 h with rfl | h
      · simp
      · rcases insS_mem r z h with h | h <;> simp [h]
    · simp at h; rcases h with h | h | h <;> simp [h]
theorem insS_head {x : Rc} (l : List Rc) (z : Rc) (h : z ∈ (insS l x).head?) : z = x ∨ z ∈ l.head? := by
  cases l with
  | nil => simp [insS] at h; exact .inl h.symm
  | cons y r =>
    simp only [insS] at h
    split at h
    · right; simpa using h
    · left; simp at h; exact h.symm

theorem dropWhile_head (p : Rc → Bool) : ∀ (l : List Rc) (z : Rc), z ∈ (l.dropWhile p).head? → p z = false
  | [], z, h => by simp at h
  | y :: r, z, h => by
    rw [List.dropWhile_cons] at h
    split at h
    · exact dropWhile_head p r z h
    · rename_i hy
      simp at h; subst h; simpa using hy

theorem grp_insS (x : Rc) : ∀ (n : Nat) (l : List Rc), l.length ≤ n → RisesR l → grp (insS l x) = insR (grp l) x
  | _, [], _, _ => by simp [insS, grp_cons, grp_nil, insR, leastM]
  | 0, y :: r, h, _ => by simp at h
  | n + 1, y :: r, h, hR => by
    have hl : (r.dropWhile (sameR y)).length ≤ r.length := (List.dropWhile_sublist _).length_le
    have hp := List.takeWhile_append_dropWhile (p := sameR y) (l := r)
    have hE : ∀ e ∈ r.takeWhile (sameR y), compareR y e = 0 := fun e he => by
      have hh : ∀ (l : List Rc), e ∈ l.takeWhile (sameR y) → sameR y e = true := by
        intro l
        induction l with
        | nil => intro h; simp at h
        | cons a l ih =>
          intro h
          rw [List.takeWhile_cons] at h
          split at h
          · rename_i ha
            rcases List.mem_cons.1 h with rfl | h
            · exact ha
            · exact ih h
          · simp at h
      have := hh r he
      simpa [sameR] using this
    have hH : ∀ z ∈ (r.dropWhile (sameR y)).head?, 0 < compareR z y := fun z hz => by
      have h1 := dropWhile_head (sameR y) r z hz
      have h2 : z ∈ r := (List.dropWhile_sublist _).mem (List.mem_of_mem_head? hz)
      have h3 : compareR y z ≤ 0 := (List.pairwise_cons.1 hR).1 z h2
      have := cord_compareR.anti y z
      simp [sameR] at h1
      omega
    have hRR : RisesR (r.dropWhile (sameR y)) := List.Pairwise.sublist (List.dropWhile_sublist _) (List.pairwise_cons.1 hR).2
    simp only [List.length_cons] at h
    generalize hEE : r.takeWhile (sameR y) = E at *
    generalize hDD : r.dropWhile (sameR y) = R at *
    have hEs : ∀ e ∈ E, sameR y e = true := fun e he => by simp [sameR, hE e he]
    rw [grp_cons, hEE, hDD]
    have hcy : ∀ t, compareR ⟨y.owner, t, y.data⟩ x = compareR y x := fun t => rfl
    simp only [insR, hcy]
    by_cases c : compareR y x < 0
    · rw [if_pos c]
      have e1 : insS (y :: r) x = y :: (E ++ insS R x) := by
        simp only [insS, if_pos (show compareR y x ≤ 0 by omega)]
        rw [← hp, insS_lt c E R hE]
      rw [e1, grp_cons]
      have hh : ∀ z ∈ (insS R x).head?, sameR y z = false := fun z hz => by
        rcases insS_head R z hz with rfl | hz
        · simp [sameR]; omega
        · have := hH z hz
          have := cord_compareR.anti y z
          simp [sameR]; omega
      obtain ⟨t1, t2⟩ := takeWhile_app E (insS R x) hEs hh
      rw [t1, t2, grp_insS x n R (by omega) hRR]
    · rw [if_neg c]
      by_cases c0 : compareR y x = 0
      · rw [if_pos c0]
        have e1 : insS (y :: r) x = y :: (E ++ [x] ++ R) := by
          simp only [insS, if_pos (show compareR y x ≤ 0 by omega)]
          rw [← hp, insS_eq c0 E R hE hH]; simp
        rw [e1, grp_cons]
        have hh : ∀ z ∈ R.head?, sameR y z = false := fun z hz => by
          have := hH z hz
          have := cord_compareR.anti y z
          simp [sameR]; omega
        obtain ⟨t1, t2⟩ := takeWhile_app (E ++ [x]) R (fun e he => by
          rcases List.mem_append.1 he with he | he
          · exact hEs e he
          · simp at he; subst he; simp [sameR, c0]) hh
        rw [t1, t2, leastM_snoc]
      · rw [if_neg c0]
        have e1 : insS (y :: r) x = x :: y :: r := by simp only [insS, if_neg (show ¬ compareR y x ≤ 0 by omega)]
        rw [e1, grp_cons]
        have hne : sameR x y = false := by
          have := cord_compareR.anti x y
          simp [sameR]; omega
        simp only [List.takeWhile_cons, List.dropWhile_cons, hne, Bool.false_eq_true, if_false]
        rw [grp_cons, hEE, hDD]
        rfl

theorem insS_rises {x : Rc} : ∀ (l : List Rc), RisesR l → RisesR (insS l x)
  | [], _ => by simp [insS, RisesR]
  | y :: r, h => by
    have h1 := List.pairwise_cons.1 h
    simp only [insS]
    split
    · rename_i c
      refine List.pairwise_cons.2 ⟨fun z hz => ?_, insS_rises r h1.2⟩
      rcases insS_mem r z hz with rfl | hz
      · exact c
      · exact h1.1 z hz
    · rename_i c
      have hxy : compareR x y ≤ 0 := by have := cord_compareR.anti x y; omega
      refine List.pairwise_cons.2 ⟨fun z hz => ?_, h⟩
      rcases List.mem_cons.1 hz with rfl | hz
      · exact hxy
      · exact cord_compareR.trans _ _ _ hxy (h1.1 z hz)
theorem grp_sortM (l : List Rc) : grp (sortM l) = canonM l := by
  unfold sortM canonM
  suffices ∀ (l a b : List Rc), RisesR a → grp a = b → grp (l.foldl insS a) = l.foldl insR b from this l [] [] List.Pairwise.nil rfl
  intro l
  induction l with
  | nil => intro a b _ h; exact h
  | cons x l ih =>
    intro a b h hb
    exact ih _ _ (insS_rises a h) (by rw [grp_insS x a.length a (Nat.le_refl _) h, hb])
end Go.Proofs.YtckammgnmgkieaaGreat

/-
  What a stable sort leaves is the one sorted row.
-/
namespace Go.Proofs.YtckammgnmgkieaaGreat
set_option maxRecDepth 20000
open Go.RowKit Go.Shelf Go.Sort
open Stb (COrd Lx Rise)

theorem eq_of_perm_strict {α : Type} {R : α → α → Prop} (ht : ∀ x y z, R x y → R y z → R x z) (hi : ∀ x, ¬ R x x) : ∀ (a b : List α), a.Perm b → a.Pairwise R → b.Pairwise R → a = b
  | [], b, hp, _, _ => (List.nil_perm.1 hp).symm
  | x :: a, [], hp, _, _ => by have := hp.length_eq; simp at this
  | x :: a, y :: b, hp, h1, h2 => by
    have p1 := List.pairwise_cons.1 h1
    have p2 := List.pairwise_cons.1 h2
    have e : x = y := by
      have hx : x ∈ y :: b := hp.mem_iff.1 (by simp)
      have hy : y ∈ x :: a := hp.mem_iff.2 (by simp)
      rcases List.mem_cons.1 hx with h | h
      · exact h
      · rcases List.mem_cons.1 hy with g | g
        · exact g.symm
        · exact absurd (ht _ _ _ (p1.1 y g) (p2.1 x h)) (hi x)
    subst e
    rw [eq_of_perm_strict ht hi a b (List.Perm.cons_inv hp) p1.2 p2.2]

section
variable {α : Type} [Inhabited α] (rc : α → Rc) (tg : α → Nat)
def insT : List α → α → List α
  | [], x => [x]
  | y :: r, x => if compareR (rc y) (rc x) ≤ 0 then y :: insT r x else x :: y :: r
def sortT (l : List α) : List α := l.foldl (insT rc) []
omit [Inhabited α] in
theorem insT_map : ∀ (l : List α) (x : α), (insT rc l x).map rc = insS (l.map rc) (rc x)
  | [], x => rfl
  | y :: r, x => by
    simp only [insT, insS, List.map_cons]
    split
    · rw [List.map_cons, insT_map r x]
    · rfl
omit [Inhabited α] in
theorem sortT_map (l : List α) : (sortT rc l).map rc = sortM (l.map rc) := by
  unfold sortT sortM
  suffices ∀ (l a : List α) (b : List Rc), a.map rc = b → (l.foldl (insT rc) a).map rc = (l.map rc).foldl insS b from this l [] [] rfl
  intro l
  induction l with
  | nil => intro a b h; exact h
  | cons x l ih => intro a b h; exact ih _ _ (by rw [insT_map, h])
omit [Inhabited α] in
theorem insT_perm : ∀ (l : List α) (x : α), (insT rc l x).Perm (x :: l)
  | [], x => List.Perm.refl _
  | y :: r, x => by
    simp only [insT]
    split
    · exact ((insT_perm r x).cons y).trans (List.Perm.swap x y r)
    · exact List.Perm.refl _
def cfR (x y : α) : Int := compareR (rc x) (rc y)
omit [Inhabited α] in
theorem cord_cfR : COrd (cfR rc) := cord_on cord_compareR rc
omit [Inhabited α] in
theorem insT_rises : ∀ (l : List α) (x : α), l.Pairwise (Lx (cfR rc) tg) → (∀ y ∈ l, tg y < tg x) → (insT rc l x).Pairwise (Lx (cfR rc) tg)
  | [], x, _, _ => by simp [insT]
  | y :: r, x, h, ht => by
    have p := List.pairwise_cons.1 h
    simp only [insT]
    split
    · rename_i c
      have hyx : Lx (cfR rc) tg y x := by
        have := ht y (by simp)
        unfold Lx cfR; omega
      refine List.pairwise_cons.2 ⟨fun z hz => ?_, insT_rises r x p.2 (fun y hy => ht y (by simp [hy]))⟩
      rcases List.mem_cons.1 ((insT_perm rc r x).mem_iff.1 hz) with rfl | hz
      · exact hyx
      · exact p.1 z hz
    · rename_i c
      have hxy : Lx (cfR rc) tg x y := by
        have := (cord_cfR rc).anti x y
        unfold Lx; unfold cfR at *; omega
      refine List.pairwise_cons.2 ⟨fun z hz => ?_, h⟩
      rcases List.mem_cons.1 hz with rfl | hz
      · exact hxy
      · exact hxy.trans (cord_cfR rc) (p.1 z hz)
omit [Inhabited α] in
theorem sortT_rises (l : List α) (ht : l.Pairwise fun a b => tg a < tg b) : (sortT rc l).Pairwise (Lx (cfR rc) tg) ∧ (sortT rc l).Perm l := by
  unfold sortT
  suffices ∀ (l a : List α), a.Pairwise (Lx (cfR rc) tg) → (∀ x ∈ l, ∀ y ∈ a, tg y < tg x) → l.Pairwise (fun a b => tg a < tg b) → (l.foldl (insT rc) a).Pairwise (Lx (cfR rc) tg) ∧ (l.foldl (insT rc) a).Perm (l ++ a) from by
    have := this l [] List.Pairwise.nil (by simp) ht
    simpa using this
  intro l
  induction l with
  | nil => intro a h _ _; exact ⟨h, List.Perm.refl _⟩
  | cons x l ih =>
    intro a h h2 h3
    have p := List.pairwise_cons.1 h3
    have := ih (insT rc a x) (insT_rises rc tg a x h (h2 x (by simp))) (fun z hz y hy => by
      rcases List.mem_cons.1 ((insT_perm rc a x).mem_iff.1 hy) with rfl | hy
      · exact p.1 z hz
      · exact h2 z (by simp [hz]) y hy) p.2
    refine ⟨this.1, this.2.trans ?_⟩
    exact ((insT_perm rc a x).append_left l).trans (List.perm_middle)
end
theorem get_toList {α : Type} [Inhabited α] (x : Array α) (i : Nat) (h : i < x.toList.length) : x[i]! = x.toList[i] := by
  have h' : i < x.size := by simpa using h
  rw [getElem!_pos x i h', Array.getElem_toList]
theorem extract_all {α : Type} (x : Array α) (n : Nat) (h : x.size = n) : (x.extract 0 n).toList = x.toList := by
  subst h; simp
theorem sorted_is {α : Type} [Inhabited α] (rc : α → Rc) (tg : α → Nat) {d d' : Array α} (ht : ∀ i, i < d.size → tg d[i]! = i) (hp : PermIn 0 d.size d d') (hr : Rise (cfR rc) tg 0 d.size d') : d'.toList.map rc = sortM (d.toList.map rc) := by
  obtain ⟨hs, _, h1⟩ := hp
  rw [extract_all d' d.size hs, extract_all d d.size rfl] at h1
  have h2 : d'.toList.Pairwise (Lx (cfR rc) tg) := by
    refine List.pairwise_iff_getElem.2 ?_
    intro i j hi hj hij
    have h := hr i j (Nat.zero_le _) hij (by rw [← hs]; simpa using hj)
    rw [get_toList d' i hi, get_toList d' j hj] at h
    exact h
  have h3 : d.toList.Pairwise fun a b => tg a < tg b := by
    refine List.pairwise_iff_getElem.2 ?_
    intro i j hi hj hij
    have e1 := ht i (by simpa using hi)
    have e2 := ht j (by simpa using hj)
    rw [get_toList d i hi] at e1
    rw [get_toList d j hj] at e2
    omega
  obtain ⟨h4, h5⟩ := sortT_rises rc tg d.toList h3
  have h6 := eq_of_perm_strict (R := Lx (cfR rc) tg) (fun _ _ _ a b => Lx.trans (cord_cfR rc) a b) (fun x => Lx.irrefl (cord_cfR rc) x) d'.toList (sortT rc d.toList) (h1.trans h5.symm) h2 h4
  rw [← sortT_map, h6]
end Go.Proofs.YtckammgnmgkieaaGreat

/-
  A drawn region of reads and calls, over any class of worlds, inside a fence.
-/
namespace Go.Proofs.YtckammgnmgkieaaGreat
set_option maxRecDepth 20000
open Go.RowKit Go.Shelf

theorem wpIn_region_cls {F : Fence} {n : Nat} {P : Program} {id : Nat} {Q : Exit → Act → World → Prop} {a : Act} {w : World} {l : List Oper} (C : World → Prop) (hro : F.round = none) (hm : P.follows .mixedOrders = true) (hB : Region.lexB .any l.toArray = true) (hC : C w.drew)
    (h : wpQuietIn F n P l.toArray (fun w' => ∃ p : WIn C, w' = p.w) (fun a' => ∀ w', (∃ p : WIn C, w' = p.w) → Q .normal a' w') l a) : (Code.region id l.toArray true).wpIn F n P Q a w :=
  wpIn_region_quiet (C := fun w' => ∃ p : WIn C, w' = p.w) hro hm hB ⟨⟨w.drew, hC⟩, rfl⟩ (by simpa using h)
theorem CallsIn.cls {F : Fence} {r : Nat} {C : World → Prop} {P : Program} {f : FuncId} {args : Array Value} {w : World} {v : Value}
    (h : CallsIn F r P f args w fun e w' => e = .returned v ∧ C w') : CallsIn F r P f args w fun e w'' => e = .returned v ∧ ∃ q : WIn C, w'' = q.w :=
  h.mono fun _ w' ⟨he, hc⟩ => ⟨he, ⟨w', hc⟩, rfl⟩
end Go.Proofs.YtckammgnmgkieaaGreat

