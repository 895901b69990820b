/-
  law6.is: a set and itself, twice in memory.
-/
import Derived.Test.YtckammgnmgkieaaGreatMQ30
import Derived.Test.YtckammgnmgkieaaGreatMQ04
import Derived.Test.YtckammgnmgkieaaGreatMQ32
namespace Go.Proofs.YtckammgnmgkieaaGreat
open Go.RowKit Go.Shelf
set_option maxRecDepth 20000
set_option linter.unusedVariables false
set_option linter.unusedSimpArgs false
theorem SetR.ownerI {W : World} {o : Option Addr} {n c : Nat} {v1 v2 v3 : Value} {s : St} (h : SetR W [.slice o n c, v1, v2, v3] s) : NmAt W (.slice o n c) s.owner := by
  obtain ⟨z0, z3, ds, e, q1, q2, q3, q4⟩ := h
  simp only [List.cons.injEq, and_true] at e
  obtain ⟨e0, -⟩ := e
  rw [e0]; exact q1
set_option maxRecDepth 100000 in
set_option maxHeartbeats 8000000 in
theorem law6_is (x y : List Value) (s : St) (w : World) (hX : SetR w x s) (hY : SetR w y s) (hko : NmOK s.owner) (hok : ∀ d ∈ s.data, DatOK d) (hl : s.data.length ≤ 1048576) :
    Calls Tryz.prog 17 #[.agg x.toArray, .agg y.toArray] w fun e w' => e = .returned (.bool true) ∧ Below w.heap.size w w' := by
  obtain ⟨⟨a0, n0, c0⟩, ⟨a3, n3, c3⟩, rfl⟩ := hX.shape
  obtain ⟨⟨b0, m0, d0⟩, ⟨b3, m3, d3⟩, rfl⟩ := hY.shape
  simp only at hX hY ⊢
  obtain ⟨css, hs1, hd1, -⟩ := SetR.dts (x0 := (a0, n0, c0)) (x3 := (a3, n3, c3)) hX
  obtain ⟨ess, hs2, hd2, -⟩ := SetR.dts (x0 := (b0, m0, d0)) (x3 := (b3, m3, d3)) hY
  simp only at hs1 hs2
  have HC1 := Lib.hid (fun (W : World) (hb : Below w.heap.size w W) => kn_Is (.slice a0 n0 c0) (.slice b0 m0 d0) s.owner s.owner true (by simp) W (hX.ownerI.below hb) (hY.ownerI.below hb) hko)
  have HC2 := Lib.hid (fun (W : World) (hb : Below w.heap.size w W) => law4_IsAll _ _ css ess s.data W (hs1.below hb) (hd1.below hb) (hs2.below hb) (hd2.below hb) hok hl)
  generalize s.data.length = dn at *
  generalize s.ty = ty at *
  generalize (s.ttl : Int) = tt at *
  obtain ⟨W0, hW0⟩ : ∃ W, (w.alloc (.cells #[.slice a0 n0 c0, .int .i64 ty, .int .u32 tt, .slice a3 dn c3] 38)).alloc (.cells #[.slice b0 m0 d0, .int .i64 ty, .int .u32 tt, .slice b3 dn d3] 41) = W := ⟨_, rfl⟩
  have HB0 : Hid (Below w.heap.size w W0) := Lib.hid (by rw [← hW0]; exact ((Below.refl w.heap.size w).alloc (Nat.le_refl _) _).alloc (by simp) _)
  have x0 : W0.heap[w.heap.size]? = some (.cells #[.slice a0 n0 c0, .int .i64 ty, .int .u32 tt, .slice a3 dn c3] 38) := by
    rw [← hW0]; exact (Below.heap_alloc _ _ _ (by simp)).trans (knew w _)
  have x1 : W0.heap[w.heap.size + 1]? = some (.cells #[.slice b0 m0 d0, .int .i64 ty, .int .u32 tt, .slice b3 dn d3] 41) := by
    have h := knew (w.alloc (.cells #[.slice a0 n0 c0, .int .i64 ty, .int .u32 tt, .slice a3 dn c3] 38)) (.cells #[.slice b0 m0 d0, .int .i64 ty, .int .u32 tt, .slice b3 dn d3] 41)
    rw [World.size_alloc] at h
    rw [← hW0]; exact h
  have X0 := Lib.hid x0; have X1 := Lib.hid x1
  have y0 := kcell x0 0 _ rfl; have z0 := kcell x1 0 _ rfl
  have hc := HC1.out W0 HB0.out
  clear x0 x1 hX hY hko hok hl hs1 hs2 hd1 hd2 HC1
  go_enter Tryz.func17, Tryz.ntmps17
  go_wp2_with fail
  clear hW0
  refine hc.mono ?_
  rintro e w1 ⟨rfl, hb1⟩
  have HB1 := Lib.hid (HB0.out.trans (hb1.mono HB0.out.size))
  have hx0 := (hb1.block _ (kblock_lt X0.out)).trans X0.out
  have hx1 := (hb1.block _ (kblock_lt X1.out)).trans X1.out
  have y1 := kcell hx0 1 _ rfl; have y2 := kcell hx0 2 _ rfl; have y3 := kcell hx0 3 _ rfl
  have z1 := kcell hx1 1 _ rfl; have z2 := kcell hx1 2 _ rfl; have z3 := kcell hx1 3 _ rfl
  have e1 : (ty == ty) = true := by simp
  have e2 : (tt == tt) = true := by simp
  have hc2 := HC2.out w1 HB1.out
  clear hc hb1 hx0 hx1 y0 z0 X0 X1 HC2
  go_wp2_with fail
  refine hc2.mono ?_
  rintro e w2 ⟨rfl, hb2⟩
  have HB2 := Lib.hid (HB1.out.trans (hb2.mono HB1.out.size))
  clear hc2 hb2
  go_wp2
  go_ret
  exact ⟨rfl, HB2.out⟩
end Go.Proofs.YtckammgnmgkieaaGreat

/-
  The document's sets (ref.Sets, ref.Of, ref.TypesOf), plain: they are the program's.
-/
namespace Go.Proofs.YtckammgnmgkieaaGreat
set_option maxRecDepth 20000
set_option linter.unusedVariables false
def joinS (s : St) (r : Rc) : St := ⟨s.owner, s.ty, minT s.ttl r.ttl, s.data ++ [r.data]⟩
def newS (r : Rc) : St := ⟨r.owner, r.data.ty, r.ttl, [r.data]⟩
def hitS (s : St) (r : Rc) : Bool := sameN s.owner r.owner && decide (s.ty = r.data.ty)
def stepS (out : List St) (r : Rc) : List St := match out.getLast? with
  | some s => if hitS s r then out.dropLast ++ [joinS s r] else out ++ [newS r]
  | none => out ++ [newS r]
def refSets (c : List Rc) : List St := c.foldl stepS []
theorem stepS_snoc (pre : List St) (s : St) (r : Rc) : stepS (pre ++ [s]) r = if hitS s r then pre ++ [joinS s r] else pre ++ [s] ++ [newS r] := by
  unfold stepS
  simp
theorem hitS_bel {s : St} {y r : Rc} (h1 : s.owner = y.owner) (h2 : s.ty = y.data.ty) : hitS s r = belR y r := by
  unfold hitS belR belM
  rw [h1, h2, sameN_symm, Bool.and_comm]
  congr 1
  exact decide_eq_decide.2 ⟨Eq.symm, Eq.symm⟩
theorem foldl_joinS : ∀ (l : List Rc) (s : St), l.foldl joinS s = ⟨s.owner, s.ty, leastM s.ttl l, s.data ++ l.map Rc.data⟩
  | [], s => by simp [leastM]
  | x :: r, s => by
    rw [List.foldl_cons, foldl_joinS r]
    simp [joinS, leastM]
theorem refSets_go : ∀ (n : Nat) (r : List Rc), r.length ≤ n → ∀ (pre : List St) (s : St) (y : Rc), s.owner = y.owner → s.ty = y.data.ty →
    r.foldl stepS (pre ++ [s]) = pre ++ (r.takeWhile (belR y)).foldl joinS s :: setsM (r.dropWhile (belR y))
  | 0, r, h, pre, s, y, h1, h2 => by
    obtain rfl : r = [] := List.eq_nil_of_length_eq_zero (by omega)
    simp [setsM_nil]
  | n + 1, [], h, pre, s, y, h1, h2 => by simp [setsM_nil]
  | n + 1, x :: r, h, pre, s, y, h1, h2 => by
    rw [List.foldl_cons, stepS_snoc, hitS_bel h1 h2]
    by_cases hb : belR y x = true
    · rw [if_pos hb, refSets_go n r (by simp at h; omega) pre (joinS s x) y h1 h2, List.takeWhile_cons_of_pos hb, List.dropWhile_cons_of_pos hb, List.foldl_cons]
    · rw [if_neg hb, refSets_go n r (by simp at h; omega) (pre ++ [s]) (newS x) x rfl rfl, List.takeWhile_cons_of_neg hb, List.dropWhile_cons_of_neg hb, setsM_cons, foldl_joinS]
      simp [newS, stR]
theorem refSets_eq (c : List Rc) : refSets c = setsM c := by
  cases c with
  | nil => rfl
  | cons y r =>
    have h : refSets (y :: r) = r.foldl stepS ([] ++ [newS y]) := rfl
    rw [h, refSets_go r.length r (Nat.le_refl _) [] (newS y) y rfl rfl, setsM_cons, foldl_joinS]
    simp [newS, stR]
theorem sets_has : ∀ (n : Nat) (c : List Rc), c.length ≤ n → ∀ y ∈ c, ∃ s ∈ setsM c, belM s.owner s.ty y = true
  | 0, c, h, y, hy => by
    obtain rfl : c = [] := List.eq_nil_of_length_eq_zero (by omega)
    cases hy
  | n + 1, [], h, y, hy => by cases hy
  | n + 1, x :: r, h, y, hy => by
    rw [setsM_cons]
    by_cases hb : y = x ∨ y ∈ r.takeWhile (belR x)
    · refine ⟨_, List.mem_cons_self, ?_⟩
      rcases hb with rfl | hb
      · exact belR_refl y
      · exact takeWhile_all r y hb
    · have hd : y ∈ r.dropWhile (belR x) := by
        rcases List.mem_cons.1 hy with e | e
        · exact absurd (.inl e) hb
        · rw [← List.takeWhile_append_dropWhile (p := belR x) (l := r)] at e
          rcases List.mem_append.1 e with e | e
          · exact absurd (.inr e) hb
          · exact e
      have hl : (r.dropWhile (belR x)).length ≤ n := by
        have := (List.dropWhile_sublist (p := belR x) (l := r)).length_le
        simp at h; omega
      obtain ⟨s, hs, e⟩ := sets_has n _ hl y hd
      exact ⟨s, List.mem_cons_of_mem _ hs, e⟩
theorem belM_same {a b : Nm} (h : sameN a b = true) (t : Int) (r : Rc) : belM a t r = belM b t r := by
  unfold belM
  congr 1
  rw [Bool.eq_iff_iff, sameN_iff, sameN_iff, (sameN_iff _ _).1 h]
theorem ofM_find (l : List Rc) (o : Nm) (t : Int) : ofM l o t = (setsM (canonM l)).find? fun s => decide (s.ty = t) && sameN s.owner o := by
  unfold ofM
  rw [canonM_filter]
  cases hf : (setsM (canonM l)).find? fun s => decide (s.ty = t) && sameN s.owner o with
  | none =>
    have hn : (canonM l).filter (belM o t) = [] := by
      rw [List.filter_eq_nil_iff]
      intro y hy hb
      obtain ⟨s, hs, e⟩ := sets_has _ _ (Nat.le_refl _) y hy
      have := List.find?_eq_none.1 hf s hs
      refine this ?_
      simp only [belM, Bool.and_eq_true, decide_eq_true_eq] at hb e ⊢
      refine ⟨by rw [← e.1, hb.1], ?_⟩
      exact sameN_trans (by rw [sameN_symm]; exact e.2) hb.2
    rw [hn]; rfl
  | some s =>
    have hs := List.mem_of_find?_eq_some hf
    have hp := List.find?_some hf
    simp only [Bool.and_eq_true, decide_eq_true_eq] at hp
    obtain ⟨y, r, e1, e2, e3⟩ := sets_filter _ _ (Nat.le_refl _) (canonM_can l).up s hs
    have e4 : (canonM l).filter (belM o t) = y :: r := by
      rw [← e3]
      refine List.filter_congr fun x _ => ?_
      rw [hp.1, belM_same hp.2]
    rw [e4, setsM_all, e1]; rfl
    intro z hz
    have hz' : z ∈ (canonM l).filter (belM s.owner s.ty) := by rw [e3]; exact List.mem_cons_of_mem _ hz
    have h2 := (List.mem_filter.1 hz').2
    rw [e1] at h2
    exact h2
end Go.Proofs.YtckammgnmgkieaaGreat

