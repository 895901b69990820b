/-
  rdata.Check.
-/
import Derived.Test.YtckammgnmgkieaaGreatMQ27
import Derived.Test.YtckammgnmgkieaaGreatMQ12
import Derived.Test.YtckammgnmgkieaaGreatMQ34
import Derived.Test.YtckammgnmgkieaaGreatMQ32
import Derived.Test.YtckammgnmgkieaaGreatMQ36
namespace Go.Proofs.YtckammgnmgkieaaGreat
set_option maxRecDepth 20000
open Go.RowKit Go.Shelf
set_option maxRecDepth 20000

theorem longT_not {l : Nm} {k : Nat} (hk : k < l.length) (h : 255 < l[k].length) : longT l = true := by
  unfold longT; rw [List.any_eq_true]; exact ⟨_, List.getElem_mem hk, by simpa using h⟩
theorem longT_snoc (l : Nm) (x : List UInt8) : longT (l ++ [x]) = (longT l || decide (255 < x.length)) := by simp [longT]
theorem headD_get (l : List Nat) (h : 0 < l.length) : l.headD 0 = l[0] := by
  cases l with
  | nil => simp at h
  | cons a r => rfl
def CheckPost (d : Dat) (w : World) (e : Ending) (w' : World) : Prop := e = .returned (.int .i64 (checkD d)) ∧ Below w.heap.size w w'
theorem check_fin {d : Dat} {w w' : World} {e : Ending} (er : Int) (h : checkD d = er) (he : e = .returned (.int .i64 er)) (hb : Below w.heap.size w w') : CheckPost d w e w' := by
  subst h; exact ⟨he, hb⟩
theorem checkD_type {d : Dat} (h : d.ty < 1 ∨ 65535 < d.ty) : checkD d = 6 := by unfold checkD; rw [if_pos h]
theorem checkD_count {d : Dat} (h : ¬ (d.ty < 1 ∨ 65535 < d.ty)) (h2 : countedM d = false) : checkD d = 2 := by unfold checkD; rw [if_neg h, if_pos h2]
theorem checkD_rest {d : Dat} (h : ¬ (d.ty < 1 ∨ 65535 < d.ty)) (h2 : countedM d = true) : checkD d = if checkNs d.names ≠ 0 then checkNs d.names else if d.ty = 15 ∧ 65535 < d.nums.headD 0 then 7 else if longT d.texts then 3 else if 1024 < d.raw.length then 3 else 0 := by
  unfold checkD; rw [if_neg h, if_neg (by rw [h2]; simp)]
end Go.Proofs.YtckammgnmgkieaaGreat

/-
  rset.belongs.
-/
namespace Go.Proofs.YtckammgnmgkieaaGreat
set_option maxRecDepth 20000
open Go.RowKit Go.Shelf
set_option maxRecDepth 20000
set_option linter.unusedVariables false
set_option linter.unusedSimpArgs false

set_option maxRecDepth 100000 in
set_option maxHeartbeats 4000000 in
theorem rset_belongs (a0 : Option Addr) (n0 c0 : Nat) (a1 : Option Addr) (n1 c1 : Nat) (tt : Int) (o : Nm) (t : Int) (cs : List Value) (r : Rc) (w : World) (hO : NmAt w (.slice a0 n0 c0) o) (hko : NmOK o) (hA : RcAt w cs r) (hk : RcOK r) :
    Calls Tryz.prog 111 #[.agg #[.slice a0 n0 c0, .int .i64 t, .int .u32 tt, .slice a1 n1 c1], .agg cs.toArray] w fun e w' => e = .returned (.bool (belM o t r)) ∧ Below w.heap.size w w' := by
  have hsh := hA.shape
  obtain ⟨⟨p0, q0, k0⟩, ⟨p3, q3, k3⟩, ⟨p4, q4, k4⟩, ⟨p5, q5, k5⟩, ⟨p6, q6, k6⟩, e0⟩ := hsh
  simp only at e0
  subst e0
  have hA1 : NmAt w (.slice p0 q0 k0) r.owner := by
    obtain ⟨_, _, _, _, _, e5, g1, _⟩ := hA
    simp only [List.cons.injEq, and_true] at e5
    rw [e5.1]; exact g1
  have HN := Lib.hid (fun W (hb : Below w.heap.size w W) => kn_NSame (.slice p0 q0 k0) (.slice a0 n0 c0) r.owner o _ rfl W (hA1.below hb) (hO.below hb) hk.1 hko)
  have hR := Lib.hid (show belM o t r = (decide (r.data.ty = t) && sameN r.owner o) from rfl)
  generalize belM o t r = res at *
  generalize sameN r.owner o = q at *
  generalize r.data.ty = x at *
  generalize (r.ttl : Int) = tr at *
  have hb0 := fun o o' => ((Below.refl w.heap.size w).alloc (Nat.le_refl _) o).alloc (o := o') (by simp)
  have hbb := hb0 (Obj.cells #[.slice a0 n0 c0, .int .i64 t, .int .u32 tt, .slice a1 n1 c1] 38) (Obj.cells #[.slice p0 q0 k0, .int .u32 tr, .int .i64 x, .slice p3 q3 k3, .slice p4 q4 k4, .slice p5 q5 k5, .slice p6 q6 k6] 103)
  have hn := HN.out _ hbb
  have HBB := Lib.hid hbb
  clear hbb hb0 HN hA hA1 hO hko hk
  by_cases hx : x = t
  · subst hx
    have HR : Hid (res = q) := Lib.hid (by rw [hR.out]; simp)
    clear hR
    go_enter Tryz.func111, Tryz.ntmps111
    go_wp2_with fail
    refine hn.mono ?_
    rintro e w1 ⟨rfl, hb1⟩
    have HB1 := Lib.hid (HBB.out.trans (hb1.mono HBB.out.size))
    clear hb1 hn
    go_wp2
    go_ret
    exact ⟨by rw [HR.out]; rfl, HB1.out⟩
  · have HR : Hid (res = false) := Lib.hid (by rw [hR.out]; simp [hx])
    have hxb : (x == t) = false := by simpa using hx
    clear hR hn
    go_enter Tryz.func111, Tryz.ntmps111
    go_wp2
    go_ret
    exact ⟨by rw [HR.out]; rfl, HBB.out⟩
end Go.Proofs.YtckammgnmgkieaaGreat

/-
  The document's sets (ref.Sets, ref.Of, ref.TypesOf), plain: they are the program's.
-/
namespace Go.Proofs.YtckammgnmgkieaaGreat
set_option maxRecDepth 20000
set_option linter.unusedVariables false
def joinS (s : St) (r : Rc) : St := ⟨s.owner, s.ty, minT s.ttl r.ttl, s.data ++ [r.data]⟩
def newS (r : Rc) : St := ⟨r.owner, r.data.ty, r.ttl, [r.data]⟩
def hitS (s : St) (r : Rc) : Bool := sameN s.owner r.owner && decide (s.ty = r.data.ty)
def stepS (out : List St) (r : Rc) : List St := match out.getLast? with
  | some s => if hitS s r then out.dropLast ++ [joinS s r] else out ++ [newS r]
  | none => out ++ [newS r]
def refSets (c : List Rc) : List St := c.foldl stepS []
theorem stepS_snoc (pre : List St) (s : St) (r : Rc) : stepS (pre ++ [s]) r = if hitS s r then pre ++ [joinS s r] else pre ++ [s] ++ [newS r] := by
  unfold stepS
  simp
theorem hitS_bel {s : St} {y r : Rc} (h1 : s.owner = y.owner) (h2 : s.ty = y.data.ty) : hitS s r = belR y r := by
  unfold hitS belR belM
  rw [h1, h2, sameN_symm, Bool.and_comm]
  congr 1
  exact decide_eq_decide.2 ⟨Eq.symm, Eq.symm⟩
theorem foldl_joinS : ∀ (l : List Rc) (s : St), l.foldl joinS s = ⟨s.owner, s.ty, leastM s.ttl l, s.data ++ l.map Rc.data⟩
  | [], s => by simp [leastM]
  | x :: r, s => by
    rw [List.foldl_cons, foldl_joinS r]
    simp [joinS, leastM]
theorem refSets_go : ∀ (n : Nat) (r : List Rc), r.length ≤ n → ∀ (pre : List St) (s : St) (y : Rc), s.owner = y.owner → s.ty = y.data.ty →
    r.foldl stepS (pre ++ [s]) = pre ++ (r.takeWhile (belR y)).foldl joinS s :: setsM (r.dropWhile (belR y))
  | 0, r, h, pre, s, y, h1, h2 => by
    obtain rfl : r = [] := List.eq_nil_of_length_eq_zero (by omega)
    simp [setsM_nil]
  | n + 1, [], h, pre, s, y, h1, h2 => by simp [setsM_nil]
  | n + 1, x :: r, h, pre, s, y, h1, h2 => by
    rw [List.foldl_cons, stepS_snoc, hitS_bel h1 h2]
    by_cases hb : belR y x = true
    · rw [if_pos hb, refSets_go n r (by simp at h; omega) pre (joinS s x) y h1 h2, List.takeWhile_cons_of_pos hb, List.dropWhile_cons_of_pos hb, List.foldl_cons]
    · rw [if_neg hb, refSets_go n r (by simp at h; omega) (pre ++ [s]) (newS x) x rfl rfl, List.takeWhile_cons_of_neg hb, List.dropWhile_cons_of_neg hb, setsM_cons, foldl_joinS]
      simp [newS, stR]
theorem refSets_eq (c : List Rc) : refSets c = setsM c := by
  cases c with
  | nil => rfl
  | cons y r =>
    have h : refSets (y :: r) = r.foldl stepS ([] ++ [newS y]) := rfl
    rw [h, refSets_go r.length r (Nat.le_refl _) [] (newS y) y rfl rfl, setsM_cons, foldl_joinS]
    simp [newS, stR]
theorem sets_has : ∀ (n : Nat) (c : List Rc), c.length ≤ n → ∀ y ∈ c, ∃ s ∈ setsM c, belM s.owner s.ty y = true
  | 0, c, h, y, hy => by
    obtain rfl : c = [] := List.eq_nil_of_length_eq_zero (by omega)
    cases hy
  | n + 1, [], h, y, hy => by cases hy
  | n + 1, x :: r, h, y, hy => by
    rw [setsM_cons]
    by_cases hb : y = x ∨ y ∈ r.takeWhile (belR x)
    · refine ⟨_, List.mem_cons_self, ?_⟩
      rcases hb with rfl | hb
      · exact belR_refl y
      · exact takeWhile_all r y hb
    · have hd : y ∈ r.dropWhile (belR x) := by
        rcases List.mem_cons.1 hy with e | e
        · exact absurd (.inl e) hb
        · rw [← List.takeWhile_append_dropWhile (p := belR x) (l := r)] at e
          rcases List.mem_append.1 e with e | e
          · exact absurd (.inr e) hb
          · exact e
      have hl : (r.dropWhile (belR x)).length ≤ n := by
        have := (List.dropWhile_sublist (p := belR x) (l := r)).length_le
        simp at h; omega
      obtain ⟨s, hs, e⟩ := sets_has n _ hl y hd
      exact ⟨s, List.mem_cons_of_mem _ hs, e⟩
theorem belM_same {a b : Nm} (h : sameN a b = true) (t : Int) (r : Rc) : belM a t r = belM b t r := by
  unfold belM
  congr 1
  rw [Bool.eq_iff_iff, sameN_iff, sameN_iff, (sameN_iff _ _).1 h]
theorem ofM_find (l : List Rc) (o : Nm) (t : Int) : ofM l o t = (setsM (canonM l)).find? fun s => decide (s.ty = t) && sameN s.owner o := by
  unfold ofM
  rw [canonM_filter]
  cases hf : (setsM (canonM l)).find? fun s => decide (s.ty = t) && sameN s.owner o with
  | none =>
    have hn : (canonM l).filter (belM o t) = [] := by
      rw [List.filter_eq_nil_iff]
      intro y hy hb
      obtain ⟨s, hs, e⟩ := sets_has _ _ (Nat.le_refl _) y hy
      have := List.find?_eq_none.1 hf s hs
      refine this ?_
      simp only [belM, Bool.and_eq_true, decide_eq_true_eq] at hb e ⊢
      refine ⟨by rw [← e.1, hb.1], ?_⟩
      exact sameN_trans (by rw [sameN_symm]; exact e.2) hb.2
    rw [hn]; rfl
  | some s =>
    have hs := List.mem_of_find?_eq_some hf
    have hp := List.find?_some hf
    simp only [Bool.and_eq_true, decide_eq_true_eq] at hp
    obtain ⟨y, r, e1, e2, e3⟩ := sets_filter _ _ (Nat.le_refl _) (canonM_can l).up s hs
    have e4 : (canonM l).filter (belM o t) = y :: r := by
      rw [← e3]
      refine List.filter_congr fun x _ => ?_
      rw [hp.1, belM_same hp.2]
    rw [e4, setsM_all, e1]; rfl
    intro z hz
    have hz' : z ∈ (canonM l).filter (belM s.owner s.ty) := by rw [e3]; exact List.mem_cons_of_mem _ hz
    have h2 := (List.mem_filter.1 hz').2
    rw [e1] at h2
    exact h2
end Go.Proofs.YtckammgnmgkieaaGreat

