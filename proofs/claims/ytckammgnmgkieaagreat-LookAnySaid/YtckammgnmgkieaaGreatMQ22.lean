import Derived.Test.YtckammgnmgkieaaGreatMQ02
namespace Go.Proofs.YtckammgnmgkieaaGreat
set_option maxRecDepth 20000
open Go.RowKit Go.Shelf
def FarKeep (n : Nat) (W W' : World) : Prop := ∀ g, n ≤ g → g < W.heap.size → W'.heap[g]? = W.heap[g]?
theorem FarKeep.mono {n m : Nat} {W W' : World} (h : FarKeep n W W') (hm : n ≤ m) : FarKeep m W W' := fun g h1 h2 => h g (by omega) h2
theorem qe8 {W W' : World} {base : Nat} {T : TypeId} {k n : Nat} {v : Value} {cells : List Value} (h : W.ownsRow base T k v n cells) (hf : FarKeep base W W') : W'.ownsRow base T k v n cells := by
 refine ⟨h.1, ?_⟩
 rcases h.2 with h | ⟨g, cap, cur, e, hb, hg, h2⟩
 ·exact .inl h
 ·exact .inr ⟨g, cap, cur, e, hb, (hf g hb (qaa hg)).trans hg, h2⟩
theorem OwnK.move {α : Type} {k : Nat} {T : TypeId} {enc : α → List Value} {W W' : World} {base : Nat} {v : Value} {xs : List α} (h : OwnK k T enc W base v xs) (hf : FarKeep base W W') : OwnK k T enc W' base v xs := qe8 h hf
theorem OwnG.move {α : Type} {T : TypeId} {enc : α → Value} {W W' : World} {base : Nat} {v : Value} {xs : List α} (h : OwnG T enc W base v xs) (hf : FarKeep base W W') : OwnG T enc W' base v xs := qe8 h hf
theorem FrAt.move {W W' : World} {base : Nat} {cs : List Value} {r : Rc} (h : FrAt W base cs r) (hf : FarKeep base W W') : FrAt W' base cs r := by
 obtain ⟨vo, vn, vu, vt, vr, e, h1, ⟨⟨vs, k1, k2, k3⟩, i1, i2, i3⟩⟩ := h
 exact ⟨vo, vn, vu, vt, vr, e, h1.move hf, ⟨⟨vs, k1.move hf, k2, fun i a b => (k3 i a b).move hf⟩, i1.move hf, i2.move hf, i3.move hf⟩⟩
section
attribute [local go_sem] Oper.semAt_some
end
end Go.Proofs.YtckammgnmgkieaaGreat
namespace Go.Proofs.YtckammgnmgkieaaGreat
set_option maxRecDepth 20000
def joinS (s : St) (r : Rc) : St := ⟨s.owner, s.ty, minT s.ttl r.ttl, s.data ++ [r.data]⟩
def newS (r : Rc) : St := ⟨r.owner, r.data.ty, r.ttl, [r.data]⟩
def hitS (s : St) (r : Rc) : Bool := sameN s.owner r.owner && decide (s.ty = r.data.ty)
def stepS (out : List St) (r : Rc) : List St := match out.getLast? with
 | some s => if hitS s r then out.dropLast ++ [joinS s r] else out ++ [newS r]
 | none => out ++ [newS r]
def qan (c : List Rc) : List St := c.foldl stepS []
theorem qbX (pre : List St) (s : St) (r : Rc) : stepS (pre ++ [s]) r = if hitS s r then pre ++ [joinS s r] else pre ++ [s] ++ [newS r] := by
 unfold stepS
 simp
theorem qmC {s : St} {y r : Rc} (h1 : s.owner = y.owner) (h2 : s.ty = y.data.ty) : hitS s r = belR y r := by
 unfold hitS belR belM
 rw [h1, h2, qdM, Bool.and_comm]
 congr 1
 exact decide_eq_decide.2 ⟨Eq.symm, Eq.symm⟩
theorem qdd : ∀ (l : List Rc) (s : St), l.foldl joinS s = ⟨s.owner, s.ty, leastM s.ttl l, s.data ++ l.map Rc.data⟩
 | [], s => by simp [leastM]
 | x :: r, s => by
  rw [List.foldl_cons, qdd r]
  simp [joinS, leastM]
theorem qdz : ∀ (n : Nat) (r : List Rc), r.length ≤ n → ∀ (pre : List St) (s : St) (y : Rc), s.owner = y.owner → s.ty = y.data.ty →
 r.foldl stepS (pre ++ [s]) = pre ++ (r.takeWhile (belR y)).foldl joinS s :: setsM (r.dropWhile (belR y))
 | 0, r, h, pre, s, y, h1, h2 => by
  obtain rfl : r = [] := List.eq_nil_of_length_eq_zero (by omega)
  simp [qcs]
 | n + 1, [], h, pre, s, y, h1, h2 => by simp [qcs]
 | n + 1, x :: r, h, pre, s, y, h1, h2 => by
  rw [List.foldl_cons, qbX, qmC h1 h2]
  by_cases hb : belR y x = true
  ·rw [if_pos hb, qdz n r (by simp at h; omega) pre (joinS s x) y h1 h2, List.takeWhile_cons_of_pos hb, List.dropWhile_cons_of_pos hb, List.foldl_cons]
  ·rw [if_neg hb, qdz n r (by simp at h; omega) (pre ++ [s]) (newS x) x rfl rfl, List.takeWhile_cons_of_neg hb, List.dropWhile_cons_of_neg hb, qa0, qdd]
   simp [newS, stR]
theorem qft (c : List Rc) : qan c = setsM c := by
 cases c with
 | nil => rfl
 | cons y r =>
  have h : qan (y :: r) = r.foldl stepS ([] ++ [newS y]) := rfl
  rw [h, qdz r.length r (qN0) [] (newS y) y rfl rfl, qa0, qdd]
  simp [newS, stR]
theorem qie : ∀ (n : Nat) (c : List Rc), c.length ≤ n → ∀ y ∈ c, ∃ s ∈ setsM c, belM s.owner s.ty y = true
 | 0, c, h, y, hy => by
  obtain rfl : c = [] := List.eq_nil_of_length_eq_zero (by omega)
  cases hy
 | n + 1, [], h, y, hy => by cases hy
 | n + 1, x :: r, h, y, hy => by
  rw [qa0]
  by_cases hb : y = x ∨ y ∈ r.takeWhile (belR x)
  ·refine ⟨_, List.mem_cons_self, ?_⟩
   rcases hb with rfl | hb
   ·exact qcZ y
   ·exact qcz r y hb
  ·have hd : y ∈ r.dropWhile (belR x) := by
    rcases List.mem_cons.1 hy with e | e
    ·exact absurd (.inl e) hb
    ·rw [← List.takeWhile_append_dropWhile (p := belR x) (l := r)] at e
     rcases List.mem_append.1 e with e | e
     ·exact absurd (.inr e) hb
     ·exact e
   have hl : (r.dropWhile (belR x)).length ≤ n := by
    have := (List.dropWhile_sublist (p := belR x) (l := r)).length_le
    simp at h; omega
   obtain ⟨s, hs, e⟩ := qie n _ hl y hd
   exact ⟨s, List.mem_cons_of_mem _ hs, e⟩
theorem qk6 {a b : Nm} (h : sameN a b = true) (t : Int) (r : Rc) : belM a t r = belM b t r := by
 unfold belM
 congr 1
 rw [Bool.eq_iff_iff, qaw, qaw, (qaw _ _).1 h]
theorem qh4 (l : List Rc) (o : Nm) (t : Int) : ofM l o t = (setsM (canonM l)).find? fun s => decide (s.ty = t) && sameN s.owner o := by
 unfold ofM
 rw [qha]
 cases hf : (setsM (canonM l)).find? fun s => decide (s.ty = t) && sameN s.owner o with
 | none =>
  have hn : (canonM l).filter (belM o t) = [] := by
   rw [List.filter_eq_nil_iff]
   intro y hy hb
   obtain ⟨s, hs, e⟩ := qie _ _ (qN0) y hy
   have := List.find?_eq_none.1 hf s hs
   refine this ?_
   simp only [belM, Bool.and_eq_true, decide_eq_true_eq] at hb e ⊢
   refine ⟨by rw [← e.1, hb.1], ?_⟩
   exact qda (by rw [qdM]; exact e.2) hb.2
  rw [hn]; rfl
 | some s =>
  have hs := List.mem_of_find?_eq_some hf
  have hp := List.find?_some hf
  simp only [Bool.and_eq_true, decide_eq_true_eq] at hp
  obtain ⟨y, r, e1, e2, e3⟩ := qdh _ _ (qN0) (qb2 l).up s hs
  have e4 : (canonM l).filter (belM o t) = y :: r := by
   rw [← e3]
   refine List.filter_congr fun x _ => ?_
   rw [hp.1, qk6 hp.2]
  rw [e4, qk0, e1]; rfl
  intro z hz
  have hz' : z ∈ (canonM l).filter (belM s.owner s.ty) := by rw [e3]; exact List.mem_cons_of_mem _ hz
  have h2 := (List.mem_filter.1 hz').2
  rw [e1] at h2
  exact h2
end Go.Proofs.YtckammgnmgkieaaGreat
