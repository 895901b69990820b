/-
  A zone as a plain origin and a plain row: ancestors, cuts, depth, wildcards (plain).
-/
import Derived.Test.YtckammgnmgkieaaGreatMQ32
import Derived.Test.YtckammgnmgkieaaGreatMQ40
import Derived.Test.YtckammgnmgkieaaGreatMQ39
import Derived.Test.YtckammgnmgkieaaGreatMQ21
import Derived.Test.YtckammgnmgkieaaGreatMQ04
import Derived.Test.YtckammgnmgkieaaGreatMQ03
import Derived.Test.YtckammgnmgkieaaGreatMQ17
namespace Go.Proofs.YtckammgnmgkieaaGreat
set_option maxRecDepth 20000
set_option linter.unusedVariables false
theorem under_sameN {a b : Nm} (h : sameN a b = true) (n : Nm) : underN n a = underN n b := by
  rw [Bool.eq_iff_iff, underN_iff, underN_iff, (sameN_iff _ _).1 h]
def pointM (rs : List Rc) (n : Nm) : List Nat := (rs.filter fun r => decide (r.data.ty = 2) && underN n r.owner).map fun r => r.owner.length
def cutM (o : Nm) (rs : List Rc) (n : Nm) : Option Nat := if underN n o then (List.range' (o.length + 1) (n.length - o.length)).find? (fun s => (pointM rs n).contains s) else none
def whereM (o : Nm) (rs : List Rc) (n : Nm) : Int := if underN n o then (match cutM o rs n with | none => 1 | some s => if s = n.length then 2 else 3) else 0
theorem point_has {rs : List Rc} {n : Nm} {s : Nat} : (pointM rs n).contains s = rs.any fun r => decide (r.data.ty = 2) && underN n r.owner && decide (r.owner.length = s) := by
  rw [Bool.eq_iff_iff]
  simp only [pointM, List.contains_iff_mem, List.mem_map, List.mem_filter, List.any_eq_true, Bool.and_eq_true, decide_eq_true_eq]
  constructor
  · rintro ⟨r, ⟨h1, h2, h3⟩, h4⟩; exact ⟨r, h1, ⟨h2, h3⟩, h4⟩
  · rintro ⟨r, h1, ⟨h2, h3⟩, h4⟩; exact ⟨r, ⟨h1, h2, h3⟩, h4⟩
theorem find_congr {α : Type} {p q : α → Bool} : ∀ (l : List α), (∀ x ∈ l, p x = q x) → l.find? p = l.find? q
  | [], _ => rfl
  | x :: r, h => by
    rw [List.find?_cons, List.find?_cons, h x (by simp), find_congr r fun y hy => h y (by simp [hy])]
theorem cR_owner {a b : Rc} (h : compareR a b = 0) : sameN a.owner b.owner = true := by
  have := (keyR_zero a b).1 (keyR_eq h)
  simp only [belR, belM, Bool.and_eq_true, decide_eq_true_eq] at this
  exact this.2
theorem cR_type {a b : Rc} (h : compareR a b = 0) : a.data.ty = b.data.ty := by
  have := (keyR_zero a b).1 (keyR_eq h)
  simp only [belR, belM, Bool.and_eq_true, decide_eq_true_eq] at this
  exact this.1
def AlikeZ (l m : List Rc) : Prop := (∀ x ∈ l, ∃ y ∈ m, compareR y x = 0) ∧ ∀ x ∈ m, ∃ y ∈ l, compareR y x = 0
theorem AlikeZ.any {l m : List Rc} (h : AlikeZ l m) {p : Rc → Bool} (hp : ∀ a b, compareR a b = 0 → p a = p b) : l.any p = m.any p := by
  rw [Bool.eq_iff_iff, List.any_eq_true, List.any_eq_true]
  constructor
  · rintro ⟨x, hx, e⟩; obtain ⟨y, hy, h1⟩ := h.1 x hx; exact ⟨y, hy, by rw [hp y x h1]; exact e⟩
  · rintro ⟨x, hx, e⟩; obtain ⟨y, hy, h1⟩ := h.2 x hx; exact ⟨y, hy, by rw [hp y x h1]; exact e⟩
theorem AlikeZ.cut {l m : List Rc} (h : AlikeZ l m) (o n : Nm) : cutM o l n = cutM o m n := by
  unfold cutM
  congr 1
  refine find_congr _ fun s _ => ?_
  rw [point_has, point_has]
  refine h.any fun a b hab => ?_
  rw [cR_type hab, under_sameN (cR_owner hab), show a.owner.length = b.owner.length from by
    have := (sameN_iff _ _).1 (cR_owner hab)
    have := congrArg List.length this
    simpa [foldN] using this]
theorem AlikeZ.where {l m : List Rc} (h : AlikeZ l m) (o n : Nm) : whereM o l n = whereM o m n := by
  unfold whereM; rw [h.cut]

end Go.Proofs.YtckammgnmgkieaaGreat

/-
  zone.Where; zone.depth.
-/
namespace Go.Proofs.YtckammgnmgkieaaGreat
set_option maxRecDepth 20000
open Go.RowKit Go.Shelf
set_option maxRecDepth 20000
set_option linter.unusedVariables false
set_option linter.unusedSimpArgs false
def ZonS (W : World) (za : Option Addr) (zn zc : Nat) (v1 : Option Addr) (m c : Nat) (o : Nm) (rs : List Rc) : Prop :=
  NmAt W (.slice za zn zc) o ∧ NmOK o ∧ (∃ css, SlK W (.slice v1 m c) css ∧ Rcs W css rs) ∧ (∀ r ∈ rs, RcOK r) ∧ m ≤ 1048576
theorem ZonS.below {W W' : World} {za v1 : Option Addr} {zn zc m c : Nat} {o : Nm} {rs : List Rc} (h : ZonS W za zn zc v1 m c o rs) (hb : Below W.heap.size W W') : ZonS W' za zn zc v1 m c o rs := by
  obtain ⟨h1, h2, ⟨css, h3, h4⟩, h5, h6⟩ := h
  exact ⟨h1.below hb, h2, ⟨css, h3.below hb, h4.below hb⟩, h5, h6⟩
end Go.Proofs.YtckammgnmgkieaaGreat

/-
  The zone's answers (look), plainly.
-/
namespace Go.Proofs.YtckammgnmgkieaaGreat
set_option maxRecDepth 20000
open Go.RowKit
set_option linter.unusedVariables false
set_option linter.unusedSimpArgs false
structure Lk where
  kind : Int
  data : List Dat
  name : Nm
  wild : Bool
  glue : List (Nm × List Dat)
end Go.Proofs.YtckammgnmgkieaaGreat

/-
  rset.Sets once more: all that it makes lies behind what was there. (Written by wip/tools/gensetef.py.)
-/
namespace Go.Proofs.YtckammgnmgkieaaGreat
set_option maxRecDepth 20000
open Go.RowKit Go.Shelf
set_option maxRecDepth 20000
set_option linter.unusedVariables false
set_option linter.unusedSimpArgs false
def FarKeep (n : Nat) (W W' : World) : Prop := ∀ g, n ≤ g → g < W.heap.size → W'.heap[g]? = W.heap[g]?
theorem FarKeep.mono {n m : Nat} {W W' : World} (h : FarKeep n W W') (hm : n ≤ m) : FarKeep m W W' := fun g h1 h2 => h g (by omega) h2
theorem own_move {W W' : World} {base : Nat} {T : TypeId} {k n : Nat} {v : Value} {cells : List Value} (h : W.ownsRow base T k v n cells) (hf : FarKeep base W W') : W'.ownsRow base T k v n cells := by
  refine ⟨h.1, ?_⟩
  rcases h.2 with h | ⟨g, cap, cur, e, hb, hg, h2⟩
  · exact .inl h
  · exact .inr ⟨g, cap, cur, e, hb, (hf g hb (kblock_lt hg)).trans hg, h2⟩
theorem OwnK.move {α : Type} {k : Nat} {T : TypeId} {enc : α → List Value} {W W' : World} {base : Nat} {v : Value} {xs : List α} (h : OwnK k T enc W base v xs) (hf : FarKeep base W W') : OwnK k T enc W' base v xs := own_move h hf
theorem OwnG.move {α : Type} {T : TypeId} {enc : α → Value} {W W' : World} {base : Nat} {v : Value} {xs : List α} (h : OwnG T enc W base v xs) (hf : FarKeep base W W') : OwnG T enc W' base v xs := own_move h hf
theorem FrAt.move {W W' : World} {base : Nat} {cs : List Value} {r : Rc} (h : FrAt W base cs r) (hf : FarKeep base W W') : FrAt W' base cs r := by
  obtain ⟨vo, vn, vu, vt, vr, e, h1, ⟨⟨vs, k1, k2, k3⟩, i1, i2, i3⟩⟩ := h
  exact ⟨vo, vn, vu, vt, vr, e, h1.move hf, ⟨⟨vs, k1.move hf, k2, fun i a b => (k3 i a b).move hf⟩, i1.move hf, i2.move hf, i3.move hf⟩⟩
section
attribute [local go_sem] Oper.semAt_some
end
end Go.Proofs.YtckammgnmgkieaaGreat

/-
  zone.depth: a range over a function within a loop.
-/
namespace Go.Proofs.YtckammgnmgkieaaGreat
set_option maxRecDepth 20000
open Go.RowKit Go.Shelf
set_option maxRecDepth 20000
set_option linter.unusedVariables false
set_option linter.unusedSimpArgs false
def Marks (N0 : Nat) (Ds : List Nat) (W : World) : Prop := Ds.Nodup ∧ ∀ D ∈ Ds, N0 ≤ D ∧ W.heap[D]? = some (.deferred (some []))
theorem Marks.nil (N0 : Nat) (W : World) : Marks N0 [] W := ⟨List.nodup_nil, fun D h => by cases h⟩
theorem Marks.kept {N0 : Nat} {Ds : List Nat} {W W' : World} (h : Marks N0 Ds W) (hk : ∀ D o, N0 ≤ D → W.heap[D]? = some o → o.isCells = false → W'.heap[D]? = some o) : Marks N0 Ds W' :=
  ⟨h.1, fun D hD => ⟨(h.2 D hD).1, hk D _ (h.2 D hD).1 (h.2 D hD).2 rfl⟩⟩
theorem Marks.below {N0 : Nat} {Ds : List Nat} {W W' : World} (h : Marks N0 Ds W) (hb : Below W.heap.size W W') : Marks N0 Ds W' :=
  h.kept fun D o _ hD _ => (hb.block D (Array.getElem?_eq_some_iff.1 hD).1).trans hD
theorem Marks.cons {N0 D : Nat} {Ds : List Nat} {W : World} (h : Marks N0 Ds W) (hD : N0 ≤ D) (hn : ¬ D ∈ Ds) (hK : W.heap[D]? = some (.deferred (some []))) : Marks N0 (D :: Ds) W :=
  ⟨List.nodup_cons.2 ⟨hn, h.1⟩, fun E hE => by
    rcases List.mem_cons.1 hE with rfl | hE
    · exact ⟨hD, hK⟩
    · exact h.2 E hE⟩
theorem Marks.lt {N0 : Nat} {Ds : List Nat} {W : World} (h : Marks N0 Ds W) : ∀ D ∈ Ds, D < W.heap.size := fun D hD => (Array.getElem?_eq_some_iff.1 (h.2 D hD).2).1
theorem KpX.set {N B : Nat} {W W' : World} (h : KpX N B W W') (v : Value) : KpX N B W (W'.setCell ⟨B, 0, none⟩ v) :=
  h.trans ⟨rfl, rfl, rfl, by simp, fun k _ hk => Below.heap_setCell W' ⟨B, 0, none⟩ v k (fun e => hk e)⟩
section
attribute [local go_sem] Oper.semAt_some
end
end Go.Proofs.YtckammgnmgkieaaGreat

