/-
  The document's names in the same spelling as package name's (XNamX); the statements' helpers.
-/
import Derived.Test.YtoohhoillblaoaaNamX
import Derived.Test.YtoohhoillblaoaaRefX
namespace Go.Proofs.Ytoohhoillblaoaa
open Go.RowKit Go.Shelf

theorem kn_RUnder (v u : Value) (n z : Nm) (r : Bool) (h : underN n z = r) (w : World) (hA : NmAt w v n) (hU : NmAt w u z) (h1 : NmOK n) (h2 : NmOK z) :
    Calls Try.prog 30 #[v, u] w fun e w' => e = .returned (.bool r) ∧ Below w.heap.size w w' := by
  subst h; exact ref_Under v u n z w hA hU.1 h1 h2
theorem kn_RSame (v u : Value) (n z : Nm) (r : Bool) (h : sameN n z = r) (w : World) (hA : NmAt w v n) (hU : NmAt w u z) (h1 : NmOK n) (h2 : NmOK z) :
    Calls Try.prog 28 #[v, u] w fun e w' => e = .returned (.bool r) ∧ Below w.heap.size w w' := by
  subst h; exact ref_Same v u n z w hA.1 hU.1 h1 h2
theorem kn_RCompare (v u : Value) (n z : Nm) (r : Int) (h : compareN n z = r) (w : World) (hA : NmAt w v n) (hU : NmAt w u z) (h1 : NmOK n) (h2 : NmOK z) :
    Calls Try.prog 26 #[v, u] w fun e w' => e = .returned (.int .i64 r) ∧ Below w.heap.size w w' := by
  subst h; exact ref_Compare v u n z w hA.1 hU.1 h1 h2
theorem kn_RCommon (v u : Value) (n z l : Nm) (k : Nat) (h : commonN n z = l) (hk : l.length = k) (w : World) (hA : NmAt w v n) (hU : NmAt w u z) (h1 : NmOK n) (h2 : NmOK z) :
    Calls Try.prog 33 #[v, u] w (NmRes l k w) := by
  subst h hk; refine (ref_Common v u n z w hA hU h1 h2).mono ?_
  rintro e w' ⟨v', rfl, ho, hb⟩
  obtain ⟨a, c, rfl, _⟩ := id ho.1
  exact ⟨a, c, rfl, ho, hb⟩
theorem kn_RParent (v : Value) (n l : Nm) (k : Nat) (h : parentN n = l) (hk : l.length = k) (w : World) (hA : NmAt w v n) (h1 : NmOK n) :
    Calls Try.prog 35 #[v] w (NmRes l k w) := by
  subst h hk; refine (ref_Parent v n w hA h1).mono ?_
  rintro e w' ⟨v', rfl, ho, rfl⟩
  obtain ⟨a, c, rfl, _⟩ := id ho.1
  exact ⟨a, c, rfl, ho, Below.refl _ _⟩
theorem kn_RFold (v : Value) (n l : Nm) (k : Nat) (h : foldN n = l) (hk : l.length = k) (w : World) (hA : NmAt w v n) (h1 : NmOK n) :
    Calls Try.prog 21 #[v] w (NmRes l k w) := by
  subst h; refine (ref_Fold v n w hA.1 h1).mono ?_
  rintro e w' ⟨v', rfl, ho, hb⟩; exact nmRes_of hk ho hb
theorem kn_RChild (s : ByteArray) (v : Value) (n l : Nm) (k : Nat) (h : s.data.toList :: n = l) (hk : l.length = k) (w : World) (hA : NmAt w v n) (h1 : NmOK n) :
    Calls Try.prog 39 #[.string s, v] w (NmRes l k w) := by
  subst h; refine (ref_Child s v n w hA h1).mono ?_
  rintro e w' ⟨v', rfl, ho, hb⟩; exact nmRes_of hk ho hb
theorem kn_RSwap (v vf vt : Value) (n f t l : Nm) (er : Int) (k : Nat) (h : swapN n f t = (l, er)) (hk : l.length = k) (w : World) (hA : NmAt w v n) (hF : NmAt w vf f) (hT : NmAt w vt t) (h1 : NmOK n) (h2 : NmOK f) (h3 : NmOK t) (h4 : NmOK (n.take (n.length - f.length) ++ t)) :
    Calls Try.prog 37 #[v, vf, vt] w (NmRes2 l k er w) := by
  refine (ref_Swap v vf vt n f t w hA hF hT h1 h2 h3 h4).mono ?_
  intro e w' hp
  unfold SwapPost at hp
  rw [h] at hp
  obtain ⟨v', rfl, hown, hb⟩ := hp
  exact nmRes2_of hk hown hb
theorem kn_RParse (s : ByteArray) (v : Value) (o l : Nm) (er : Int) (k : Nat) (h : parseN s.data.toList o = (l, er)) (hk : l.length = k) (w : World) (hA : NmAt w v o) (hs : s.size ≤ 500000) (ho : NmOK o) (ho2 : o.length ≤ 500000) :
    Calls Try.prog 25 #[.string s, v] w (NmRes2 l k er w) := by
  refine (ref_ParseName s v o w hA hs ho ho2).mono ?_
  intro e w' hp
  unfold ParseNPost at hp
  rw [h] at hp
  obtain ⟨v', rfl, hown, hb⟩ := hp
  exact nmRes2_of hk hown hb
theorem kn_RText (v : Value) (n : Nm) (t : List UInt8) (h : textN n = t) (w : World) (hA : NmAt w v n) (h1 : NmOK n) :
    Calls Try.prog 16 #[v] w fun e w' => e = .returned (.string ⟨t.toArray⟩) ∧ Below w.heap.size w w' := by
  subst h; exact ref_NameText v n w hA.1 h1
theorem kn_RLen (v : Value) (n : Nm) (r : Int) (h : (lenN n : Int) = r) (w : World) (hA : NmAt w v n) (h1 : NmOK n) :
    Calls Try.prog 18 #[v] w fun e w' => e = .returned (.int .i64 r) ∧ Below w.heap.size w w' := by
  subst h; refine (ref_Len v n w hA.1 h1).mono ?_
  rintro e w' ⟨rfl, rfl⟩; exact ⟨rfl, Below.refl _ _⟩
theorem kn_RCheck (v : Value) (n : Nm) (r : Int) (h : checkN n = r) (w : World) (hA : NmAt w v n) (h1 : NmOK n) :
    Calls Try.prog 13 #[v] w fun e w' => e = .returned (.int .i64 r) ∧ Below w.heap.size w w' := by
  subst h; refine (ref_CheckName v n w hA.1 h1).mono ?_
  rintro e w' ⟨rfl, rfl⟩; exact ⟨rfl, Below.refl _ _⟩
theorem kn_RWild (v : Value) (n : Nm) (r : Bool) (h : wildN n = r) (w : World) (hA : NmAt w v n) (h1 : NmOK n) :
    Calls Try.prog 23 #[v] w fun e w' => e = .returned (.bool r) ∧ Below w.heap.size w w' := by
  subst h; refine (ref_Wild v n w hA.1 h1).mono ?_
  rintro e w' ⟨rfl, rfl⟩; exact ⟨rfl, Below.refl _ _⟩
/-- An argument of a law, a name or labels. -/
def NmArg (W : World) (v : Value) (xs : Nm) : Prop := NmAt W v xs ∧ xs.length ≤ maxLen ∧ ∀ x ∈ xs, x.length ≤ maxLen
theorem nmArg_nil (W : World) : NmArg W (.slice none 0 0) [] := ⟨nm_nil W, Nat.zero_le _, by simp⟩
theorem nmArg_row {W : World} {x : Addr} {l c : Nat} {zs : List ByteArray} (hl : l ≤ c) (hm : c ≤ maxLen) (hz : zs.length = c)
    (hcell : ∀ i, i < zs.length → W.cell? (x.add i) = some (.string (zs.getD i ByteArray.empty))) (hws : ∀ s ∈ zs, s.size ≤ maxLen) :
    NmArg W (.slice (some x) l c) ((zs.take l).map (·.data.toList)) := by
  have h := strsArg_row hl hm hz hcell hws
  exact ⟨⟨h.1, _, _, _, rfl, hl, fun e => by cases e⟩, h.2⟩
theorem kn_Few (v : Value) (n : Nm) (r : Bool) (h : fewN n = r) (w0 w : World) (hA : NmArg w0 v n) (hA2 : NmAt w v n) :
    Calls Try.prog 12 #[v] w fun e w' => e = .returned (.bool r) ∧ Below w.heap.size w w' := by
  subst h; refine (law2_Few v n w hA2.1 hA.2.1 hA.2.2).mono ?_
  rintro e w' ⟨rfl, rfl⟩; exact ⟨rfl, Below.refl _ _⟩
theorem kn_Good (v : Value) (n : Nm) (r : Bool) (h : goodN n = r) (w0 w : World) (hA : NmArg w0 v n) (hA2 : NmAt w v n) :
    Calls Try.prog 40 #[v] w fun e w' => e = .returned (.bool r) ∧ Below w.heap.size w w' := by
  subst h; refine (law2_Good v n w hA2.1 hA.2.1 hA.2.2).mono ?_
  rintro e w' ⟨rfl, rfl⟩; exact ⟨rfl, Below.refl _ _⟩
theorem kn_Is (v u : Value) (n z : Nm) (r : Bool) (h : decide (n = z) = r) (w : World) (hA : NmAt w v n) (hU : NmAt w u z) (h1 : NmOK n) :
    Calls Try.prog 19 #[v, u] w fun e w' => e = .returned (.bool r) ∧ Below w.heap.size w w' := by
  subst h; exact law2_Is v u n z w hA.1 hU.1 (by have := h1.1; omega)

end Go.Proofs.Ytoohhoillblaoaa
