/-
  Package name's contracts in one spelling, for laws: arguments that read as names, answers named by equations.
-/
import Derived.Test.YtoohhoillblaoaaNamL
import Derived.Test.YtoohhoillblaoaaNamI
import Derived.Test.YtoohhoillblaoaaNamG
import Derived.Test.YtoohhoillblaoaaNamQ
import Derived.Test.YtoohhoillblaoaaLawGood
import Derived.Test.YtoohhoillblaoaaRefT
namespace Go.Proofs.Ytoohhoillblaoaa
open Go.RowKit Go.Shelf

theorem NmAt.alloc {W : World} {v : Value} {xs : Nm} (h : NmAt W v xs) (o : Obj) : NmAt (W.alloc o) v xs := h.below ((Below.refl _ _).alloc (Nat.le_refl _) _)

theorem nm_lit (W : World) (ys : Nm) (cs : List Value) (k g : Nat) (hc : cs = ys.map strV) (hk : ys.length = k) (hm : k ≤ 1048576) (hg : W.heap.size = g) :
    NmAt (W.alloc (.cells cs.toArray 9)) (.slice (some ⟨g, 0, none⟩) k k) ys := by
  subst hc hk hg
  exact (OwnG.lit (T := 9) (enc := strV) W W.heap.size (Nat.le_refl _) ys (by unfold maxLen; omega)).nmAt
theorem nmOK_of {xs : Nm} (h : fewN xs = true) : NmOK xs := fewN_ok h

def NmRes (xs : Nm) (k : Nat) (w : World) (e : Ending) (w' : World) : Prop := ∃ a c, e = .returned (.slice a k c) ∧ NmAt w' (.slice a k c) xs ∧ Below w.heap.size w w'
def NmRes2 (xs : Nm) (k : Nat) (er : Int) (w : World) (e : Ending) (w' : World) : Prop := ∃ a c, e = .returned (.tuple #[.slice a k c, .int .i64 er]) ∧ NmAt w' (.slice a k c) xs ∧ Below w.heap.size w w'
theorem nmRes_of {xs : Nm} {k : Nat} {w w' : World} {v : Value} (hk : xs.length = k) (ho : OwnG 9 strV w' w.heap.size v xs) (hb : Below w.heap.size w w') : NmRes xs k w (.returned v) w' := by
  subst hk
  obtain ⟨a, c, rfl⟩ := ho.shape
  exact ⟨a, c, rfl, ho.nmAt, hb⟩
theorem nmRes2_of {xs : Nm} {k : Nat} {er : Int} {w w' : World} {v : Value} (hk : xs.length = k) (ho : OwnG 9 strV w' w.heap.size v xs) (hb : Below w.heap.size w w') : NmRes2 xs k er w (.returned (.tuple #[v, .int .i64 er])) w' := by
  subst hk
  obtain ⟨a, c, rfl⟩ := ho.shape
  exact ⟨a, c, rfl, ho.nmAt, hb⟩

theorem kn_NParse (s : ByteArray) (v : Value) (o l : Nm) (er : Int) (k : Nat) (h : parseN s.data.toList o = (l, er)) (hk : l.length = k) (w : World) (hA : NmAt w v o) (hs : s.size ≤ 500000) (ho : NmOK o) (ho2 : o.length ≤ 500000) :
    Calls Try.prog 24 #[.string s, v] w (NmRes2 l k er w) := by
  refine (name_Parse s v o w hA.1 hA.2 hs ho ho2).mono ?_
  intro e w' hp
  unfold ParseNPost at hp
  rw [h] at hp
  obtain ⟨v', rfl, hown, hb⟩ := hp
  exact nmRes2_of hk hown hb
theorem kn_NSwap (v vf vt : Value) (n f t l : Nm) (er : Int) (k : Nat) (h : swapN n f t = (l, er)) (hk : l.length = k) (w : World) (hA : NmAt w v n) (hF : NmAt w vf f) (hT : NmAt w vt t) (h1 : NmOK n) (h2 : NmOK f) (h3 : NmOK t) (h4 : NmOK (n.take (n.length - f.length) ++ t)) :
    Calls Try.prog 36 #[v, vf, vt] w (NmRes2 l k er w) := by
  refine (name_Swap v vf vt n f t w hA.1 hF.1 hT.1 hA.2 hT.2 h1 h2 h3 h4).mono ?_
  intro e w' hp
  unfold SwapPost at hp
  rw [h] at hp
  obtain ⟨v', rfl, hown, hb⟩ := hp
  exact nmRes2_of hk hown hb
theorem kn_NText (v : Value) (n : Nm) (t : List UInt8) (h : textN n = t) (w : World) (hA : NmAt w v n) (h1 : NmOK n) :
    Calls Try.prog 14 #[v] w fun e w' => e = .returned (.string ⟨t.toArray⟩) ∧ Below w.heap.size w w' := by
  subst h; exact name_Text v n w hA.1 h1
theorem kn_NUnder (v u : Value) (n z : Nm) (r : Bool) (h : underN n z = r) (w : World) (hA : NmAt w v n) (hU : NmAt w u z) (h1 : NmOK n) (h2 : NmOK z) :
    Calls Try.prog 29 #[v, u] w fun e w' => e = .returned (.bool r) ∧ Below w.heap.size w w' := by
  subst h; exact name_Under v u n z w hA.1 hU.1 h1 h2
theorem kn_NSame (v u : Value) (n z : Nm) (r : Bool) (h : sameN n z = r) (w : World) (hA : NmAt w v n) (hU : NmAt w u z) (h1 : NmOK n) (h2 : NmOK z) :
    Calls Try.prog 27 #[v, u] w fun e w' => e = .returned (.bool r) ∧ Below w.heap.size w w' := by
  subst h; exact name_Same v u n z w hA.1 hU.1 h1 h2
theorem kn_NCompare (v u : Value) (n z : Nm) (r : Int) (h : compareN n z = r) (w : World) (hA : NmAt w v n) (hU : NmAt w u z) (h1 : NmOK n) (h2 : NmOK z) :
    Calls Try.prog 31 #[v, u] w fun e w' => e = .returned (.int .i64 r) ∧ Below w.heap.size w w' := by
  subst h; exact name_Compare v u n z w hA.1 hU.1 h1 h2
theorem kn_NLen (v : Value) (n : Nm) (r : Int) (h : (lenN n : Int) = r) (w : World) (hA : NmAt w v n) (h1 : NmOK n) :
    Calls Try.prog 17 #[v] w fun e w' => e = .returned (.int .i64 r) ∧ Below w.heap.size w w' := by
  subst h; exact name_Len v n w hA.1 h1
theorem kn_NCheck (v : Value) (n : Nm) (r : Int) (h : checkN n = r) (w : World) (hA : NmAt w v n) (h1 : NmOK n) :
    Calls Try.prog 15 #[v] w fun e w' => e = .returned (.int .i64 r) ∧ Below w.heap.size w w' := by
  subst h; exact name_Check v n w hA.1 h1
theorem kn_NWild (v : Value) (n : Nm) (r : Bool) (h : wildN n = r) (w : World) (hA : NmAt w v n) (h1 : NmOK n) :
    Calls Try.prog 22 #[v] w fun e w' => e = .returned (.bool r) ∧ Below w.heap.size w w' := by
  subst h; refine (name_Wild v n w hA.1 h1).mono ?_
  rintro e w' ⟨he, rfl⟩; exact ⟨he, Below.refl _ _⟩
theorem kn_NParent (v : Value) (n l : Nm) (k : Nat) (h : parentN n = l) (hk : l.length = k) (w : World) (hA : NmAt w v n) (h1 : NmOK n) :
    Calls Try.prog 34 #[v] w (NmRes l k w) := by
  subst h; refine (name_Parent v n w hA.1 hA.2 h1).mono ?_
  rintro e w' ⟨v', rfl, ho, hb⟩; exact nmRes_of hk ho hb
theorem kn_NChild (s : ByteArray) (v : Value) (n l : Nm) (k : Nat) (h : s.data.toList :: n = l) (hk : l.length = k) (w : World) (hA : NmAt w v n) (h1 : NmOK n) :
    Calls Try.prog 38 #[.string s, v] w (NmRes l k w) := by
  subst h; refine (name_Child s v n w hA.1 hA.2 h1).mono ?_
  rintro e w' ⟨v', rfl, ho, hb⟩; exact nmRes_of hk ho hb
theorem kn_NFold (v : Value) (n l : Nm) (k : Nat) (h : foldN n = l) (hk : l.length = k) (w : World) (hA : NmAt w v n) (h1 : NmOK n) :
    Calls Try.prog 20 #[v] w (NmRes l k w) := by
  subst h; refine (name_Fold v n w hA.1 h1).mono ?_
  rintro e w' ⟨v', rfl, ho, hb⟩; exact nmRes_of hk ho hb
theorem kn_NCommon (v u : Value) (n z l : Nm) (k : Nat) (h : commonN n z = l) (hk : l.length = k) (w : World) (hA : NmAt w v n) (hU : NmAt w u z) (h1 : NmOK n) (h2 : NmOK z) :
    Calls Try.prog 32 #[v, u] w (NmRes l k w) := by
  subst h; refine (name_Common v u n z w hA.1 hU.1 hA.2 h1 h2).mono ?_
  rintro e w' ⟨v', rfl, ho, hb⟩; exact nmRes_of hk ho hb

end Go.Proofs.Ytoohhoillblaoaa
