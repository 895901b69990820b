/-
  Strings turned into bytes of the call's own, turned one by one, and back: rtype.great, ref.FoldLabel.
-/
import Derived.Test.YtbnkecmhmcligaaDoorMQ33
import Derived.Lib.ConvBytes
import Derived.Lib.IndexBytes
namespace Go.Proofs.YtbnkecmhmcligaaDoor
set_option linter.unusedVariables false
set_option linter.unusedSimpArgs false
set_option maxRecDepth 20000
open Go.RowKit Go.Shelf

/-- A row of bytes of the call's own, from the head of block g. -/
def BRow (g : Nat) (l : List UInt8) (W : World) : Prop := ∀ j (hj : j < l.length), W.cell? ⟨g, j, none⟩ = some (bv l[j]) ∧ W.frozen? ⟨g, j, none⟩ = false
theorem BRow.set {g : Nat} {l : List UInt8} {W : World} (h : BRow g l W) (k : Nat) (hk : k < l.length) (c : UInt8) : BRow g (l.set k c) (W.setCell ⟨g, k, none⟩ (bv c)) := by
  intro j hj
  rw [List.length_set] at hj
  rw [World.frozen?_setCell]
  refine ⟨?_, (h j hj).2⟩
  by_cases e : j = k
  · subst e
    rw [World.cell?_setCell_same' _ _ _ (by rw [(h j hk).1]; rfl)]
    simp
  · have hne : (⟨g, k, none⟩ : Addr) ≠ ⟨g, j, none⟩ := by intro q; injection q with _ e2 _; omega
    rw [World.cell?_setCell_other (h := hne), (h j hj).1]
    congr 2; rw [List.getElem_set_ne (by omega)]
theorem BRow.below {g n : Nat} {l : List UInt8} {W W' : World} (h : BRow g l W) (hb : Below n W W') (hg : g < n) : BRow g l W' := fun j hj =>
  ⟨(hb.cell (p := ⟨g, j, none⟩) hg).trans (h j hj).1, (hb.frozen (p := ⟨g, j, none⟩) hg).trans (h j hj).2⟩
theorem BRow.of_str (w : World) (s : ByteArray) : BRow w.heap.size s.data.toList (Lib.bytesWorld w 5 s) ∧ Below w.heap.size w (Lib.bytesWorld w 5 s) := by
  have hold := Lib.bytesWorld_at_old w 5 s
  have hsz := Lib.bytesWorld_size w 5 s
  have hcell := Lib.bytesWorld_cell w 5 s
  have hnew := Lib.bytesWorld_at_new w 5 s
  have hcs : s.size ≤ (Lib.bytesCells w 5 s).size := by unfold Lib.bytesCells; simp
  refine ⟨fun j hj => ⟨?_, ?_⟩, rfl, rfl, rfl, by rw [hsz]; omega, fun k hk => hold k hk⟩
  · have hj2 : j < s.size := by rw [← size_data]; exact hj
    rw [hcell j hj2]
    have : s.data.toList.getD j 0 = s[j] := by rw [List.getD_eq_getElem?_getD, Lib.data_getElem? s j hj2]; rfl
    rw [this]; rfl
  · have hj2 : j < s.size := by rw [← size_data]; exact hj
    unfold World.frozen?
    rw [hnew]
    simp; omega
theorem BRow.back {g : Nat} {l : List UInt8} {W : World} (h : BRow g l W) (n cap : Nat) (hn : n = l.length) :
    (convert 58 9 (.slice (some ⟨g, 0, none⟩) n cap)).run Tryd.prog W = .ok (.string ⟨l.toArray⟩) W := by
  subst hn
  exact run_convert_bytes_back W 58 9 5 ⟨g, 0, none⟩ cap l Tryd.underlying58 Tryd.underlying5 Tryd.underlying9 (fun j hj => by
    have e : ((⟨g, 0, none⟩ : Addr).add j) = ⟨g, j, none⟩ := by unfold Addr.add; by_cases hj : j = 0 <;> simp [hj]
    rw [e]; exact (h j hj).1)

theorem mapIdx_const (f : UInt8 → UInt8) (l : List UInt8) : l.mapIdx (fun _ c => f c) = l.map f := by
  apply List.ext_getElem (by simp)
  intro j h1 h2; simp
theorem BRow.same {g : Nat} {l : List UInt8} {W : World} (h : BRow g l W) (k : Nat) (hk : k < l.length) (c : UInt8) (e : l[k] = c) : BRow g (l.set k c) W := by
  subst e; rw [List.set_getElem_self]; exact h

end Go.Proofs.YtbnkecmhmcligaaDoor

/-
  Decimals: number.Digits, number.Parse; the document's Number, Digit.
-/
namespace Go.Proofs.YtbnkecmhmcligaaDoor
set_option linter.unusedVariables false
set_option linter.unusedSimpArgs false
set_option maxRecDepth 20000
open Go.RowKit Go.Shelf

theorem allDigits_snoc (l : List UInt8) (c : UInt8) : allDigits (l ++ [c]) = (allDigits l && digitU c) := by simp [allDigits]
theorem allDigits_take {l : List UInt8} (h : allDigits l = true) (k : Nat) : allDigits (l.take k) = true := by
  unfold allDigits at *; rw [List.all_eq_true] at *; exact fun x hx => h x (List.mem_of_mem_take hx)
theorem allDigits_not {l : List UInt8} {k : Nat} (hk : k < l.length) (h : digitU l[k] = false) : allDigits l = false := by
  cases e : allDigits l with
  | false => rfl
  | true => unfold allDigits at e; rw [List.all_eq_true] at e; rw [e _ (List.getElem_mem hk)] at h; cases h
theorem digit_boundsI {c : UInt8} (h : digitU c = true) : (48 : Int) ≤ (c.toNat : Int) ∧ (c.toNat : Int) ≤ 57 := by rw [digitU_iff] at h; omega
theorem digit_not {c : UInt8} (h : digitU c = false) : (c.toNat : Int) < 48 ∨ (48 ≤ (c.toNat : Int) ∧ 57 < (c.toNat : Int)) := by
  have : ¬ (48 ≤ c.toNat ∧ c.toNat ≤ 57) := by rw [← digitU_iff, h]; simp
  omega

/-- What number.Parse and Number answer. -/
def NumPost (l : List UInt8) (most : Nat) (w : World) (e : Ending) (w' : World) : Prop := e = .returned (.tuple #[.int .i64 ((numM l most).1 : Int), .int .i64 (numM l most).2]) ∧ w' = w
theorem num_fin {l : List UInt8} {most : Nat} {w : World} {e : Ending} (v : Nat) (er : Int) (h : numM l most = (v, er)) (he : e = .returned (.tuple #[.int .i64 (v : Int), .int .i64 er])) : NumPost l most w e w := by
  unfold NumPost; rw [h]; exact ⟨he, rfl⟩
theorem head_get (s : ByteArray) (h : 0 < s.size) : s.data.toList.head? = some s[0] := by
  rw [List.head?_eq_getElem?, List.getElem?_eq_getElem (by rw [size_data]; exact h)]; rfl
theorem num_over {l : List UInt8} {most k : Nat} (hf : formN l = true) (h : most < valL (l.take k)) : numM l most = (0, 7) := by
  have := valL_prefix (List.take_prefix k l)
  unfold numM; rw [hf, if_pos rfl, if_neg (by omega)]

def NumSt (l : List UInt8) (most k v : Nat) (ov : Bool) : Prop := allDigits (l.take k) = true ∧ (ov = false → v ≤ most ∧ valL (l.take k) = v) ∧ (ov = true → most < valL (l.take k))
end Go.Proofs.YtbnkecmhmcligaaDoor

