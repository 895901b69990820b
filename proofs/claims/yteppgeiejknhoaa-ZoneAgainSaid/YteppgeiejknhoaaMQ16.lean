/-
  The document's names (package toponymref6): ParseName.
-/
import Derived.Test.YteppgeiejknhoaaMQ10
import Derived.Test.YteppgeiejknhoaaMQ18
import Derived.Test.YteppgeiejknhoaaMQ13
import Derived.Lib.ConvBytes
import Derived.Lib.IndexBytes
import Derived.Laws.Concat
import Derived.Lib.PathFns
import Derived.Test.YteppgeiejknhoaaMQ30
namespace Go.Proofs.Yteppgeiejknhoaa
set_option maxRecDepth 20000
open Go.RowKit Go.Shelf

def partsK (ps : Nm) (k : Nat) : Nm := if k = ps.length then partsN ps else ps.take k
def wholeK (ps : Nm) (k : Nat) : Bool := decide (k = ps.length) && wholeN ps
theorem partsK_lt {ps : Nm} {k : Nat} (h : k < ps.length) : partsK ps k = ps.take k := by unfold partsK; rw [if_neg (by omega)]
theorem partsK_end (ps : Nm) : partsK ps ps.length = partsN ps := by unfold partsK; rw [if_pos rfl]
/-- The last piece, empty. -/
theorem partsK_dot {ps : Nm} {k : Nat} (h : ps.length = k + 1) (h2 : ps[k]'(by omega) = []) : partsK ps (k + 1) = ps.take k ∧ wholeK ps (k + 1) = true := by
  have hw : wholeN ps = true := by rw [wholeN_eq h]; exact decide_eq_true h2
  unfold partsK wholeK partsN
  rw [if_pos h.symm, hw, if_pos rfl, List.dropLast_eq_take, h]
  simp
/-- A piece that is not the last one, or not empty. -/
theorem partsK_next {ps : Nm} {k : Nat} (h : k < ps.length) (h2 : ¬ (ps.length = k + 1 ∧ ps[k] = [])) : partsK ps (k + 1) = ps.take k ++ [ps[k]] ∧ wholeK ps (k + 1) = false ∧ ps.take k ++ [ps[k]] <+: partsN ps := by
  have ht : ps.take k ++ [ps[k]] = ps.take (k + 1) := (List.take_succ_eq_append_getElem h).symm
  rw [ht]
  by_cases e : ps.length = k + 1
  · have hw : wholeN ps = false := by rw [wholeN_eq e]; exact decide_eq_false (fun q => h2 ⟨e, q⟩)
    have hp : partsN ps = ps := by unfold partsN; rw [hw]; rfl
    have hk : ps.take (k + 1) = ps := List.take_of_length_le (by omega)
    unfold partsK wholeK
    rw [if_pos e.symm, hw, hp, hk, Bool.and_false]
    exact ⟨rfl, rfl, List.prefix_rfl⟩
  · refine ⟨partsK_lt (by omega), by unfold wholeK; rw [decide_eq_false (by omega)]; rfl, ?_⟩
    unfold partsN
    split
    · rw [List.dropLast_eq_take]
      exact List.take_prefix_take_left (by omega)
    · exact List.take_prefix _ _

end Go.Proofs.Yteppgeiejknhoaa

/-
  The document's names in the same spelling as package name's (XNamX); the statements' helpers.
-/
namespace Go.Proofs.Yteppgeiejknhoaa
set_option maxRecDepth 20000
open Go.RowKit Go.Shelf

theorem kn_RLen (v : Value) (n : Nm) (r : Int) (h : (lenN n : Int) = r) (w : World) (hA : NmAt w v n) (h1 : NmOK n) :
    Calls Try.prog 56 #[v] w fun e w' => e = .returned (.int .i64 r) ∧ Below w.heap.size w w' := by
  subst h; refine (ref_Len v n w hA.1 h1).mono ?_
  rintro e w' ⟨rfl, rfl⟩; exact ⟨rfl, Below.refl _ _⟩
theorem kn_RCheck (v : Value) (n : Nm) (r : Int) (h : checkN n = r) (w : World) (hA : NmAt w v n) (h1 : NmOK n) :
    Calls Try.prog 30 #[v] w fun e w' => e = .returned (.int .i64 r) ∧ Below w.heap.size w w' := by
  subst h; refine (ref_CheckName v n w hA.1 h1).mono ?_
  rintro e w' ⟨rfl, rfl⟩; exact ⟨rfl, Below.refl _ _⟩
/-- An argument of a law, a name or labels. -/
def NmArg (W : World) (v : Value) (xs : Nm) : Prop := NmAt W v xs ∧ xs.length ≤ maxLen ∧ ∀ x ∈ xs, x.length ≤ maxLen
theorem nmArg_nil (W : World) : NmArg W (.slice none 0 0) [] := ⟨nm_nil W, Nat.zero_le _, by simp⟩
theorem nmArg_row {W : World} {x : Addr} {l c : Nat} {zs : List ByteArray} (hl : l ≤ c) (hm : c ≤ maxLen) (hz : zs.length = c)
    (hcell : ∀ i, i < zs.length → W.cell? (x.add i) = some (.string (zs.getD i ByteArray.empty))) (hws : ∀ s ∈ zs, s.size ≤ maxLen) :
    NmArg W (.slice (some x) l c) ((zs.take l).map (·.data.toList)) := by
  have h := strsArg_row hl hm hz hcell hws
  exact ⟨⟨h.1, _, _, _, rfl, hl, fun e => by cases e⟩, h.2⟩
theorem kn_Few (v : Value) (n : Nm) (r : Bool) (h : fewN n = r) (w0 w : World) (hA : NmArg w0 v n) (hA2 : NmAt w v n) :
    Calls Try.prog 29 #[v] w fun e w' => e = .returned (.bool r) ∧ Below w.heap.size w w' := by
  subst h; refine (law2_Few v n w hA2.1 hA.2.1 hA.2.2).mono ?_
  rintro e w' ⟨rfl, rfl⟩; exact ⟨rfl, Below.refl _ _⟩
theorem kn_Good (v : Value) (n : Nm) (r : Bool) (h : goodN n = r) (w0 w : World) (hA : NmArg w0 v n) (hA2 : NmAt w v n) :
    Calls Try.prog 10 #[v] w fun e w' => e = .returned (.bool r) ∧ Below w.heap.size w w' := by
  subst h; refine (law2_Good v n w hA2.1 hA.2.1 hA.2.2).mono ?_
  rintro e w' ⟨rfl, rfl⟩; exact ⟨rfl, Below.refl _ _⟩
end Go.Proofs.Yteppgeiejknhoaa

/-
  Strings turned into bytes of the call's own, turned one by one, and back: rtype.great, ref.FoldLabel.
-/
namespace Go.Proofs.Yteppgeiejknhoaa
set_option maxRecDepth 20000
open Go.RowKit Go.Shelf

/-- A row of bytes of the call's own, from the head of block g. -/
def BRow (g : Nat) (l : List UInt8) (W : World) : Prop := ∀ j (hj : j < l.length), W.cell? ⟨g, j, none⟩ = some (bv l[j]) ∧ W.frozen? ⟨g, j, none⟩ = false
theorem BRow.set {g : Nat} {l : List UInt8} {W : World} (h : BRow g l W) (k : Nat) (hk : k < l.length) (c : UInt8) : BRow g (l.set k c) (W.setCell ⟨g, k, none⟩ (bv c)) := by
  intro j hj
  rw [List.length_set] at hj
  rw [World.frozen?_setCell]
  refine ⟨?_, (h j hj).2⟩
  by_cases e : j = k
  · subst e
    rw [World.cell?_setCell_same' _ _ _ (by rw [(h j hk).1]; rfl)]
    simp
  · have hne : (⟨g, k, none⟩ : Addr) ≠ ⟨g, j, none⟩ := by intro q; injection q with _ e2 _; omega
    rw [World.cell?_setCell_other (h := hne), (h j hj).1]
    congr 2; rw [List.getElem_set_ne (by omega)]
theorem BRow.below {g n : Nat} {l : List UInt8} {W W' : World} (h : BRow g l W) (hb : Below n W W') (hg : g < n) : BRow g l W' := fun j hj =>
  ⟨(hb.cell (p := ⟨g, j, none⟩) hg).trans (h j hj).1, (hb.frozen (p := ⟨g, j, none⟩) hg).trans (h j hj).2⟩
theorem BRow.of_str (w : World) (s : ByteArray) : BRow w.heap.size s.data.toList (Lib.bytesWorld w 5 s) ∧ Below w.heap.size w (Lib.bytesWorld w 5 s) := by
  have hold := Lib.bytesWorld_at_old w 5 s
  have hsz := Lib.bytesWorld_size w 5 s
  have hcell := Lib.bytesWorld_cell w 5 s
  have hnew := Lib.bytesWorld_at_new w 5 s
  have hcs : s.size ≤ (Lib.bytesCells w 5 s).size := by unfold Lib.bytesCells; simp
  refine ⟨fun j hj => ⟨?_, ?_⟩, rfl, rfl, rfl, by rw [hsz]; omega, fun k hk => hold k hk⟩
  · have hj2 : j < s.size := by rw [← size_data]; exact hj
    rw [hcell j hj2]
    have : s.data.toList.getD j 0 = s[j] := by rw [List.getD_eq_getElem?_getD, Lib.data_getElem? s j hj2]; rfl
    rw [this]; rfl
  · have hj2 : j < s.size := by rw [← size_data]; exact hj
    unfold World.frozen?
    rw [hnew]
    simp; omega
theorem BRow.back {g : Nat} {l : List UInt8} {W : World} (h : BRow g l W) (n cap : Nat) (hn : n = l.length) :
    (convert 46 9 (.slice (some ⟨g, 0, none⟩) n cap)).run Try.prog W = .ok (.string ⟨l.toArray⟩) W := by
  subst hn
  exact run_convert_bytes_back W 46 9 5 ⟨g, 0, none⟩ cap l Try.underlying46 Try.underlying5 Try.underlying9 (fun j hj => by
    have e : ((⟨g, 0, none⟩ : Addr).add j) = ⟨g, j, none⟩ := by unfold Addr.add; by_cases hj : j = 0 <;> simp [hj]
    rw [e]; exact (h j hj).1)

theorem mapIdx_const (f : UInt8 → UInt8) (l : List UInt8) : l.mapIdx (fun _ c => f c) = l.map f := by
  apply List.ext_getElem (by simp)
  intro j h1 h2; simp
theorem BRow.same {g : Nat} {l : List UInt8} {W : World} (h : BRow g l W) (k : Nat) (hk : k < l.length) (c : UInt8) (e : l[k] = c) : BRow g (l.set k c) W := by
  subst e; rw [List.set_getElem_self]; exact h

end Go.Proofs.Yteppgeiejknhoaa

/-
  Decimals: number.Digits, number.Parse; the document's Number, Digit.
-/
namespace Go.Proofs.Yteppgeiejknhoaa
set_option maxRecDepth 20000
open Go.RowKit Go.Shelf

theorem allDigits_snoc (l : List UInt8) (c : UInt8) : allDigits (l ++ [c]) = (allDigits l && digitU c) := by simp [allDigits]
theorem allDigits_take {l : List UInt8} (h : allDigits l = true) (k : Nat) : allDigits (l.take k) = true := by
  unfold allDigits at *; rw [List.all_eq_true] at *; exact fun x hx => h x (List.mem_of_mem_take hx)
theorem allDigits_not {l : List UInt8} {k : Nat} (hk : k < l.length) (h : digitU l[k] = false) : allDigits l = false := by
  cases e : allDigits l with
  | false => rfl
  | true => unfold allDigits at e; rw [List.all_eq_true] at e; rw [e _ (List.getElem_mem hk)] at h; cases h
theorem digit_boundsI {c : UInt8} (h : digitU c = true) : (48 : Int) ≤ (c.toNat : Int) ∧ (c.toNat : Int) ≤ 57 := by rw [digitU_iff] at h; omega
theorem digit_not {c : UInt8} (h : digitU c = false) : (c.toNat : Int) < 48 ∨ (48 ≤ (c.toNat : Int) ∧ 57 < (c.toNat : Int)) := by
  have : ¬ (48 ≤ c.toNat ∧ c.toNat ≤ 57) := by rw [← digitU_iff, h]; simp
  omega


/-- What number.Parse and Number answer. -/
def NumPost (l : List UInt8) (most : Nat) (w : World) (e : Ending) (w' : World) : Prop := e = .returned (.tuple #[.int .i64 ((numM l most).1 : Int), .int .i64 (numM l most).2]) ∧ w' = w
theorem num_fin {l : List UInt8} {most : Nat} {w : World} {e : Ending} (v : Nat) (er : Int) (h : numM l most = (v, er)) (he : e = .returned (.tuple #[.int .i64 (v : Int), .int .i64 er])) : NumPost l most w e w := by
  unfold NumPost; rw [h]; exact ⟨he, rfl⟩
theorem head_get (s : ByteArray) (h : 0 < s.size) : s.data.toList.head? = some s[0] := by
  rw [List.head?_eq_getElem?, List.getElem?_eq_getElem (by rw [size_data]; exact h)]; rfl
theorem num_over {l : List UInt8} {most k : Nat} (hf : formN l = true) (h : most < valL (l.take k)) : numM l most = (0, 7) := by
  have := valL_prefix (List.take_prefix k l)
  unfold numM; rw [hf, if_pos rfl, if_neg (by omega)]

def NumSt (l : List UInt8) (most k v : Nat) (ov : Bool) : Prop := allDigits (l.take k) = true ∧ (ov = false → v ≤ most ∧ valL (l.take k) = v) ∧ (ov = true → most < valL (l.take k))
end Go.Proofs.Yteppgeiejknhoaa

/-
  Decimals written: the document's Decimal.
-/
namespace Go.Proofs.Yteppgeiejknhoaa
set_option maxRecDepth 20000
open Go.RowKit Go.Shelf

def preD (n : Nat) : List UInt8 := if n < 10 then [] else Lib.decDigits (n / 10)
theorem dec_pre (n : Nat) : Lib.decDigits n = preD n ++ [UInt8.ofNat (48 + n % 10)] := by
  rw [Lib.decDigits]; unfold preD
  by_cases h : n < 10
  · rw [dif_pos h, if_pos h, Nat.mod_eq_of_lt h]; rfl
  · rw [dif_neg h, if_neg h]
theorem dec_len (u : Nat) (h : u < 10 ^ 19) : (Lib.decDigits u).length ≤ 19 := by
  rw [Lib.decDigits_length]
  have : ∀ k u, u < 10 ^ k → Lib.nDigits u ≤ max k 1 := by
    intro k
    induction k with
    | zero => intro u h; rw [Lib.nDigits_small (by simp at h; omega)]; omega
    | succ k ih =>
      intro u h
      rw [Lib.nDigits]
      by_cases h10 : u < 10
      · rw [dif_pos h10]; omega
      · rw [dif_neg h10]
        have := ih (u / 10) (by rw [Nat.pow_succ] at h; omega)
        rcases k with _ | k
        · simp at h; omega
        · omega
  have := this 19 u h
  omega

theorem one_byte (W : World) (x : Int) (c : UInt8) (h : x = (c.toNat : Int)) :
    (convert 46 9 (.slice (some ⟨W.heap.size, 0, none⟩) 1 1)).run Try.prog (W.alloc (.cells #[.int .u8 x] 5)) = .ok (.string ⟨#[c]⟩) (W.alloc (.cells #[.int .u8 x] 5)) := by
  subst h
  refine run_convert_bytes_back _ _ _ _ _ 1 [c] Try.underlying46 Try.underlying5 Try.underlying9 ?_
  intro j hj
  refine cells_new W [.int .u8 (c.toNat : Int)] 5 j _ ?_
  obtain rfl : j = 0 := by simp at hj; exact hj
  rfl
theorem digit_int (n : Nat) : (48 : Int) + (n : Int) % 10 = ((UInt8.ofNat (48 + n % 10)).toNat : Int) := by
  have : (UInt8.ofNat (48 + n % 10)).toNat = 48 + n % 10 := by simp; omega
  rw [this]; omega

end Go.Proofs.Yteppgeiejknhoaa

/-
  The document's types: Types, typeName, Known, TypeText, ParseType.
-/
namespace Go.Proofs.Yteppgeiejknhoaa
set_option maxRecDepth 20000
open Go.RowKit Go.Shelf

theorem rowOfT_first {t : Int} {k : Nat} (hk : k < 9) (h : typeT k = t) (hn : ∀ j, j < k → typeT j ≠ t) : rowOfT t = some k := by
  unfold rowOfT; rw [List.find?_range_eq_some]
  exact ⟨decide_eq_true h, by simpa using hk, fun j hj => by simpa using hn j hj⟩
theorem rowOfT_never {t : Int} (h : ∀ j, j < 9 → typeT j ≠ t) : rowOfT t = none := by
  unfold rowOfT; rw [List.find?_eq_none]; intro j hj; simpa using h j (by simpa using hj)
theorem rowOfS_first {s : List UInt8} {k : Nat} (hk : k < 9) (h : typeS k = s) (hn : ∀ j, j < k → typeS j ≠ s) : rowOfS s = some k := by
  unfold rowOfS; rw [List.find?_range_eq_some]
  exact ⟨decide_eq_true h, by simpa using hk, fun j hj => by simpa using hn j hj⟩
theorem rowOfS_never {s : List UInt8} (h : ∀ j, j < 9 → typeS j ≠ s) : rowOfS s = none := by
  unfold rowOfS; rw [List.find?_eq_none]; intro j hj; simpa using h j (by simpa using hj)

/-- A row of integers in block g. -/
def TRow (g : Nat) (W : World) : Prop := g < W.heap.size ∧ ∀ j, j < 9 → W.cell? ⟨g, j, none⟩ = some (.int .i64 (typeT j))
theorem TRow.below {g : Nat} {W W' : World} (h : TRow g W) (hb : Below W.heap.size W W') : TRow g W' := ⟨Nat.lt_of_lt_of_le h.1 hb.size, fun j hj => (hb.cell (p := ⟨g, j, none⟩) h.1).trans (h.2 j hj)⟩
def TypesPost (w : World) (e : Ending) (w' : World) : Prop := ∃ g, e = .returned (.slice (some ⟨g, 0, none⟩) 9 9) ∧ TRow g w' ∧ Below w.heap.size w w'

theorem name_known (t : Int) : knownM t = !(typeNameM t).isEmpty := by
  unfold knownM typeNameM
  cases h : rowOfT t with
  | none => rfl
  | some j =>
    have := (typeS_ne j (find_range h).1).1
    simp only [Option.isSome_some]
    cases hs : typeS j with
    | nil => exact absurd hs this
    | cons a b => rfl

end Go.Proofs.Yteppgeiejknhoaa

/-
  rdata.counted, whatever the type.
-/
namespace Go.Proofs.Yteppgeiejknhoaa
set_option maxRecDepth 20000
open Go.RowKit Go.Shelf

theorem countedM_lit (d : Dat) (a b r : Nat) (h : countsM d.ty = ((a : Int), (b : Int), (r : Int))) (h16 : d.ty ≠ 16) : countedM d = decide (d.names.length = a ∧ d.nums.length = b ∧ d.texts.length = 0 ∧ d.raw.length = r) := by
  unfold countedM
  rw [h]
  apply decide_eq_decide.2
  rw [if_neg h16]
  show (d.names.length : Int) = (a : Int) ∧ (d.nums.length : Int) = (b : Int) ∧ _ ∧ ((0 : Int) ≤ (r : Int) → (d.raw.length : Int) = (r : Int)) ↔ _
  constructor
  · rintro ⟨h1, h2, h3, h4⟩
    have := h4 (by omega)
    exact ⟨by omega, by omega, h3, by omega⟩
  · rintro ⟨h1, h2, h3, h4⟩
    exact ⟨by omega, by omega, h3, fun _ => by omega⟩
end Go.Proofs.Yteppgeiejknhoaa

