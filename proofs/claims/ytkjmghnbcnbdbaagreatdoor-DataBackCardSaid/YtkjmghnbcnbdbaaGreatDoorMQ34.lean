/-
  Contract of label.Split: a text, parted at its dots.
-/
import Derived.Test.YtkjmghnbcnbdbaaGreatDoorMQ12
import Derived.Test.YtkjmghnbcnbdbaaGreatDoorMQ21
namespace Go.Proofs.YtkjmghnbcnbdbaaGreatDoor
set_option maxRecDepth 20000
open Go.RowKit Go.Shelf

/-- How far a text is parted: where we are, where the part at hand begins, whether a stroke is ahead, the parts (from, to). -/
structure SpSt where
  at' : Nat
  start : Nat
  taken : Bool
  parts : List (Nat × Nat)
def spStep (t : SpSt) (c : UInt8) : SpSt :=
  if t.taken then ⟨t.at' + 1, t.start, false, t.parts⟩ else if c = 92 then ⟨t.at' + 1, t.start, true, t.parts⟩
  else if c = 46 then ⟨t.at' + 1, t.at' + 1, false, t.parts ++ [(t.start, t.at')]⟩ else ⟨t.at' + 1, t.start, false, t.parts⟩
def spRun (l : List UInt8) : SpSt := l.foldl spStep ⟨0, 0, false, []⟩
theorem spRun_snoc (l : List UInt8) (c : UInt8) : spRun (l ++ [c]) = spStep (spRun l) c := by simp [spRun]
theorem spRun_inv (l : List UInt8) : (spRun l).at' = l.length ∧ (spRun l).start ≤ l.length ∧ (spRun l).parts.length ≤ l.length := by
  suffices h : ∀ (l : List UInt8) (t : SpSt) (n : Nat), t.at' = n → t.start ≤ n → t.parts.length ≤ n → (l.foldl spStep t).at' = n + l.length ∧ (l.foldl spStep t).start ≤ n + l.length ∧ (l.foldl spStep t).parts.length ≤ n + l.length by
    have := h l ⟨0, 0, false, []⟩ 0 rfl (Nat.le_refl _) (Nat.le_refl _)
    unfold spRun; simp only [Nat.zero_add] at this; exact this
  intro l
  induction l with
  | nil => intro t n h1 h2 h3; simp [h1, h2, h3]
  | cons c l ih =>
    intro t n h1 h2 h3
    have := ih (spStep t c) (n + 1) (by unfold spStep; split <;> (try split) <;> (try split) <;> simp [h1]) (by unfold spStep; split <;> (try split) <;> (try split) <;> simp <;> omega) (by unfold spStep; split <;> (try split) <;> (try split) <;> simp <;> omega)
    simp only [List.foldl_cons, List.length_cons]
    obtain ⟨a, b, d⟩ := this
    exact ⟨by omega, by omega, by omega⟩
def piece (s : List UInt8) (p : Nat × Nat) : List UInt8 := (s.take p.2).drop p.1
def splitM (s : List UInt8) : List (List UInt8) × Int :=
  if (spRun s).taken then ([], 2) else ((spRun s).parts.map (piece s) ++ [s.drop (spRun s).start], 0)

theorem spStep_taken {t : SpSt} {c : UInt8} (h : t.taken = true) : spStep t c = ⟨t.at' + 1, t.start, false, t.parts⟩ := by simp [spStep, h]
theorem spStep_stroke {t : SpSt} {c : UInt8} (h : t.taken = false) (h2 : ((c.toNat : Int) == 92) = true) : spStep t c = ⟨t.at' + 1, t.start, true, t.parts⟩ := by
  have : c = 92 := u8_is (n := 92) (by omega) h2
  simp [spStep, h, this]
theorem spStep_dot {t : SpSt} {c : UInt8} (h : t.taken = false) (h3 : ((c.toNat : Int) == 46) = true) : spStep t c = ⟨t.at' + 1, t.at' + 1, false, t.parts ++ [(t.start, t.at')]⟩ := by
  have : c = 46 := u8_is (n := 46) (by omega) h3
  simp [spStep, h, this]
theorem spStep_other {t : SpSt} {c : UInt8} (h : t.taken = false) (h2 : ((c.toNat : Int) == 92) = false) (h3 : ((c.toNat : Int) == 46) = false) : spStep t c = ⟨t.at' + 1, t.start, false, t.parts⟩ := by
  have e1 : c ≠ 92 := u8_isnt (n := 92) (by omega) h2
  have e2 : c ≠ 46 := u8_isnt (n := 46) (by omega) h3
  simp [spStep, h, e1, e2]

/-- The parts that are made. -/
def spParts (s : ByteArray) (pre : List UInt8) : List (List UInt8) := (spRun pre).parts.map (piece s.data.toList)

/-- The boxes of a call of Split, and what they hold. -/
def SpG (s : ByteArray) (w : World) (parts : List (List UInt8)) (start at' : Int) (taken : Bool) (W : World) : Prop :=
  Boxed W w.heap.size 9 (.string s) ∧ GBox 9 24 strV (w.heap.size + 1) (w.heap.size + 6) parts W ∧ Boxed W (w.heap.size + 1 + 1) 3 (.int .i64 start) ∧
  Boxed W (w.heap.size + 1 + 1 + 1) 3 (.int .i64 at') ∧ Boxed W (w.heap.size + 1 + 1 + 1 + 1) 4 (.bool taken) ∧ Boxed W (w.heap.size + 1 + 1 + 1 + 1 + 1) 9 (.string s) ∧ Below w.heap.size w W
def SpInv (s : ByteArray) (w : World) (pre : List UInt8) (W : World) : Prop := SpG s w (spParts s pre) ((spRun pre).start : Int) (pre.length : Int) (spRun pre).taken W
/-- What a step of a round has done. -/
def SpTo (s : ByteArray) (w W : World) (parts : List (List UInt8)) (start at' : Int) (taken : Bool) (W' : World) : Prop :=
  KeepsOthers W W' ∧ KeepB (w.heap.size + 1 + 1 + 1 + 1 + 1) W W' ∧ SpG s w parts start at' taken W'
section
variable {s : ByteArray} {w W X : World} {parts : List (List UInt8)} {start at' : Int} {taken : Bool}
theorem SpTo.setTaken (h : SpTo s w W parts start at' taken X) (b : Bool) : SpTo s w W parts start at' b (X.setCell ⟨w.heap.size + 1 + 1 + 1 + 1, 0, none⟩ (.bool b)) := by
  obtain ⟨k1, k2, h0, h1, h2, h3, h4, h5, hB⟩ := h
  exact ⟨k1.trans (KeepsOthers.setCell _ _ _), k2.trans (KeepB.setCell _ _ (by omega)), h0.other (by omega) _, h1.setOther h4 (by decide) (by omega) _, h2.other (by omega) _, h3.other (by omega) _, h4.set _, h5.other (by omega) _, hB.trans ((Below.refl _ _).setCell (p := ⟨w.heap.size + 1 + 1 + 1 + 1, 0, none⟩) (by simp; omega) _)⟩
theorem SpTo.setAt (h : SpTo s w W parts start at' taken X) (n : Int) : SpTo s w W parts start n taken (X.setCell ⟨w.heap.size + 1 + 1 + 1, 0, none⟩ (.int .i64 n)) := by
  obtain ⟨k1, k2, h0, h1, h2, h3, h4, h5, hB⟩ := h
  exact ⟨k1.trans (KeepsOthers.setCell _ _ _), k2.trans (KeepB.setCell _ _ (by omega)), h0.other (by omega) _, h1.setOther h3 (by decide) (by omega) _, h2.other (by omega) _, h3.set _, h4.other (by omega) _, h5.other (by omega) _, hB.trans ((Below.refl _ _).setCell (p := ⟨w.heap.size + 1 + 1 + 1, 0, none⟩) (by simp; omega) _)⟩
theorem SpTo.setStart (h : SpTo s w W parts start at' taken X) (n : Int) : SpTo s w W parts n at' taken (X.setCell ⟨w.heap.size + 1 + 1, 0, none⟩ (.int .i64 n)) := by
  obtain ⟨k1, k2, h0, h1, h2, h3, h4, h5, hB⟩ := h
  exact ⟨k1.trans (KeepsOthers.setCell _ _ _), k2.trans (KeepB.setCell _ _ (by omega)), h0.other (by omega) _, h1.setOther h2 (by decide) (by omega) _, h2.set _, h3.other (by omega) _, h4.other (by omega) _, h5.other (by omega) _, hB.trans ((Below.refl _ _).setCell (p := ⟨w.heap.size + 1 + 1, 0, none⟩) (by simp; omega) _)⟩
theorem SpTo.box1 (h : SpTo s w W parts start at' taken X) {u : Value} (hu : Boxed X (w.heap.size + 1) 24 u) (ho : OwnG 9 strV X (w.heap.size + 6) u parts) {w1 : World} (hg : X.grownBy w1 u.ownBlock) : Boxed w1 (w.heap.size + 1) 24 u := by
  have := h.1; exact hu.kept hg (fun e => by have := ho.base_le _ e.symm; omega)
theorem SpTo.box2 (h : SpTo s w W parts start at' taken X) {u : Value} (ho : OwnG 9 strV X (w.heap.size + 6) u parts) {w1 : World} (hg : X.grownBy w1 u.ownBlock) : Boxed w1 (w.heap.size + 1 + 1) 3 (.int .i64 start) :=
  h.2.2.2.2.1.kept hg (fun e => by have := ho.base_le _ e.symm; omega)
theorem SpTo.box3 (h : SpTo s w W parts start at' taken X) {u : Value} (ho : OwnG 9 strV X (w.heap.size + 6) u parts) {w1 : World} (hg : X.grownBy w1 u.ownBlock) : Boxed w1 (w.heap.size + 1 + 1 + 1) 3 (.int .i64 at') :=
  h.2.2.2.2.2.1.kept hg (fun e => by have := ho.base_le _ e.symm; omega)
theorem SpTo.app (h : SpTo s w W parts start at' taken X) {u v' : Value} (hu : Boxed X (w.heap.size + 1) 24 u) (ho : OwnG 9 strV X (w.heap.size + 6) u parts) (hbase : w.heap.size + 6 ≤ X.heap.size) {w1 : World} {p2 : List (List UInt8)} (ho' : OwnG 9 strV w1 (w.heap.size + 6) v' p2) (hg : X.grownBy w1 u.ownBlock) :
    SpTo s w W p2 start at' taken (w1.setCell ⟨w.heap.size + 1, 0, none⟩ v') := by
  obtain ⟨k1, k2, h0, _, h2, h3, h4, h5, hB⟩ := h
  obtain ⟨_, g2, g3, g4, g5⟩ := gboxed_appends2 (n₀ := w.heap.size) (by decide) hu ho (by omega) (by omega) hbase ho' hg
  exact ⟨k1.trans g3, k2.trans (g5 _ (by omega) (by omega)), boxed_keep (g5 _ (by omega) (by omega)) h0, g2, boxed_keep (g5 _ (by omega) (by omega)) h2, boxed_keep (g5 _ (by omega) (by omega)) h3, boxed_keep (g5 _ (by omega) (by omega)) h4, boxed_keep (g5 _ (by omega) (by omega)) h5, hB.trans g4⟩
theorem SpTo.drew (h : SpTo s w W parts start at' taken X) : SpTo s w W parts start at' taken X.drew := by
  obtain ⟨k1, k2, h0, h1, h2, h3, h4, h5, hB⟩ := h
  exact ⟨k1.trans (KeepsOthers.drew _), k2, h0, h1, h2, h3, h4, h5, hB.drew⟩
theorem SpTo.fin {pre : List UInt8} {c : UInt8} {B : Nat} {p2 : List (List UInt8)} {st2 at2 : Int} {tk2 : Bool} (h : SpTo s w W p2 st2 at2 tk2 X) (e1 : spParts s (pre ++ [c]) = p2) (e2 : ((spRun (pre ++ [c])).start : Int) = st2) (e3 : ((pre ++ [c]).length : Int) = at2) (e4 : (spRun (pre ++ [c])).taken = tk2) :
    KeepsFrom B W X ∧ KeepB (w.heap.size + 1 + 1 + 1 + 1 + 1) W X ∧ SpInv s w (pre ++ [c]) X := by
  subst e1 e2 e3 e4; exact ⟨h.1.from _, h.2.1, h.2.2⟩
end

def SplitPost (s : ByteArray) (w : World) (e : Ending) (w' : World) : Prop :=
  ∃ v, e = .returned (.tuple #[v, .int .i64 (splitM s.data.toList).2]) ∧ OwnG 9 strV w' w.heap.size v (splitM s.data.toList).1 ∧ Below w.heap.size w w'

theorem split_fin {s : ByteArray} {w w' : World} {e : Ending} {v : Value} (l : List (List UInt8)) (er : Int) (h : splitM s.data.toList = (l, er)) (he : e = .returned (.tuple #[v, .int .i64 er])) (ho : OwnG 9 strV w' w.heap.size v l) (hw : Below w.heap.size w w') : SplitPost s w e w' := by
  unfold SplitPost; rw [h]; exact ⟨v, he, ho, hw⟩

section
attribute [local go_sem] Oper.semAt_some
set_option maxRecDepth 100000 in
set_option maxHeartbeats 4000000 in
theorem label_Split (s : ByteArray) (w : World) (hs : s.size ≤ 8796093022000) :
    Calls Tryz.prog 128 #[.string s] w (SplitPost s w) := by
  refine (callsIn_wide (n := 5)).1 ?_
  refine callsIn_of_wp_marks Tryz.func128 rfl trivial ?_ rfl
  simp only [Tryz.ntmps128, List.size_toArray, List.length_cons, List.length_nil, Nat.reduceAdd, Nat.reduceSub, Array.replicate_succ, Array.replicate_zero, List.push_toArray, List.append_toArray, List.nil_append, List.cons_append]
  gi_wp2_with (refine ⟨trivial, ?_⟩; gi_at_call 89; refine (callsIn_wide.2 (label_octets _ _)).mono ?_; rintro e w' ⟨rfl, rfl⟩)
  obtain ⟨W0, hW0⟩ : ∃ W0, ((((((w.alloc (.cells #[.string s] 9)).alloc (.cells #[.slice none 0 0] 24)).alloc (.cells #[.int .i64 0] 3)).alloc (.cells #[.int .i64 0] 3)).alloc (.cells #[.bool false] 4)).alloc (.cells #[.string s] 9)) = W0 := ⟨_, rfl⟩
  have hsz : W0.heap.size = w.heap.size + 6 := by rw [← hW0]; simp
  have hI0 : SpInv s w [] W0 := by
    rw [← hW0]
    refine ⟨(((((Boxed.new w _ _).alloc _).alloc _).alloc _).alloc _).alloc _, ⟨.slice none 0 0, ?_, OwnG.nil _ _⟩, ?_, ?_, ?_, ?_, ?_⟩
    · have := Boxed.new (w.alloc (.cells #[.string s] 9)) 24 (.slice none 0 0)
      rw [World.size_alloc] at this
      exact (((this.alloc _).alloc _).alloc _).alloc _
    · have := Boxed.new ((w.alloc (.cells #[.string s] 9)).alloc (.cells #[.slice none 0 0] 24)) 3 (.int .i64 0)
      rw [World.size_alloc, World.size_alloc] at this
      exact ((this.alloc _).alloc _).alloc _
    · have := Boxed.new (((w.alloc (.cells #[.string s] 9)).alloc (.cells #[.slice none 0 0] 24)).alloc (.cells #[.int .i64 0] 3)) 3 (.int .i64 0)
      rw [World.size_alloc, World.size_alloc, World.size_alloc] at this
      exact (this.alloc _).alloc _
    · have := Boxed.new ((((w.alloc (.cells #[.string s] 9)).alloc (.cells #[.slice none 0 0] 24)).alloc (.cells #[.int .i64 0] 3)).alloc (.cells #[.int .i64 0] 3)) 4 (.bool false)
      rw [World.size_alloc, World.size_alloc, World.size_alloc, World.size_alloc] at this
      exact this.alloc _
    · have := Boxed.new (((((w.alloc (.cells #[.string s] 9)).alloc (.cells #[.slice none 0 0] 24)).alloc (.cells #[.int .i64 0] 3)).alloc (.cells #[.int .i64 0] 3)).alloc (.cells #[.bool false] 4)) 9 (.string s)
      rw [World.size_alloc, World.size_alloc, World.size_alloc, World.size_alloc, World.size_alloc] at this
      exact this
    · exact ((((((Below.refl _ w).alloc (Nat.le_refl _) _).alloc (by simp) _).alloc (by simp; omega) _).alloc (by simp; omega) _).alloc (by simp; omega) _).alloc (by simp; omega) _
  rw [hW0]
  have HZ := Lib.hid hsz; clear hsz hW0
  refine wpIn_rangeFunc_ownG rfl (by omega) (gf := 113) (lb := #[.pointer (some ⟨w.heap.size + 1 + 1 + 1 + 1 + 1, 0, none⟩)]) rfl trivial (enters_of Tryz.func113 (by kernel_rfl) rfl)
    (octets_stops _ (by omega) (w.heap.size + 1 + 1 + 1 + 1 + 1) s (by unfold maxLen; omega) W0 (by rw [HZ.out]; omega) hI0.2.2.2.2.2.1.cell) keepB_t (keepB_b (by rw [HZ.out]; omega)) (Below.refl _ _) (fun _ => rfl)
    (SpInv s w)
    (fun _ _ _ => False)
    (OwnFrom.and (Own.from (boxed_own _ _ _) _) (OwnFrom.and (Own.from (gBox_own _ _ (spParts s)) _) (OwnFrom.and (Own.from (boxed_own _ _ _) _) (OwnFrom.and (Own.from (boxed_own _ _ _) _) (OwnFrom.and (Own.from (boxed_own _ _ _) _) (OwnFrom.and (Own.from (boxed_own _ _ _) _) (ownFrom_below (Nat.le_refl _) (by rw [HZ.out]; omega))))))))
    (fun _ _ _ _ _ hs _ _ => hs)
    hI0
    (fun c => { tmps := #[.string s, .pointer (some ⟨w.heap.size, 0, none⟩), .slice none 0 0, .int .i64 0, .pointer (some ⟨w.heap.size + 1, 0, none⟩), .pointer (some ⟨w.heap.size + 1 + 1, 0, none⟩), .pointer (some ⟨w.heap.size + 1 + 1 + 1, 0, none⟩), .pointer (some ⟨w.heap.size + 1 + 1 + 1 + 1, 0, none⟩), .int .u8 (c.toNat : Int), .string s, .func (.func 113) #[] #[.pointer (some ⟨w.heap.size + 1 + 1 + 1 + 1 + 1, 0, none⟩)], .int .u8 (c.toNat : Int), undef, undef, undef, undef, undef, undef, undef, undef, undef, undef, undef, undef, undef, undef, undef, undef, undef, undef, undef, undef, undef, undef, undef, undef, undef, undef], defers := [] }) ?assign ?body ?done ?stop
  case assign =>
    intro l x W K hK
    gi_wp2
    exact hK
  case body =>
    intro l pre c W hall hlt
    obtain ⟨h0, ⟨v, hv, hown⟩, h2, h3, h4, h5, hB⟩ := id hall
    obtain ⟨hat, hst, hpl⟩ := spRun_inv pre
    have HAT := Lib.hid hat; clear hat
    have c0 := h0.cell; have c1 := hv.cell; have c2 := h2.cell; have c3 := h3.cell; have c4 := h4.cell
    have f0 := h0.frozen; have f1 := hv.frozen; have f2 := h2.frozen; have f3 := h3.frozen; have f4 := h4.frozen
    by_cases ht : (spRun pre).taken = true
    · have e := spStep_taken (c := c) ht
      have E := Lib.hid e; clear e
      have hto : SpTo s w W (spParts s pre) (spRun pre).start pre.length (spRun pre).taken W := ⟨KeepsOthers.refl _, KeepB.refl _ _, hall⟩
      have HT := Lib.hid ((hto.setTaken false).setAt (pre.length + 1)); clear hto
      gi_wp2
      exact HT.out.fin (by unfold spParts; rw [spRun_snoc, E.out]) (by rw [spRun_snoc, E.out]) (by simp) (by rw [spRun_snoc, E.out])
    · have ht0 : (spRun pre).taken = false := by simpa using ht
      clear ht
      by_cases hk : ((c.toNat : Int) == 92) = true
      · have e := spStep_stroke ht0 hk
        have E := Lib.hid e; clear e
        have hto : SpTo s w W (spParts s pre) (spRun pre).start pre.length (spRun pre).taken W := ⟨KeepsOthers.refl _, KeepB.refl _ _, hall⟩
        have HT := Lib.hid ((hto.setTaken true).setAt (pre.length + 1)); clear hto
        gi_wp2
        exact HT.out.fin (by unfold spParts; rw [spRun_snoc, E.out]) (by rw [spRun_snoc, E.out]) (by simp) (by rw [spRun_snoc, E.out])
      have hk0 : ((c.toNat : Int) == 92) = false := by simpa using hk
      clear hk
      by_cases hd : ((c.toNat : Int) == 46) = true
      · have e := spStep_dot ht0 hd
        have E := Lib.hid e; clear e
        have hto : SpTo s w W (spParts s pre) (spRun pre).start pre.length (spRun pre).taken W := ⟨KeepsOthers.refl _, KeepB.refl _ _, hall⟩
        have HT := Lib.hid hto.drew; clear hto
        have hple : (spParts s pre).length ≤ pre.length := by unfold spParts; simpa using hpl
        have hcell : [Value.string (s.extract (spRun pre).start pre.length)] = [piece s.data.toList ((spRun pre).start, pre.length)].map strV := by
          simp only [List.map_cons, List.map_nil]; rw [strV_eq (extract_data s _ _ (by omega))]; rfl
        have HC := Lib.hid hcell; clear hcell
        have hsti : ((spRun pre).start : Int) ≤ (pre.length : Int) := by omega
        have hlti : (pre.length : Int) ≤ (s.size : Int) := by omega
        gi_wp2
        refine wpIn_region_orders [[0, 1, 2, 3, 4, 5, 6, 7], [0, 1, 3, 2, 4, 5, 6, 7], [0, 2, 1, 3, 4, 5, 6, 7], [0, 2, 3, 1, 4, 5, 6, 7], [0, 3, 1, 2, 4, 5, 6, 7], [0, 3, 2, 1, 4, 5, 6, 7], [1, 0, 2, 3, 4, 5, 6, 7], [1, 0, 3, 2, 4, 5, 6, 7], [1, 2, 0, 3, 4, 5, 6, 7], [1, 2, 3, 0, 4, 5, 6, 7], [1, 2, 3, 4, 0, 5, 6, 7], [1, 2, 3, 4, 5, 0, 6, 7], [1, 3, 0, 2, 4, 5, 6, 7], [1, 3, 2, 0, 4, 5, 6, 7], [1, 3, 2, 4, 0, 5, 6, 7], [1, 3, 2, 4, 5, 0, 6, 7], [2, 0, 1, 3, 4, 5, 6, 7], [2, 0, 3, 1, 4, 5, 6, 7], [2, 1, 0, 3, 4, 5, 6, 7], [2, 1, 3, 0, 4, 5, 6, 7], [2, 1, 3, 4, 0, 5, 6, 7], [2, 1, 3, 4, 5, 0, 6, 7], [2, 3, 0, 1, 4, 5, 6, 7], [2, 3, 1, 0, 4, 5, 6, 7], [2, 3, 1, 4, 0, 5, 6, 7], [2, 3, 1, 4, 5, 0, 6, 7], [3, 0, 1, 2, 4, 5, 6, 7], [3, 0, 2, 1, 4, 5, 6, 7], [3, 1, 0, 2, 4, 5, 6, 7], [3, 1, 2, 0, 4, 5, 6, 7], [3, 1, 2, 4, 0, 5, 6, 7], [3, 1, 2, 4, 5, 0, 6, 7], [3, 2, 0, 1, 4, 5, 6, 7], [3, 2, 1, 0, 4, 5, 6, 7], [3, 2, 1, 4, 0, 5, 6, 7], [3, 2, 1, 4, 5, 0, 6, 7]] follows_mixed (by kernel_rfl) ?_
        generalize W.drew = Wd at *
        obtain ⟨k1, k2, d0, ⟨u, du, downd⟩, d2, d3, d4, d5, dB⟩ := HT.out
        clear h0 hv hown h2 h3 h4 h5 hB hall c0 c1 c2 c3 c4 f0 f1 f2 f3 f4
        have hbase : w.heap.size + 6 ≤ Wd.heap.size := by have := d5.lt; omega
        have hall2 : SpTo s w W (spParts s pre) (spRun pre).start pre.length (spRun pre).taken Wd := HT.out
        clear HT
        have c0 := d0.cell; have c1 := du.cell; have c2 := d2.cell; have c3 := d3.cell
        have a1 := (du.alloc (.cells #[.string (s.extract (spRun pre).start pre.length)] 9)).cell
        refine ⟨?_, ?_, ?_, ?_, ?_, ?_, ?_, ?_, ?_, ?_, ?_, ?_, ?_, ?_, ?_, ?_, ?_, ?_, ?_, ?_, ?_, ?_, ?_, ?_, ?_, ?_, ?_, ?_, ?_, ?_, ?_, ?_, ?_, ?_, ?_, ?_, trivial⟩
        all_goals
          simp only [List.filterMap_cons, List.filterMap_nil, List.getElem?_toArray, List.getElem?_cons_zero, List.getElem?_cons_succ]
          change wpListIn _ _ _ _ _ [_, _, _, _, _, _, _, _] _ _
          gi_wp2_with (gi_at_builtin; refine wplIn_append_g Wd rfl (.tmp 20) (.tmp 25) elemStr rfl strV_one (w.heap.size + 6) u (spParts s pre) rfl downd _ [piece s.data.toList ((spRun pre).start, pre.length)] HC.out 1 1 rfl rfl hbase (by unfold maxLen; simp; omega) (by simp; omega) ?_; intro v' w1 hown' hg'; obtain ⟨a', n', c', rfl⟩ : ∃ a n c, v' = .slice a n c := (by obtain ⟨a, c, e⟩ := hown'.shape; exact ⟨_, _, _, e⟩); have hT2 := hall2.app du downd hbase hown' hg'; have g1 := (hall2.box1 du downd hg').cell; have g1f := (hall2.box1 du downd hg').frozen; have g2 := (hall2.box2 downd hg').cell; have g2f := (hall2.box2 downd hg').frozen; have g3 := (hall2.box3 downd hg').cell; have g3f := (hall2.box3 downd hg').frozen)
          exact ((hT2.setStart (pre.length + 1)).setAt (pre.length + 1)).fin (by unfold spParts; rw [spRun_snoc, E.out]; simp [HAT.out]) (by rw [spRun_snoc, E.out]; simp [HAT.out]) (by simp) (by rw [spRun_snoc, E.out]; exact ht0.symm)
      · have hd0 : ((c.toNat : Int) == 46) = false := by simpa using hd
        clear hd
        have e := spStep_other ht0 hk0 hd0
        have E := Lib.hid e; clear e
        have hto : SpTo s w W (spParts s pre) (spRun pre).start pre.length (spRun pre).taken W := ⟨KeepsOthers.refl _, KeepB.refl _ _, hall⟩
        have HT := Lib.hid (hto.setAt (pre.length + 1)); clear hto
        gi_wp2
        exact HT.out.fin (by unfold spParts; rw [spRun_snoc, E.out]) (by rw [spRun_snoc, E.out]) (by simp) (by rw [spRun_snoc, E.out]; exact ht0.symm)
  case done =>
    rintro D ys W hD rfl hall hK
    obtain ⟨h0, ⟨v, hv, hown⟩, h2, h3, h4, h5, hB⟩ := id hall
    obtain ⟨hat, hst, hpl⟩ := spRun_inv s.data.toList
    rw [size_data] at hst hpl
    have c0 := h0.cell; have c1 := hv.cell; have c2 := h2.cell; have c4 := h4.cell
    have hD2 : w.heap.size + 6 ≤ D := by have := HZ.out; omega
    clear hat hall
    by_cases ht : (spRun s.data.toList).taken = true
    · have r : splitM s.data.toList = ([], 2) := by unfold splitM; rw [if_pos ht]
      have R := Lib.hid r; clear r
      gi_wp2
      refine ⟨by simp, .inl ⟨_, _, rfl, run_takeDeferred hK, ?_⟩⟩
      refine ⟨_, results_tmp2 rfl _ _ _, ?_⟩
      refine split_fin [] 2 R.out rfl (OwnG.nil _ _) (hB.trans (belowK_b (w := w) (Nat.le_refl _) W D _ _ (by omega) hK rfl rfl))
    · have ht0 : (spRun s.data.toList).taken = false := by simpa using ht
      have r : splitM s.data.toList = (spParts s s.data.toList ++ [s.data.toList.drop (spRun s.data.toList).start], 0) := by unfold splitM; rw [if_neg ht]; rfl
      have R := Lib.hid r; clear r ht
      have hple : (spParts s s.data.toList).length ≤ s.size := by unfold spParts; simpa using hpl
      have hcell : [Value.string (s.extract (spRun s.data.toList).start s.size)] = [s.data.toList.drop (spRun s.data.toList).start].map strV := by
        simp only [List.map_cons, List.map_nil]; rw [strV_eq (extract_drop s _)]
      have HC := Lib.hid hcell; clear hcell
      have hsti : ((spRun s.data.toList).start : Int) ≤ (s.size : Int) := by omega
      have hKd : W.drew.heap[D]? = some (.deferred (some [])) := hK
      have hBd : Below w.heap.size w W.drew := hB.drew
      have d0 : Boxed W.drew w.heap.size 9 (.string s) := h0
      have d1 : Boxed W.drew (w.heap.size + 1) 24 v := hv
      have d2 : Boxed W.drew (w.heap.size + 1 + 1) 3 (.int .i64 ((spRun s.data.toList).start : Int)) := h2
      have d5 : Boxed W.drew (w.heap.size + 1 + 1 + 1 + 1 + 1) 9 (.string s) := h5
      have downd : OwnG 9 strV W.drew (w.heap.size + 6) v (spParts s s.data.toList) := hown
      gi_wp2
      refine wpIn_region_orders [[0, 1, 2, 3, 4, 5, 6, 7], [0, 2, 1, 3, 4, 5, 6, 7], [1, 0, 2, 3, 4, 5, 6, 7], [1, 2, 0, 3, 4, 5, 6, 7], [1, 2, 3, 0, 4, 5, 6, 7], [1, 2, 3, 4, 0, 5, 6, 7], [2, 0, 1, 3, 4, 5, 6, 7], [2, 1, 0, 3, 4, 5, 6, 7], [2, 1, 3, 0, 4, 5, 6, 7], [2, 1, 3, 4, 0, 5, 6, 7]] follows_mixed (by kernel_rfl) ?_
      generalize W.drew = Wd at *
      clear h0 hv hown h2 h3 h4 h5 hB hK c0 c1 c2 c4
      have hbase : w.heap.size + 6 ≤ Wd.heap.size := by have := d5.lt; omega
      have c0 := d0.cell; have c1 := d1.cell; have c2 := d2.cell
      have a1 := (d1.alloc (.cells #[.string (s.extract (spRun s.data.toList).start s.size)] 9)).cell
      refine ⟨?_, ?_, ?_, ?_, ?_, ?_, ?_, ?_, ?_, ?_, trivial⟩
      all_goals
        simp only [List.filterMap_cons, List.filterMap_nil, List.getElem?_toArray, List.getElem?_cons_zero, List.getElem?_cons_succ]
        change wpListIn _ _ _ _ _ [_, _, _, _, _, _, _, _] _ _
        gi_wp2_with (gi_at_builtin; refine wplIn_append_g Wd rfl (.tmp 32) (.tmp 36) elemStr rfl strV_one (w.heap.size + 6) v (spParts s s.data.toList) rfl downd _ [s.data.toList.drop (spRun s.data.toList).start] HC.out 1 1 rfl rfl hbase (by unfold maxLen; simp; omega) (by simp; omega) ?_; intro v' w1 hown' hg')
        refine ⟨by simp, .inl ⟨_, _, rfl, run_takeDeferred ((hg'.block D (Array.getElem?_eq_some_iff.1 hKd).1 (downd.ne_of hKd rfl)).trans hKd), ?_⟩⟩
        refine ⟨_, results_tmp2 rfl _ _ _, ?_⟩
        have hK2 := (hg'.block D (Array.getElem?_eq_some_iff.1 hKd).1 (downd.ne_of hKd rfl)).trans hKd
        refine split_fin _ 0 R.out rfl ((hown'.weaken (by omega)).putObj _ hK2 rfl) ?_
        exact ((hBd.trans ((Below.refl _ _).grown hg' (by omega) (fun k e => by have := downd.base_le k e; omega))).trans (belowK_b (w := w) (Nat.le_refl _) w1 D _ _ (by omega) hK2 rfl rfl))
  case stop =>
    rintro D c pre W _ _ h _
    exact h.elim
end

end Go.Proofs.YtkjmghnbcnbdbaaGreatDoor

