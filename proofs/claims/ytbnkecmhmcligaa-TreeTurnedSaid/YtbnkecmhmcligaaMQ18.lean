/-
  Slices of one-cell elements that the call itself owns, whatever the element; boxed variables that hold them.
-/
import Derived.Test.YtbnkecmhmcligaaMQ26
import Derived.SliceStrings
import Derived.OpenShut
import Derived.RangeFuncNested
import Derived.Shelf.SlIter.Nil
import Derived.Shelf.SortM.Plain
import Derived.Shelf.SortM.SortNone
import Derived.Ground.GgzProg
import Derived.Ground.SlgmProg
import Derived.Test.YtbnkecmhmcligaaProg
namespace Go.Proofs.Ytbnkecmhmcligaa
set_option linter.unusedVariables false
set_option linter.unusedSimpArgs false
set_option maxRecDepth 20000
open Go.RowKit Go.Shelf

/-- A slice type S of elements of type T, one cell each. -/
structure ElemT (T S : TypeId) (bytes : Nat) : Prop where
  ht : Try.prog.underlying S = some (.slice T)
  info : ∃ i z, Try.prog.info? T = some i ∧ i.zero = some z ∧ i.size = 1 ∧ i.bytes = bytes ∧ z.cells.size = 1

def OwnG {α : Type} (T : TypeId) (enc : α → Value) (W : World) (base : Nat) (v : Value) (xs : List α) : Prop := W.ownsRow base T 1 v xs.length (xs.map enc)
section
variable {α : Type} {T S : TypeId} {enc : α → Value}
theorem OwnG.alloc {W : World} {base : Nat} {v : Value} {xs : List α} (h : OwnG T enc W base v xs) (o : Obj) : OwnG T enc (W.alloc o) base v xs := World.ownsRow.alloc h o
theorem OwnG.nil (W : World) (base : Nat) : OwnG T enc W base (.slice none 0 0) [] := World.ownsRow_nil _ _ _ _
theorem OwnG.base_le {W : World} {base : Nat} {v : Value} {xs : List α} (h : OwnG T enc W base v xs) : ∀ k, v.ownBlock = some k → base ≤ k := by
  intro k hk
  rcases h.2 with ⟨rfl, _⟩ | ⟨g, cap, cur, rfl, hb, _⟩
  · simp [Value.ownBlock] at hk
  · obtain rfl : g = k := by simpa [Value.ownBlock] using hk
    exact hb
theorem OwnG.shape {W : World} {base : Nat} {v : Value} {xs : List α} (h : OwnG T enc W base v xs) : ∃ a c, v = .slice a xs.length c := by
  rcases h.2 with ⟨rfl, h0⟩ | ⟨g, cap, cur, rfl, _⟩
  · exact ⟨none, 0, by rw [h0]⟩
  · exact ⟨_, _, rfl⟩
theorem OwnG.kept {W W' : World} {row : Option Nat} {base : Nat} {v : Value} {xs : List α} (h : OwnG T enc W base v xs) (hg : W.grownBy W' row) (hne : v.ownBlock = none ∨ v.ownBlock ≠ row) : OwnG T enc W' base v xs := World.ownsRow.kept h hg hne
theorem OwnG.lt {W : World} {base : Nat} {v : Value} {xs : List α} (h : OwnG T enc W base v xs) : ∀ k, v.ownBlock = some k → k < W.heap.size := by
  intro k hk
  rcases h.2 with ⟨rfl, _⟩ | ⟨g, cap, cur, rfl, hb, hg, _⟩
  · simp [Value.ownBlock] at hk
  · obtain rfl : g = k := by simpa [Value.ownBlock] using hk
    exact (Array.getElem?_eq_some_iff.1 hg).1
/-- The cells of such a row. -/
theorem OwnG.cells {W : World} {base : Nat} {a : Option Addr} {n c : Nat} {xs : List α} (h : OwnG T enc W base (.slice a n c) xs) (hne : xs ≠ []) :
    ∃ g, a = some ⟨g, 0, none⟩ ∧ base ≤ g ∧ g < W.heap.size ∧ ∀ j (hj : j < xs.length), W.cell? ⟨g, j, none⟩ = some (enc xs[j]) := by
  obtain ⟨_, h2⟩ := h
  rcases h2 with ⟨e, h0⟩ | ⟨g, cap, cur, e, hb, hg, hc, hm, hsz, htk⟩
  · exact absurd (List.eq_nil_of_length_eq_zero h0) hne
  · cases e
    refine ⟨g, rfl, hb, (Array.getElem?_eq_some_iff.1 hg).1, fun j hj => ?_⟩
    have h3 : cur.toList[j]? = some (enc xs[j]) := by
      have : (cur.toList.take (xs.length * 1))[j]? = some (enc xs[j]) := by rw [htk]; simp [hj]
      rw [List.getElem?_take] at this
      rw [if_pos (by omega)] at this
      exact this
    simp only [World.cell?, hg]
    simpa using h3
theorem OwnG.weaken {W : World} {base b2 : Nat} {v : Value} {xs : List α} (h : OwnG T enc W base v xs) (hb : b2 ≤ base) : OwnG T enc W b2 v xs := by
  refine ⟨h.1, ?_⟩
  rcases h.2 with hn | ⟨g, cap, cur, e, hg, rest⟩
  · exact .inl hn
  · exact .inr ⟨g, cap, cur, e, by omega, rest⟩
theorem OwnG.ne_of {W : World} {base : Nat} {v : Value} {xs : List α} (h : OwnG T enc W base v xs) {D : Nat} {o : Obj} (hD : W.heap[D]? = some o) (ho : o.isCells = false) : some D ≠ v.ownBlock := by
  rcases h.2 with ⟨rfl, _⟩ | ⟨g, cap, cur, rfl, _, hg, _⟩
  · simp [Value.ownBlock]
  · intro e
    obtain rfl : D = g := by simpa [Value.ownBlock] using e
    rw [hg] at hD; cases hD; cases ho
theorem OwnG.putObj {W : World} {base : Nat} {v : Value} {xs : List α} (h : OwnG T enc W base v xs) {l : Nat} {o : Obj} (o' : Obj) (hl : W.heap[l]? = some o) (ho : o.isCells = false) : OwnG T enc (W.putObj l o') base v xs := ownsRow_putObj h o' hl ho
theorem cells_oneL (l : List Value) (h : ∀ u ∈ l, u.oneCell' = true) : ∀ u ∈ l, u.oneCell' = true := h

theorem wpl_append_g {ops : Array Oper} {rest : List Oper} {o : Oper} {a : Act} {Q : Exit → Act → World → Prop} (W : World) (hgd : o.guard = none) (s x : Operand) {bytes : Nat} (hE : ElemT T S bytes)
    (ho : o.op = .call { callee := .builtin .append, args := #[s, x], argTypes := #[S, S] }) (hone : ∀ x : α, (enc x).oneCell' = true)
    (base : Nat) (v : Value) (xs : List α) (hs : a.eval s = v) (hown : OwnG T enc W base v xs)
    (cells : List Value) (news : List α) (hcells : cells = news.map enc) (m c : Nat) (hx : a.eval x = .slice (some ⟨W.heap.size, 0, none⟩) m c) (hm : m = news.length)
    (hbase : base ≤ W.heap.size) (hk : xs.length + news.length ≤ maxLen) (hk2 : (xs.length + news.length) * bytes ≤ 140737488355328)
    (h : ∀ v' w', OwnG T enc w' base v' (xs ++ news) → W.grownBy w' v.ownBlock → wpList Try.prog ops Q rest (a.put o.dst v') w') :
    wpList Try.prog ops Q (o :: rest) a (W.alloc (.cells cells.toArray T)) := by
  subst hcells hm
  obtain ⟨ht, i, z, hi, hz, hz1, hz2, hzc⟩ := hE
  refine wpList_append_own _ hgd s x S ho base T i z 1 bytes ht hi hz hz1 hz2 hzc (by decide) v xs.length (xs.map enc) hs (hown.alloc _) ⟨W.heap.size, 0, none⟩ news.length c (news.map enc) hx (by simp) (cells_new W _ _) (by intro u hu; obtain ⟨y, _, rfl⟩ := List.mem_map.1 hu; exact hone y) hk hk2 (by simp; omega) ?_
  intro v' w' h1 h2 _
  refine h v' w' ?_ (grownBy_of_alloc h2)
  unfold OwnG
  rw [List.length_append, List.map_append]
  exact h1

theorem wplIn_append_g {F : Fence} {n : Nat} {ops : Array Oper} {rest : List Oper} {o : Oper} {a : Act} {Q : Exit → Act → World → Prop} (W : World) (hgd : o.guard = none) (s x : Operand) {bytes : Nat} (hE : ElemT T S bytes)
    (ho : o.op = .call { callee := .builtin .append, args := #[s, x], argTypes := #[S, S] }) (hone : ∀ x : α, (enc x).oneCell' = true)
    (base : Nat) (v : Value) (xs : List α) (hs : a.eval s = v) (hown : OwnG T enc W base v xs)
    (cells : List Value) (news : List α) (hcells : cells = news.map enc) (m c : Nat) (hx : a.eval x = .slice (some ⟨W.heap.size, 0, none⟩) m c) (hm : m = news.length)
    (hbase : base ≤ W.heap.size) (hk : xs.length + news.length ≤ maxLen) (hk2 : (xs.length + news.length) * bytes ≤ 140737488355328)
    (h : ∀ v' w', OwnG T enc w' base v' (xs ++ news) → W.grownBy w' v.ownBlock → wpListIn F n Try.prog ops Q rest (a.put o.dst v') w') :
    wpListIn F n Try.prog ops Q (o :: rest) a (W.alloc (.cells cells.toArray T)) := by
  subst hcells hm
  obtain ⟨ht, i, z, hi, hz, hz1, hz2, hzc⟩ := hE
  refine wpListIn_append_own _ hgd s x S ho base T i z 1 bytes ht hi hz hz1 hz2 hzc (by decide) v xs.length (xs.map enc) hs (hown.alloc _) ⟨W.heap.size, 0, none⟩ news.length c (news.map enc) hx (by simp) (cells_new W _ _) (by intro u hu; obtain ⟨y, _, rfl⟩ := List.mem_map.1 hu; exact hone y) hk hk2 (by simp; omega) ?_
  intro v' w' h1 h2 _
  refine h v' w' ?_ (grownBy_of_alloc h2)
  unfold OwnG
  rw [List.length_append, List.map_append]
  exact h1

/-- A boxed variable of such a slice. -/
def GBox (T S : TypeId) (enc : α → Value) (B base : Nat) (xs : List α) (W : World) : Prop := ∃ v, Boxed W B S v ∧ OwnG T enc W base v xs
theorem gBox_own {β : Type} (B base : Nat) (f : β → List α) : Own (fun pre W => GBox T S enc B base (f pre) W) := fun s W W' row hs hg hr => by
  obtain ⟨v, h1, h2⟩ := hs
  obtain ⟨v', g1, g2, _⟩ := holdsRow_own base B S T 1 (fun s : β => (f s).length) (fun s => (f s).map enc) (fun _ _ => True) s W W' row ⟨v, h1, h2, trivial⟩ hg hr
  exact ⟨v', g1, g2⟩
theorem GBox.alloc {B base : Nat} {xs : List α} {W : World} (h : GBox T S enc B base xs W) (o : Obj) : GBox T S enc B base xs (W.alloc o) := by
  obtain ⟨v, h1, h2⟩ := h; exact ⟨v, h1.alloc o, h2.alloc o⟩

/-- Behind 'out = append(out, ..)' or 'out = f(out, ..)'. -/
theorem gboxed_appends {W w1 : World} {B base : Nat} {v v' : Value} {xs ys : List α} (hST : S ≠ T) (hv : Boxed W B S v) (hown : OwnG T enc W base v xs) (hbB : base ≤ B) (hown' : OwnG T enc w1 base v' ys) (hg : W.grownBy w1 v.ownBlock) :
    Boxed w1 B S v ∧ GBox T S enc B base ys (w1.setCell ⟨B, 0, none⟩ v') ∧ KeepsOthers W (w1.setCell ⟨B, 0, none⟩ v') ∧ Below base W (w1.setCell ⟨B, 0, none⟩ v') ∧ (∀ b t, t ≠ T → b < W.heap.size → b ≠ B → (∀ u, Boxed W b t u → KeepB b W (w1.setCell ⟨B, 0, none⟩ v'))) := by
  have hv1 : Boxed w1 B S v := hv.kept hg (hv.not_row hST hown)
  refine ⟨hv1, ⟨v', hv1.set v', World.ownsRow.kept hown' (grownBy_setCell' w1 B v') (.inr (hv1.not_row hST hown').symm)⟩, ?_, ?_, ?_⟩
  · refine (KeepsOthers.of_grownBy hg fun j o ej hj => ?_).trans (KeepsOthers.setCell _ _ _)
    rcases hown.2 with ⟨rfl, _⟩ | ⟨g, cap, cur, rfl, _, hgb, _⟩
    · simp [Value.ownBlock] at ej
    · obtain rfl : g = j := by simpa [Value.ownBlock] using ej
      rw [hgb] at hj; cases hj; rfl
  · have hle : base ≤ W.heap.size := Nat.le_trans hbB (Nat.le_of_lt hv.lt)
    exact ((Below.refl base W).grown hg hle hown.base_le).setCell (p := ⟨B, 0, none⟩) hbB v'
  · intro b t hT hb hne u hu
    exact (KeepB.of_grownBy hg hb (hu.not_row hT hown)).trans (KeepB.setCell _ _ hne)
/-- .. where the row lies beyond the boxes. -/
theorem gboxed_appends2 {W w1 : World} {B base n₀ : Nat} {v v' : Value} {xs ys : List α} (hST : S ≠ T) (hv : Boxed W B S v) (hown : OwnG T enc W base v xs) (hn : n₀ ≤ base) (hnB : n₀ ≤ B) (hbase : base ≤ W.heap.size) (hown' : OwnG T enc w1 base v' ys) (hg : W.grownBy w1 v.ownBlock) :
    Boxed w1 B S v ∧ GBox T S enc B base ys (w1.setCell ⟨B, 0, none⟩ v') ∧ KeepsOthers W (w1.setCell ⟨B, 0, none⟩ v') ∧ Below n₀ W (w1.setCell ⟨B, 0, none⟩ v') ∧ (∀ b, b < base → b ≠ B → KeepB b W (w1.setCell ⟨B, 0, none⟩ v')) := by
  have hv1 : Boxed w1 B S v := hv.kept hg (hv.not_row hST hown)
  refine ⟨hv1, ⟨v', hv1.set v', World.ownsRow.kept hown' (grownBy_setCell' w1 B v') (.inr (hv1.not_row hST hown').symm)⟩, ?_, ?_, ?_⟩
  · refine (KeepsOthers.of_grownBy hg fun j o ej hj => ?_).trans (KeepsOthers.setCell _ _ _)
    rcases hown.2 with ⟨rfl, _⟩ | ⟨g, cap, cur, rfl, _, hgb, _⟩
    · simp [Value.ownBlock] at ej
    · obtain rfl : g = j := by simpa [Value.ownBlock] using ej
      rw [hgb] at hj; cases hj; rfl
  · exact ((Below.refl n₀ W).grown hg (Nat.le_trans hn hbase) (fun k e => Nat.le_trans hn (hown.base_le k e))).setCell (p := ⟨B, 0, none⟩) hnB v'
  · intro b hb hne
    exact (KeepB.of_grownBy hg (by omega) (fun e => by have := hown.base_le b e.symm; omega)).trans (KeepB.setCell _ _ hne)
/-- A store into another box leaves a row of the call's own as it is. -/
theorem GBox.setOther {B base : Nat} {xs : List α} {W : World} (h : GBox T S enc B base xs W) {C : Nat} {t : TypeId} {u : Value} (hC : Boxed W C t u) (ht : t ≠ T) (hne : B ≠ C) (x : Value) : GBox T S enc B base xs (W.setCell ⟨C, 0, none⟩ x) := by
  obtain ⟨v, h1, h2⟩ := h
  exact ⟨v, h1.kept (grownBy_setCell' W C x) (by simpa using hne), OwnG.kept h2 (grownBy_setCell' W C x) (.inr (fun e => hC.not_row ht h2 e.symm))⟩
end

/-- A string as a list of bytes. -/
def strV (l : List UInt8) : Value := .string ⟨l.toArray⟩
theorem strV_one (l : List UInt8) : (strV l).oneCell' = true := rfl
theorem elemStr : ElemT 9 27 16 := ⟨Try.underlying27, _, _, rfl, rfl, rfl, rfl, rfl⟩
theorem strV_of (s : ByteArray) : strV s.data.toList = .string s := by unfold strV; simp
theorem strV_eq {s : ByteArray} {l : List UInt8} (h : s.data.toList = l) : Value.string s = strV l := by rw [← h, strV_of]
theorem extract_data (s : ByteArray) (a b : Nat) (_hb : b ≤ s.size) : (s.extract a b).data.toList = (s.data.toList.take b).drop a := by
  simp [ByteArray.data_extract, List.drop_take]

end Go.Proofs.Ytbnkecmhmcligaa

/-
  Slices of strings that are read: in memory that came in, or that a call has made.
-/
namespace Go.Proofs.Ytbnkecmhmcligaa
set_option linter.unusedVariables false
set_option linter.unusedSimpArgs false
set_option maxRecDepth 20000
open Go.RowKit Go.Shelf

/-- The slice value v reads as just these strings. -/
def StrsAt (W : World) (v : Value) (xs : List (List UInt8)) : Prop :=
  ∃ a c, v = .slice a xs.length c ∧ (xs = [] ∨ ∃ b off, a = some ⟨b, off, none⟩ ∧ b < W.heap.size ∧ ∀ j (hj : j < xs.length), W.cell? ⟨b, off + j, none⟩ = some (strV xs[j]))
theorem StrsAt.below {W W' : World} {v : Value} {xs : List (List UInt8)} (h : StrsAt W v xs) (hb : Below W.heap.size W W') : StrsAt W' v xs := by
  obtain ⟨a, c, e, h⟩ := h
  refine ⟨a, c, e, ?_⟩
  rcases h with h | ⟨b, off, ea, hlt, hc⟩
  · exact .inl h
  · exact .inr ⟨b, off, ea, Nat.lt_of_lt_of_le hlt hb.size, fun j hj => (hb.cell (p := ⟨b, off + j, none⟩) hlt).trans (hc j hj)⟩
theorem StrsAt.of_own {W : World} {base : Nat} {v : Value} {xs : List (List UInt8)} (h : OwnG 9 strV W base v xs) : StrsAt W v xs := by
  obtain ⟨a, c, rfl⟩ := h.shape
  refine ⟨a, c, rfl, ?_⟩
  by_cases hne : xs = []
  · exact .inl hne
  · obtain ⟨g, rfl, _, hlt, hc⟩ := h.cells hne
    exact .inr ⟨g, 0, rfl, hlt, fun j hj => by rw [Nat.zero_add]; exact hc j hj⟩
/-- An argument of a law. -/
def StrsArg (W : World) (v : Value) (xs : List (List UInt8)) : Prop := StrsAt W v xs ∧ xs.length ≤ maxLen ∧ ∀ x ∈ xs, x.length ≤ maxLen

theorem strsArg_nil (W : World) : StrsArg W (.slice none 0 0) [] := ⟨⟨none, 0, rfl, .inl rfl⟩, Nat.zero_le _, by simp⟩
theorem strsArg_row {W : World} {x : Addr} {l c : Nat} {zs : List ByteArray} (hl : l ≤ c) (hm : c ≤ maxLen) (hz : zs.length = c)
    (hcell : ∀ i, i < zs.length → W.cell? (x.add i) = some (.string (zs.getD i ByteArray.empty))) (hws : ∀ s ∈ zs, s.size ≤ maxLen) :
    StrsArg W (.slice (some x) l c) ((zs.take l).map (·.data.toList)) := by
  have hlen : ((zs.take l).map (·.data.toList)).length = l := by simp; omega
  refine ⟨⟨some x, c, by rw [hlen], ?_⟩, by omega, ?_⟩
  · by_cases h0 : l = 0
    · subst h0; left; simp
    · right
      obtain ⟨b, off, spot⟩ := x
      have hspot : spot = none := by simpa [Addr.add] using World.cell?_spot (hcell 0 (by omega))
      subst hspot
      have hb : b < W.heap.size := by
        have h := hcell 0 (by omega)
        simp only [Addr.add, if_true] at h
        unfold World.cell? at h
        rcases Nat.lt_or_ge b W.heap.size with h' | h'
        · exact h'
        · rw [Array.getElem?_eq_none h'] at h; simp at h
      refine ⟨b, off, rfl, hb, fun j hj => ?_⟩
      rw [← Go.WideShapes.add_plain, hcell j (by omega)]
      have hj2 : j < zs.length := by omega
      simp [List.getD, hj2, strV]
  · intro y hy
    obtain ⟨s, hs, rfl⟩ := List.mem_map.1 hy
    exact hws s (List.mem_of_mem_take hs)

end Go.Proofs.Ytbnkecmhmcligaa

/-
  A range over an iterator that is itself written as a range over another, or whose body makes maps: what lies between two rounds abides the turn of a block that is neither cells nor a walk's object.
-/
namespace Go.Proofs.Ytbnkecmhmcligaa
set_option linter.unusedVariables false
set_option linter.unusedSimpArgs false
set_option maxRecDepth 20000
open Go.RowKit Go.Shelf

/-- A block that a loop's own book-keeping turns. -/
def Plain (o : Obj) : Prop := o.isCells = false ∧ o.isWalk = false
def OwnT {β : Type} (B : Nat) (I : β → World → Prop) : Prop :=
  ∀ s W W' row, I s W → W.grownBy W' row → (∀ r, row = some r → B ≤ r ∧ ∃ o : Obj, W.heap[r]? = some o ∧ Plain o) → I s W'
theorem OwnT.mono {β : Type} {B B' : Nat} {I : β → World → Prop} (h : OwnT B I) (hB : B ≤ B') : OwnT B' I := fun s W W' row hs hg hr => h s W W' row hs hg (fun r e => ⟨Nat.le_trans hB (hr r e).1, (hr r e).2⟩)
theorem OwnT.putObj {β : Type} {B : Nat} {I : β → World → Prop} (h : OwnT B I) {s : β} {W : World} {l : Nat} {o : Obj} (o' : Obj) (hs : I s W) (hB : B ≤ l) (hl : W.heap[l]? = some o) (ho : Plain o) : I s (W.putObj l o') :=
  h s W _ (some l) hs (grownBy_putObj' W l o') (fun r e => by cases e; exact ⟨hB, o, hl, ho⟩)
theorem OwnT.alloc {β : Type} {B : Nat} {I : β → World → Prop} (h : OwnT B I) {s : β} {W : World} (o : Obj) (hs : I s W) : I s (W.alloc o) :=
  h s W _ none hs (World.grownBy_alloc W o none) (fun r e => by cases e)
theorem OwnT.and {β : Type} {B : Nat} {I I' : β → World → Prop} (h : OwnT B I) (h' : OwnT B I') : OwnT B (fun s W => I s W ∧ I' s W) := fun s W W' row hs hg hr => ⟨h s W W' row hs.1 hg hr, h' s W W' row hs.2 hg hr⟩
theorem OwnT.pure {β : Type} (B : Nat) (p : β → Prop) : OwnT B (fun s (_ : World) => p s) := fun _ _ _ _ hs _ _ => hs
theorem OwnFrom.t {β : Type} {B : Nat} {I : β → World → Prop} (h : OwnFrom B I) : OwnT B I := fun s W W' row hs hg hr => h s W W' row hs hg (fun r e => by obtain ⟨a, o, b, c⟩ := hr r e; exact ⟨a, o, b, c.1⟩)
/-- The body's word. -/
structure KeepsT (B : Nat) (W W' : World) : Prop where
  size : W.heap.size ≤ W'.heap.size
  same : ∀ (k : Nat) (o : Obj), B ≤ k → W.heap[k]? = some o → Plain o → W'.heap[k]? = some o
theorem KeepsFrom.t {B : Nat} {W W' : World} (h : KeepsFrom B W W') : KeepsT B W W' := ⟨h.size, fun k o a b c => h.same k o a b c.1⟩
theorem KeepsOthers.t {W W' : World} (h : KeepsOthers W W') (B : Nat) : KeepsT B W W' := KeepsFrom.t (h.from B)
theorem KeepsT.refl (B : Nat) (W : World) : KeepsT B W W := ⟨Nat.le_refl _, fun _ _ _ h _ => h⟩
theorem KeepsT.trans {B : Nat} {X Y Z : World} (h : KeepsT B X Y) (k : KeepsT B Y Z) : KeepsT B X Z := ⟨Nat.le_trans h.size k.size, fun i o hB hi ho => k.same i o hB (h.same i o hB hi ho) ho⟩
theorem KeepsT.mono {B B' : Nat} {X Y : World} (h : KeepsT B X Y) (hB : B ≤ B') : KeepsT B' X Y := ⟨h.size, fun k o a b c => h.same k o (Nat.le_trans hB a) b c⟩
theorem KeepsT.put {B l : Nat} {X Y : World} (h : KeepsT B X Y) (o : Obj) (hl : l < B) : KeepsT B X (Y.putObj l o) :=
  ⟨by have := h.size; simpa using this, fun k o' a b c => (World.putObj_heap_other (by omega)).trans (h.same k o' a b c)⟩
theorem KeepsT.of_put {B l : Nat} {W : World} (o : Obj) (hl : l < B) : KeepsT B W (W.putObj l o) := (KeepsT.refl B W).put o hl
theorem KeepsT.of_grownBy {B : Nat} {W W' : World} {row : Option Nat} (hg : W.grownBy W' row) (hrow : ∀ j o, row = some j → W.heap[j]? = some o → ¬ Plain o) : KeepsT B W W' :=
  ⟨hg.size, fun k o hB hk ho => (hg.block k (Array.getElem?_eq_some_iff.1 hk).1 (fun e => hrow k o e.symm hk ho)).trans hk⟩
theorem KeepsT.of_below {B : Nat} {W W' : World} (h : Below W.heap.size W W') : KeepsT B W W' := ⟨h.size, fun k o _ hk _ => (h.block k (Array.getElem?_eq_some_iff.1 hk).1).trans hk⟩

def SeqStopsT {α : Type} (F : Fence) (n : Nat) (P : Program) (g : Nat) (lb : Array Value) (encs : α → Array Value) (Kp : World → World → Prop) (S Sp : List α → Prop) (N : Nat) (w : World) : Prop :=
  ∀ (l : Nat) (J Jx : List α → World → Prop) (W : World), Below w.heap.size w W → OwnT W.heap.size J → OwnT W.heap.size Jx →
    (∀ pre x W1, J pre W1 → pre.length < N → YieldAt F (n - 1) P l (encs x) W1 fun e W' =>
      (e = .returned (.bool true) ∧ J (pre ++ [x]) W' ∧ Kp W1 W' ∧ KeepsT W.heap.size W1 W') ∨ (e = .returned (.bool false) ∧ Jx (pre ++ [x]) W' ∧ KeepsT W.heap.size W1 W')) →
    J [] W →
    CallsIn F n P g (#[.func (.yield l) #[] #[]] ++ lb) W fun e W' => (∃ v, e = .returned v) ∧ ((∃ xs, S xs ∧ J xs W') ∨ (∃ pre, Sp pre ∧ Jx pre W'))

def ownPostT {α : Type} (B : Nat) (Kp : World → World → Prop) (I : List α → World → Prop) (Ix : Code → List α → World → Prop) (xs : List α) (W : World) : Exit → Act → World → Prop
  | .normal, _, W' => KeepsT B W W' ∧ Kp W W' ∧ I xs W'
  | .ret, _, W' => KeepsT B W W' ∧ Ix .ret xs W'
  | .exit id, _, W' => KeepsT B W W' ∧ Ix (.exit id) xs W'
  | .goto t, _, W' => KeepsT B W W' ∧ Ix (.goto t) xs W'
  | .panic _, _, _ => False
  | .outgrown, _, _ => False

/-- The loop's two blocks of its own. -/
structure TwoT (m : Nat) (r : Loop) (W : World) : Prop where
  lp : W.heap[m + 1]? = some (.loop r)
  dfr : W.heap[m]? = some (.deferred (some []))
theorem TwoT.lt {m : Nat} {r : Loop} {W : World} (h : TwoT m r W) : m + 1 < W.heap.size := (Array.getElem?_eq_some_iff.1 h.lp).1
theorem TwoT.grown {m : Nat} {r : Loop} {W W' : World} {row : Option Nat} (h : TwoT m r W) (hg : W.grownBy W' row) (hr : ∀ k, row = some k → m + 2 ≤ k) : TwoT m r W' :=
  ⟨(hg.block _ h.lt (fun e => by have := hr _ e.symm; omega)).trans h.lp, (hg.block _ (by have := h.lt; omega) (fun e => by have := hr _ e.symm; omega)).trans h.dfr⟩
theorem TwoT.kept {m : Nat} {r : Loop} {W W' : World} (h : TwoT m r W) (hk : KeepsT m W W') : TwoT m r W' := ⟨hk.same _ _ (by omega) h.lp ⟨rfl, rfl⟩, hk.same _ _ (Nat.le_refl _) h.dfr ⟨rfl, rfl⟩⟩
theorem TwoT.turn {m : Nat} {r : Loop} {W : World} (h : TwoT m r W) (r' : Loop) : TwoT m r' (W.putObj (m + 1) (.loop r')) := ⟨World.putObj_heap_same h.lt, (World.putObj_heap_other (by omega)).trans h.dfr⟩

variable {F : Fence} {n : Nat} {P : Program}

theorem wpIn_rangeFunc_T {α : Type} {g : Operand} {ps : Array Tmp} {assign body : Code} {Q : Exit → Act → World → Prop} {a : Act} {w : World}
    (hro : F.round = none) (h1 : 1 ≤ n) {gf : Nat} {lb : Array Value} (hg : a.eval g = .func (.func gf) #[] lb) (hFg : F.fn gf) (eg : ∀ args w, (callFunc gf args).run P w = .ok (.enter gf args) w)
    {encs : α → Array Value} {Kp : World → World → Prop} {S Sp : List α → Prop} {N : Nat} {w0 : World} (hseq : SeqStopsT F (n - 1) P gf lb encs Kp S Sp N w0)
    (hKt : ∀ {A B C : World}, Kp A B → Kp B C → Kp A C) (hKb : ∀ (W : World) (l : Nat) (o o' : Obj), w.heap.size ≤ l → W.heap[l]? = some o → o.isCells = false → o.isWalk = false → Kp W (W.putObj l o')) (hb0 : Below w0.heap.size w0 w) (hps : ∀ x, (encs x).size = ps.size)
    (I : List α → World → Prop) (Ix : Code → List α → World → Prop) (hI : OwnT w.heap.size I) (hIx : ∀ c, OwnT w.heap.size (Ix c)) (h0 : I [] w) (a₁ : α → Act)
    (hassign : ∀ (l : Nat) (x : α) (W : World) (K : Act → World → Prop), K (a₁ x) W →
      assign.wpIn (F.inRound l) (n - 1 - 1) P (Exit.then K (fun _ _ _ => False)) { tmps := (ps.zip (encs x)).foldl (fun t (p, v) => t.setIfInBounds p v) a.tmps, defers := [] } W)
    (hbody : ∀ (l : Nat) (pre : List α) (x : α) (W : World), w.heap.size ≤ l → (∃ r, W.heap[l]? = some (.loop r)) → I pre W → pre.length < N → body.wpIn (F.inRound l) (n - 1 - 1) P (ownPostT w.heap.size Kp I Ix (pre ++ [x]) W) (a₁ x) W)
    (hdone : ∀ (d : Nat) (xs : List α) (W : World), w.heap.size ≤ d → S xs → I xs W → W.heap[d]? = some (.deferred (some [])) → Q .normal { a with defers := { target := .collected d, args := #[] } :: a.defers } W)
    (hstop : ∀ (d : Nat) (c : Code) (pre : List α) (W : World), w.heap.size ≤ d → Sp pre → Ix c pre W → W.heap[d]? = some (.deferred (some [])) → c.wpIn F n P Q { a with defers := { target := .collected d, args := #[] } :: a.defers } W) :
    (Code.rangeFunc g ps assign body).wpIn F n P Q a w := by
  refine wpIn_rangeFunc fun fn hfn => ?_
  rw [hro]
  obtain ⟨m, hm⟩ : ∃ m, w.heap.size = m := ⟨_, rfl⟩
  obtain ⟨R, hR⟩ : ∃ R : LoopState → Option Code → Loop, R = fun st pe => { state := st, pending := pe, fn, tmps := a.tmps, params := ps, assign, body, defers := m } := ⟨_, rfl⟩
  obtain ⟨W1, hW1⟩ : ∃ W1, (w.alloc (.deferred (some []))).alloc (.loop (R .ready none)) = W1 := ⟨_, rfl⟩
  have hsz : W1.heap.size = m + 2 := by rw [← hW1]; simp [hm]
  have hB1 : TwoT m (R .ready none) W1 := by
    refine ⟨?_, ?_⟩
    · have h := World.alloc_heap_new (w.alloc (.deferred (some []))) (.loop (R .ready none))
      rw [World.size_alloc, hm, hW1] at h; exact h
    · rw [← hW1, ← hm]; exact (Below.heap_alloc _ _ _ (by simp)).trans (World.alloc_heap_new w _)
  have hbw : Below m w W1 := by rw [← hW1, ← hm]; exact ((Below.refl _ w).alloc (Nat.le_refl _) _).alloc (by simp) _
  rw [hm] at hI hKb hbody hdone hstop
  have hIx' : ∀ c, OwnT m (Ix c) := fun c => by rw [← hm]; exact hIx c
  have up : ∀ {A : World} {row : Option Nat}, (∀ k, row = some k → W1.heap.size ≤ k ∧ ∃ o : Obj, A.heap[k]? = some o ∧ Plain o) → ∀ k, row = some k → m ≤ k ∧ ∃ o : Obj, A.heap[k]? = some o ∧ Plain o :=
    fun h k e => ⟨by have := (h k e).1; omega, (h k e).2⟩
  have two : ∀ {A : World} {row : Option Nat}, (∀ k, row = some k → W1.heap.size ≤ k ∧ ∃ o : Obj, A.heap[k]? = some o ∧ Plain o) → ∀ k, row = some k → m + 2 ≤ k :=
    fun h k e => by have := (h k e).1; omega
  refine ⟨m + 1, [{ target := .collected m, args := #[] }], W1, { target := .fn (.func gf) lb, args := #[.func (.yield (m + 1)) #[] #[]] }, W1, gf, #[.func (.yield (m + 1)) #[] #[]] ++ lb, W1, ?_, ?_, ?_, ?_, fun _ => h1, ?_⟩
  · have h := run_enterLoop_outer (P := P) (w := w) fn a.tmps ps assign body
    rw [hm] at h
    rw [h, ← hW1, hR]
  · simp only [resolve, hg]
    simp [go_sem]
  · intro f' hf'
    simp [Target.leads] at hf'
    subst hf'; exact hFg
  · simp [invoke, go_sem, eg]
  refine (hseq (m + 1) (fun pre W => I pre W ∧ TwoT m (R .ready none) W) (fun pre W => ∃ c, Ix c pre W ∧ TwoT m (R .done (some c)) W) W1 (hb0.trans (hbw.mono (by rw [← hm]; exact hb0.size)))
    (fun s A B row hs hgr hr => ⟨hI s A B row hs.1 hgr (up hr), hs.2.grown hgr (two hr)⟩)
    (fun s A B row hs hgr hr => by obtain ⟨c, hc, ht⟩ := hs; exact ⟨c, hIx' c s A B row hc hgr (up hr), ht.grown hgr (two hr)⟩)
    ?_ ⟨?_, hB1⟩).mono ?_
  · rintro pre x W ⟨hi, ht⟩ hlen
    have hy := run_yield (P := P) (args := encs x) ht.lp (by rw [hR]; exact hps x)
    rw [hR] at hy
    refine ⟨fn, _, assign, body, hy, roundIn_of_wpIn hfn (hassign _ x W _ ?_)⟩
    obtain ⟨Wb, hWb⟩ : ∃ Wb, W.putObj (m + 1) (.loop (R .busy none)) = Wb := ⟨_, rfl⟩
    have hbeg := run_beginRound (P := P) ht.lp (by rw [hR])
    have hbusy : ({ R .ready none with state := .busy } : Loop) = R .busy none := by rw [hR]
    rw [hbusy, hWb] at hbeg
    have htb : TwoT m (R .busy none) Wb := by rw [← hWb]; exact ht.turn _
    have hib : I pre Wb := by rw [← hWb]; exact hI.putObj _ hi (by omega) ht.lp ⟨rfl, rfl⟩
    have hkb : Kp W Wb := by rw [← hWb]; exact hKb _ _ _ _ (by omega) ht.lp rfl rfl
    refine ⟨Wb, hbeg, wpIn_mono (hbody _ pre x Wb (by omega) ⟨_, htb.lp⟩ hib hlen) ?_⟩
    have fin : ∀ (jump : Option Code) (W3 : World), KeepsT m Wb W3 → (Instr.endRound (m + 1) jump).run P W3 = .ok (.bool jump.isNone) (W3.putObj (m + 1) (.loop (R (if jump.isNone then .ready else .done) jump))) ∧ TwoT m (R .busy none) W3 := fun jump W3 hk => by
      have h3 := htb.kept hk
      have := run_endRound (P := P) jump h3.lp
      rw [hR] at this ⊢
      exact ⟨this, by rw [hR] at h3; exact h3⟩
    have hkw : ∀ (o : Obj) (W3 : World), KeepsT m Wb W3 → KeepsT W1.heap.size W (W3.putObj (m + 1) o) := fun o W3 hk => by
      rw [hsz]
      have h1 : KeepsT (m + 2) W Wb := by rw [← hWb]; exact KeepsT.of_put _ (by omega)
      exact (h1.trans (hk.mono (by omega))).put _ (by omega)
    have leave : ∀ (c : Code) (W3 : World), KeepsT m Wb W3 → Ix c (pre ++ [x]) W3 → ∃ v w', (Instr.endRound (m + 1) (some c)).run P W3 = .ok v w' ∧ ((Ending.returned v = .returned (.bool true) ∧ (I (pre ++ [x]) w' ∧ TwoT m (R .ready none) w') ∧ Kp W w' ∧ KeepsT W1.heap.size W w') ∨ (Ending.returned v = .returned (.bool false) ∧ (∃ c, Ix c (pre ++ [x]) w' ∧ TwoT m (R .done (some c)) w') ∧ KeepsT W1.heap.size W w')) := fun c W3 hk hx => by
      obtain ⟨hr, h3⟩ := fin (some c) W3 hk
      exact ⟨_, _, hr, .inr ⟨rfl, ⟨c, (hIx' c).putObj _ hx (by omega) h3.lp ⟨rfl, rfl⟩, h3.turn _⟩, hkw _ W3 hk⟩⟩
    intro e a3 W3 hp
    cases e with
    | normal =>
      obtain ⟨hk, hkp, hi3⟩ := hp
      obtain ⟨hr, h3⟩ := fin none W3 hk
      exact ⟨_, _, hr, .inl ⟨rfl, ⟨hI.putObj _ hi3 (by omega) h3.lp ⟨rfl, rfl⟩, h3.turn _⟩, hKt hkb (hKt hkp (hKb _ _ _ _ (by omega) h3.lp rfl rfl)), hkw _ W3 hk⟩⟩
    | ret => exact leave _ _ hp.1 hp.2
    | exit id => exact leave _ _ hp.1 hp.2
    | goto t => exact leave _ _ hp.1 hp.2
    | panic ch => exact hp.elim
    | outgrown => exact hp.elim
  · rw [← hW1]; exact hI.alloc _ (hI.alloc _ h0)
  · rintro e W2 ⟨⟨v, rfl⟩, (⟨xs, hS, hi, ht⟩ | ⟨pre, hSp, c, hi, ht⟩)⟩
    · have h := run_endLoop (P := P) ht.lp (by rw [hR]; simp)
      rw [hR] at h
      exact ⟨none, _, h, hdone m xs _ (Nat.le_refl _) hS (hI.putObj _ hi (by omega) ht.lp ⟨rfl, rfl⟩) ((World.putObj_heap_other (by omega)).trans ht.dfr)⟩
    · have h := run_endLoop (P := P) ht.lp (by rw [hR]; simp)
      rw [hR] at h
      exact ⟨some c, _, h, hstop m c pre _ (Nat.le_refl _) hSp ((hIx' c).putObj _ hi (by omega) ht.lp ⟨rfl, rfl⟩) ((World.putObj_heap_other (by omega)).trans ht.dfr)⟩
end Go.Proofs.Ytbnkecmhmcligaa

/-
  The shelf's contracts on sorted keys at this dump.
-/
namespace Go.Proofs
open Go.RowKit Go.Maps Go.Sort Go.Shelf
def Try.keys37_ren : Go.Shelf.Ren := ⟨fun | 7 => 37 | 10 => 46 | n => n, fun | 23 => 41 | 26 => 9 | 3 => 46 | 28 => 48 | 0 => 0 | 27 => 47 | 33 => 67 | 4 => 4 | n => n, fun | n => n⟩
theorem Try.keys37 : Go.Proofs.SlLaysZ.n7 Try.prog Try.keys37_ren := {
  mixed := by kernel_rfl
  f7 := ⟨Try.f37.name, by decide, Try.func37.trans (congrArg some (by kernel_rfl))⟩
  f10 := ⟨Try.f46.name, by decide, Try.func46.trans (congrArg some (by kernel_rfl))⟩
  t0 := Try.underlying0
  a0 := Try.isAgg0
  z0 := Try.sizeOf0
  v0 := Try.zeroValue0
  t4 := Try.underlying4
  a4 := Try.isAgg4
  z4 := Try.sizeOf4
  v4 := Try.zeroValue4
  t23 := Try.underlying41
  a23 := Try.isAgg41
  z23 := Try.sizeOf41
  v23 := Try.zeroValue41
  t26 := Try.underlying9
  a26 := Try.isAgg9
  z26 := Try.sizeOf9
  v26 := Try.zeroValue9
  t27 := Try.underlying47
  a27 := Try.isAgg47
  z27 := Try.sizeOf47
  v27 := Try.zeroValue47
  t28 := Try.underlying48
  a28 := Try.isAgg48
  z28 := Try.sizeOf48
  v28 := Try.zeroValue48
  t33 := Try.underlying67
  a33 := Try.isAgg67
  z33 := Try.sizeOf67
  v33 := Try.zeroValue67 }
def Try.sorted36_ren : Go.Shelf.Ren := ⟨fun | 6 => 36 | 8 => 44 | 9 => 45 | 11 => 51 | 13 => 53 | 12 => 52 | 23 => 64 | 24 => 65 | 14 => 55 | 15 => 56 | 16 => 57 | 17 => 58 | 18 => 59 | 19 => 60 | 20 => 61 | 21 => 62 | 22 => 63 | 25 => 66 | 26 => 67 | 27 => 68 | 28 => 69 | 29 => 70 | 30 => 71 | 31 => 72 | n => n, fun | 26 => 9 | 28 => 48 | 24 => 27 | 0 => 0 | 3 => 3 | 37 => 92 | 48 => 103 | 50 => 105 | 4 => 4 | 40 => 96 | 39 => 95 | 45 => 38 | 5 => 5 | 9 => 9 | 51 => 106 | 55 => 110 | 57 => 112 | 58 => 113 | 33 => 67 | n => n, fun | n => n⟩
theorem Try.sorted36 : Go.Proofs.SlLaysZ.n6 Try.prog Try.sorted36_ren := {
  mixed := by kernel_rfl
  f6 := ⟨Try.f36.name, by decide, Try.func36.trans (congrArg some (by kernel_rfl))⟩
  f8 := ⟨Try.f44.name, by decide, Try.func44.trans (congrArg some (by kernel_rfl))⟩
  f11 := ⟨Try.f51.name, by decide, Try.func51.trans (congrArg some (by kernel_rfl))⟩
  t0 := Try.underlying0
  a0 := Try.isAgg0
  z0 := Try.sizeOf0
  v0 := Try.zeroValue0
  t24 := Try.underlying27
  a24 := Try.isAgg27
  z24 := Try.sizeOf27
  v24 := Try.zeroValue27
  t26 := Try.underlying9
  a26 := Try.isAgg9
  z26 := Try.sizeOf9
  v26 := Try.zeroValue9
  t28 := Try.underlying48
  a28 := Try.isAgg48
  z28 := Try.sizeOf48
  v28 := Try.zeroValue48
  i26 := by kernel_rfl }
def Try.sort45_ren : Go.Shelf.Ren := ⟨fun | 6 => 45 | 8 => 53 | 9 => 52 | 19 => 64 | 20 => 65 | 21 => 55 | 22 => 56 | 23 => 57 | 24 => 58 | 25 => 59 | 26 => 60 | 27 => 61 | 28 => 62 | 29 => 63 | 36 => 66 | 31 => 67 | 32 => 68 | 37 => 69 | 38 => 70 | 39 => 71 | 41 => 72 | n => n, fun | 27 => 27 | 29 => 9 | 3 => 3 | 32 => 92 | 26 => 27 | 0 => 0 | 44 => 103 | 46 => 105 | 4 => 4 | 36 => 96 | 35 => 95 | 41 => 38 | 5 => 5 | 9 => 9 | 53 => 106 | 57 => 110 | 63 => 112 | 64 => 113 | n => n, fun | n => n⟩
theorem Try.sort45 : Go.Proofs.SlLaysM.n6 Try.prog Try.sort45_ren := {
  mixed := by kernel_rfl
  f6 := ⟨Try.f45.name, by decide, Try.func45.trans (congrArg some (by kernel_rfl))⟩
  f8 := Try.func53.trans (congrArg some (by kernel_rfl))
  f9 := ⟨Try.f52.name, by decide, Try.func52.trans (congrArg some (by kernel_rfl))⟩
  f19 := Try.func64.trans (congrArg some (by kernel_rfl))
  f20 := Try.func65.trans (congrArg some (by kernel_rfl))
  f21 := ⟨Try.f55.name, by decide, Try.func55.trans (congrArg some (by kernel_rfl))⟩
  f22 := ⟨Try.f56.name, by decide, Try.func56.trans (congrArg some (by kernel_rfl))⟩
  f23 := ⟨Try.f57.name, by decide, Try.func57.trans (congrArg some (by kernel_rfl))⟩
  f24 := ⟨Try.f58.name, by decide, Try.func58.trans (congrArg some (by kernel_rfl))⟩
  f25 := ⟨Try.f59.name, by decide, Try.func59.trans (congrArg some (by kernel_rfl))⟩
  f26 := ⟨Try.f60.name, by decide, Try.func60.trans (congrArg some (by kernel_rfl))⟩
  f27 := ⟨Try.f61.name, by decide, Try.func61.trans (congrArg some (by kernel_rfl))⟩
  f28 := ⟨Try.f62.name, by decide, Try.func62.trans (congrArg some (by kernel_rfl))⟩
  f29 := ⟨Try.f63.name, by decide, Try.func63.trans (congrArg some (by kernel_rfl))⟩
  f31 := Try.func67.trans (congrArg some (by kernel_rfl))
  f32 := Try.func68.trans (congrArg some (by kernel_rfl))
  f36 := ⟨Try.f66.name, by decide, Try.func66.trans (congrArg some (by kernel_rfl))⟩
  f37 := ⟨Try.f69.name, by decide, Try.func69.trans (congrArg some (by kernel_rfl))⟩
  f38 := ⟨Try.f70.name, by decide, Try.func70.trans (congrArg some (by kernel_rfl))⟩
  f39 := ⟨Try.f71.name, by decide, Try.func71.trans (congrArg some (by kernel_rfl))⟩
  f41 := ⟨Try.f72.name, by decide, Try.func72.trans (congrArg some (by kernel_rfl))⟩
  t0 := Try.underlying0
  a0 := Try.isAgg0
  z0 := Try.sizeOf0
  v0 := Try.zeroValue0
  t3 := Try.underlying3
  a3 := Try.isAgg3
  z3 := Try.sizeOf3
  v3 := Try.zeroValue3
  t4 := Try.underlying4
  a4 := Try.isAgg4
  z4 := Try.sizeOf4
  v4 := Try.zeroValue4
  t5 := Try.underlying5
  a5 := Try.isAgg5
  z5 := Try.sizeOf5
  v5 := Try.zeroValue5
  t9 := Try.underlying9
  a9 := Try.isAgg9
  z9 := Try.sizeOf9
  v9 := Try.zeroValue9
  t26 := Try.underlying27
  a26 := Try.isAgg27
  z26 := Try.sizeOf27
  v26 := Try.zeroValue27
  t27 := Try.underlying27
  a27 := Try.isAgg27
  z27 := Try.sizeOf27
  v27 := Try.zeroValue27
  t29 := Try.underlying9
  a29 := Try.isAgg9
  z29 := Try.sizeOf9
  v29 := Try.zeroValue9
  t32 := Try.underlying92
  a32 := Try.isAgg92
  z32 := Try.sizeOf92
  v32 := Try.zeroValue92
  t35 := Try.underlying95
  a35 := Try.isAgg95
  z35 := Try.sizeOf95
  v35 := Try.zeroValue95
  t36 := Try.underlying96
  a36 := Try.isAgg96
  z36 := Try.sizeOf96
  v36 := Try.zeroValue96
  t41 := Try.underlying38
  a41 := Try.isAgg38
  z41 := Try.sizeOf38
  v41 := Try.zeroValue38
  t44 := Try.underlying103
  a44 := Try.isAgg103
  z44 := Try.sizeOf103
  v44 := Try.zeroValue103
  t46 := Try.underlying105
  a46 := Try.isAgg105
  z46 := Try.sizeOf105
  v46 := Try.zeroValue105
  t53 := Try.underlying106
  a53 := Try.isAgg106
  z53 := Try.sizeOf106
  v53 := Try.zeroValue106
  t57 := Try.underlying110
  a57 := Try.isAgg110
  z57 := Try.sizeOf110
  v57 := Try.zeroValue110
  t63 := Try.underlying112
  a63 := Try.isAgg112
  z63 := Try.sizeOf112
  v63 := Try.zeroValue112
  t64 := Try.underlying113
  a64 := Try.isAgg113
  z64 := Try.sizeOf113
  v64 := Try.zeroValue113 }
def Try.keys38_ren : Go.Shelf.Ren := ⟨fun | 7 => 38 | 10 => 47 | n => n, fun | 23 => 58 | 26 => 9 | 3 => 63 | 28 => 48 | 0 => 0 | 27 => 47 | 33 => 67 | 4 => 4 | n => n, fun | n => n⟩
theorem Try.keys38 : Go.Proofs.SlLaysZ.n7 Try.prog Try.keys38_ren := {
  mixed := by kernel_rfl
  f7 := ⟨Try.f38.name, by decide, Try.func38.trans (congrArg some (by kernel_rfl))⟩
  f10 := ⟨Try.f47.name, by decide, Try.func47.trans (congrArg some (by kernel_rfl))⟩
  t0 := Try.underlying0
  a0 := Try.isAgg0
  z0 := Try.sizeOf0
  v0 := Try.zeroValue0
  t4 := Try.underlying4
  a4 := Try.isAgg4
  z4 := Try.sizeOf4
  v4 := Try.zeroValue4
  t23 := Try.underlying58
  a23 := Try.isAgg58
  z23 := Try.sizeOf58
  v23 := Try.zeroValue58
  t26 := Try.underlying9
  a26 := Try.isAgg9
  z26 := Try.sizeOf9
  v26 := Try.zeroValue9
  t27 := Try.underlying47
  a27 := Try.isAgg47
  z27 := Try.sizeOf47
  v27 := Try.zeroValue47
  t28 := Try.underlying48
  a28 := Try.isAgg48
  z28 := Try.sizeOf48
  v28 := Try.zeroValue48
  t33 := Try.underlying67
  a33 := Try.isAgg67
  z33 := Try.sizeOf67
  v33 := Try.zeroValue67 }
theorem Try.sorts36 (m : Nat) : AnyZ.SortsIn Try.prog Try.sorted36_ren Fence.wide m :=
  ⟨fun blk off cap ss W hH hblk hsz => callsIn_wide.2 (AnyM.slices_Sort_string Try.sort45 blk off cap ss W hH hblk hsz),
   fun p cap W => callsIn_wide.2 (AnyM.slices_Sort_string_none Try.sort45 p cap W)⟩
theorem Try.maps_Keys_37 (mb : Option Nat) (W : World) : CallsIn Fence.wide 5 Try.prog 37 #[.map mb] W fun e w' => e = .returned (.func (.func 46) #[] #[.pointer (some ⟨W.heap.size, 0, none⟩)]) ∧ w' = W.alloc (.cells #[.map mb] 41) :=
  AnyZ.keys_in Try.keys37 Fence.wide 5 trivial rfl mb W
set_option maxHeartbeats 1000000 in
theorem Try.slices_Sorted_keys_36_37 {H : Type} (b nn : Nat) (D0 : DataW H) (R : Value → Option (DataW H × List MemPlace)) (w : World) (hown : w.ownsMap Try.prog 9 R b nn D0) (hmax : Maps.size D0 ≤ maxLen) (hbytes : Maps.size D0 * 16 ≤ 140737488355328) :
    CallsIn Fence.wide 5 Try.prog 36 #[.func (.func 46) #[] #[.pointer (some ⟨w.heap.size, 0, none⟩)]] (w.alloc (.cells #[.map (some b)] 41)) fun e w' => ∃ (v : Value) (ss : List (List UInt8)), e = .returned v ∧ ss.Perm (strKeys D0) ∧
      w'.ownsRow (w.alloc (.cells #[.map (some b)] 41)).heap.size 9 1 v ss.length ((ss.mergeSort (fun x y => decide (x ≤ y))).map encStr) ∧ (v = .slice none 0 0 ↔ ss = []) ∧ Below (w.alloc (.cells #[.map (some b)] 41)).heap.size (w.alloc (.cells #[.map (some b)] 41)) w' := by
  have hbl := hown.lt
  have hseq : SeqGives Fence.wide 2 Try.prog 46 #[.pointer (some ⟨w.heap.size, 0, none⟩)] encStr (fun ss => ss.Perm (strKeys D0)) (Maps.size D0) (w.alloc (.cells #[.map (some b)] 41)) :=
    AnyZ.keys_gives (ρ := Try.keys37_ren) { Try.keys37 with } Fence.wide _ trivial rfl (by omega) w.heap.size b nn D0 _ (by simp) (by simp) (by
      obtain ⟨es, clock, hb, Ft, hs, hD⟩ := hown
      exact ⟨es, clock, (Below.heap_alloc _ _ b hbl).trans hb, Ft, hs, hD⟩)
  exact AnyZ.sorted_in Try.sorted36 Fence.wide 5 trivial trivial trivial trivial rfl (by omega) (Try.sorts36 _) (enters_of Try.func45 (by kernel_rfl) rfl) 46 #[.pointer (some ⟨w.heap.size, 0, none⟩)] trivial (enters_of Try.func46 (by kernel_rfl) rfl) _ _ hmax hbytes _ hseq
set_option maxHeartbeats 1000000 in
theorem Try.slices_Sorted_keys_nil_36_37 (w : World) :
    CallsIn Fence.wide 5 Try.prog 36 #[.func (.func 46) #[] #[.pointer (some ⟨w.heap.size, 0, none⟩)]] (w.alloc (.cells #[.map none] 41)) fun e w' => ∃ (v : Value) (ss : List (List UInt8)), e = .returned v ∧ ss = [] ∧
      w'.ownsRow (w.alloc (.cells #[.map none] 41)).heap.size 9 1 v ss.length ((ss.mergeSort (fun x y => decide (x ≤ y))).map encStr) ∧ (v = .slice none 0 0 ↔ ss = []) ∧ Below (w.alloc (.cells #[.map none] 41)).heap.size (w.alloc (.cells #[.map none] 41)) w' := by
  have hseq : SeqGives Fence.wide 2 Try.prog 46 #[.pointer (some ⟨w.heap.size, 0, none⟩)] encStr (fun ss : List (List UInt8) => ss = []) 0 (w.alloc (.cells #[.map none] 41)) :=
    AnyZ.keys_gives_nil (ρ := Try.keys37_ren) { Try.keys37 with } Fence.wide _ trivial rfl w.heap.size _ (by simp) (by simp)
  exact AnyZ.sorted_in Try.sorted36 Fence.wide 5 trivial trivial trivial trivial rfl (by omega) (Try.sorts36 _) (enters_of Try.func45 (by kernel_rfl) rfl) 46 #[.pointer (some ⟨w.heap.size, 0, none⟩)] trivial (enters_of Try.func46 (by kernel_rfl) rfl) _ 0 (Nat.zero_le _) (by omega) _ hseq
theorem Try.maps_Keys_38 (mb : Option Nat) (W : World) : CallsIn Fence.wide 5 Try.prog 38 #[.map mb] W fun e w' => e = .returned (.func (.func 47) #[] #[.pointer (some ⟨W.heap.size, 0, none⟩)]) ∧ w' = W.alloc (.cells #[.map mb] 58) :=
  AnyZ.keys_in Try.keys38 Fence.wide 5 trivial rfl mb W
set_option maxHeartbeats 1000000 in
theorem Try.slices_Sorted_keys_36_38 {H : Type} (b nn : Nat) (D0 : DataW H) (R : Value → Option (DataW H × List MemPlace)) (w : World) (hown : w.ownsMap Try.prog 9 R b nn D0) (hmax : Maps.size D0 ≤ maxLen) (hbytes : Maps.size D0 * 16 ≤ 140737488355328) :
    CallsIn Fence.wide 5 Try.prog 36 #[.func (.func 47) #[] #[.pointer (some ⟨w.heap.size, 0, none⟩)]] (w.alloc (.cells #[.map (some b)] 58)) fun e w' => ∃ (v : Value) (ss : List (List UInt8)), e = .returned v ∧ ss.Perm (strKeys D0) ∧
      w'.ownsRow (w.alloc (.cells #[.map (some b)] 58)).heap.size 9 1 v ss.length ((ss.mergeSort (fun x y => decide (x ≤ y))).map encStr) ∧ (v = .slice none 0 0 ↔ ss = []) ∧ Below (w.alloc (.cells #[.map (some b)] 58)).heap.size (w.alloc (.cells #[.map (some b)] 58)) w' := by
  have hbl := hown.lt
  have hseq : SeqGives Fence.wide 2 Try.prog 47 #[.pointer (some ⟨w.heap.size, 0, none⟩)] encStr (fun ss => ss.Perm (strKeys D0)) (Maps.size D0) (w.alloc (.cells #[.map (some b)] 58)) :=
    AnyZ.keys_gives (ρ := Try.keys38_ren) { Try.keys38 with } Fence.wide _ trivial rfl (by omega) w.heap.size b nn D0 _ (by simp) (by simp) (by
      obtain ⟨es, clock, hb, Ft, hs, hD⟩ := hown
      exact ⟨es, clock, (Below.heap_alloc _ _ b hbl).trans hb, Ft, hs, hD⟩)
  exact AnyZ.sorted_in Try.sorted36 Fence.wide 5 trivial trivial trivial trivial rfl (by omega) (Try.sorts36 _) (enters_of Try.func45 (by kernel_rfl) rfl) 47 #[.pointer (some ⟨w.heap.size, 0, none⟩)] trivial (enters_of Try.func47 (by kernel_rfl) rfl) _ _ hmax hbytes _ hseq
set_option maxHeartbeats 1000000 in
theorem Try.slices_Sorted_keys_nil_36_38 (w : World) :
    CallsIn Fence.wide 5 Try.prog 36 #[.func (.func 47) #[] #[.pointer (some ⟨w.heap.size, 0, none⟩)]] (w.alloc (.cells #[.map none] 58)) fun e w' => ∃ (v : Value) (ss : List (List UInt8)), e = .returned v ∧ ss = [] ∧
      w'.ownsRow (w.alloc (.cells #[.map none] 58)).heap.size 9 1 v ss.length ((ss.mergeSort (fun x y => decide (x ≤ y))).map encStr) ∧ (v = .slice none 0 0 ↔ ss = []) ∧ Below (w.alloc (.cells #[.map none] 58)).heap.size (w.alloc (.cells #[.map none] 58)) w' := by
  have hseq : SeqGives Fence.wide 2 Try.prog 47 #[.pointer (some ⟨w.heap.size, 0, none⟩)] encStr (fun ss : List (List UInt8) => ss = []) 0 (w.alloc (.cells #[.map none] 58)) :=
    AnyZ.keys_gives_nil (ρ := Try.keys38_ren) { Try.keys38 with } Fence.wide _ trivial rfl w.heap.size _ (by simp) (by simp)
  exact AnyZ.sorted_in Try.sorted36 Fence.wide 5 trivial trivial trivial trivial rfl (by omega) (Try.sorts36 _) (enters_of Try.func45 (by kernel_rfl) rfl) 47 #[.pointer (some ⟨w.heap.size, 0, none⟩)] trivial (enters_of Try.func47 (by kernel_rfl) rfl) _ 0 (Nat.zero_le _) (by omega) _ hseq
end Go.Proofs

